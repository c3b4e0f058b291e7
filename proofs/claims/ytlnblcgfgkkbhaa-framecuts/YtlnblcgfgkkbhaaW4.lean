/-
  A slice of slices of bytes; the contract of frame's join. Its conditions: the parts read as bytes, and what they come to fits memory.
-/
import Derived.Test.YtlnblcgfgkkbhaaW3
namespace Go.Proofs.Ytlnblcgfgkkbhaa
open Go.RowKit

/-- A slice (its address A) of slices that read as the lists of bytes ps. -/
def Parts (w : World) (A : Option Addr) (ps : List (List Nat)) : Prop :=
  0 < ps.length → ∃ b off, A = some ⟨b, off, none⟩ ∧ b < w.heap.size ∧ ∀ (k : Nat) (p : List Nat), ps[k]? = some p → ∃ a c, w.cell? ⟨b, off + k, none⟩ = some (.slice a p.length c) ∧ Bytes w a p ∧ (a = none → c = 0)
theorem Parts.below {w w' : World} {A : Option Addr} {ps : List (List Nat)} (h : Parts w A ps) (hb : Below w.heap.size w w') : Parts w' A ps := by
  intro hn
  obtain ⟨b, off, hA, hlt, hc⟩ := h hn
  refine ⟨b, off, hA, Nat.lt_of_lt_of_le hlt hb.size, fun k p hk => ?_⟩
  obtain ⟨a, c, h1, h2, h3⟩ := hc k p hk
  exact ⟨a, c, by rw [hb.cell (p := ⟨b, off + k, none⟩) hlt]; exact h1, h2.below hb, h3⟩

theorem OwnB.nil (w : World) : OwnB w w [] (.slice none 0 0) := ⟨⟨rfl, .inl ⟨rfl, rfl⟩⟩, by simp, fun q hq => by simp [Value.ownBlock] at hq, Below.refl _ _⟩
/-- A slice without spare room, in new memory. -/
def Tight (w : World) (L : List Nat) (e : Ending) (w' : World) : Prop := ∃ A, e = .returned (.slice A L.length L.length) ∧ Got w w' L (.slice A L.length L.length)
theorem flatten_take (ps : List (List Nat)) (k : Nat) (h : k < ps.length) : (ps.take (k + 1)).flatten = (ps.take k).flatten ++ ps[k] := by
  rw [List.take_succ_eq_append_getElem h, List.flatten_append]
  simp
theorem flatten_take_le (ps : List (List Nat)) (k : Nat) : (ps.take k).flatten.length ≤ ps.flatten.length := by
  conv => rhs; rw [← List.take_append_drop k ps, List.flatten_append, List.length_append]
  omega
theorem tight_slice {w w' : World} {A : Option Addr} {L : List Nat} {c : Nat} (h : Got w w' L (.slice A L.length c)) : Tight w L (.returned (.slice A L.length L.length)) w' := by
  obtain ⟨A', c', e, h1, h2, h3, h4, h5, h6⟩ := h
  injection e with e1 e2 e3
  subst e1 e3
  refine ⟨A, rfl, A, _, rfl, h1, Nat.le_refl _, by omega, fun ha => ?_, h5, h6⟩
  have := h4 ha
  omega
set_option maxHeartbeats 400000 in
theorem join_any (ps : List (List Nat)) (n : Nat) (A : Option Addr) (c : Nat) (w : World) (h : Parts w A ps) (hn : ps.length = n) (hN : n ≤ maxLen) (hm : ps.flatten.length ≤ 200000000000000) :
    Calls Try.prog 18 #[.slice A n c] w (Tight w ps.flatten) := by
  unfold maxLen at hN
  have HM := Lib.hid hm
  have H := Lib.hid h
  have HN := Lib.hid hn
  clear h hm hn
  go_enter Try.func18, Try.ntmps18
  go_wp2
  go_loopw [3, 8] (fun v i wr => ∃ (k : Nat) (Av : Option Addr) (cv m : Nat), k ≤ n ∧ i = .int .i64 k ∧ v = .slice Av m cv ∧ m = (ps.take k).flatten.length ∧ OwnB w wr (ps.take k).flatten (.slice Av m cv)) (fun _ i _ => n - (intOf i).toNat)
  case atStart => exact ⟨0, none, 0, 0, Nat.zero_le _, rfl, rfl, by simp, by simpa using OwnB.nil w⟩
  case round =>
    obtain ⟨k, Av, cv, m, hk, rfl, rfl, hml, hown⟩ := hrel
    have HO := Lib.hid hown
    have HL := Lib.hid hml
    clear hown hml
    by_cases hlt : k < n
    · have hkl : k < ps.length := by have := HN.out; omega
      obtain ⟨b, off, rfl, hbl, hce⟩ := (H.out.below (HO.out.bel)) (by have := HN.out; omega)
      obtain ⟨a, d, hc1, hby, had⟩ := hce k ps[k] (List.getElem?_eq_getElem hkl)
      obtain ⟨v', w', hr, ho, hb'⟩ := HO.out.append hby had (by
        have h1 := flatten_take_le ps (k + 1)
        rw [flatten_take ps k hkl, List.length_append] at h1
        have := HM.out
        omega) 22
      obtain ⟨A2, c2, rfl⟩ := ho.form
      obtain ⟨m2, hm2⟩ : ∃ m2, m2 = ((ps.take k).flatten ++ ps[k]).length := ⟨_, rfl⟩
      rw [← hm2] at hr ho
      have HM2 := Lib.hid hm2
      clear hm2
      have HR := Lib.hid hr
      have HO2 := Lib.hid ho
      clear hr ho hce hby had hb'
      go_wp2_with (at_builtin; refine wpList_append_run rfl _ _ 22 22 rfl _ _ rfl rfl _ w' HR.out ?_)
      go_roundw
      case rel => exact ⟨k + 1, A2, c2, _, by omega, by go_num, rfl, by rw [flatten_take ps k hkl]; exact HM2.out, by rw [flatten_take ps k hkl]; exact HO2.out⟩
      case measure => simp [intOf]; omega
    · have hmc : m ≤ cv := by
        have h1 := HO.out.1
        rw [← HL.out] at h1
        exact (owns_facts h1).1
      have HP : Hid (Tight w ps.flatten (.returned (.slice Av m m)) wr) := by
        have e : ps.take k = ps := List.take_of_length_le (by have := HN.out; omega)
        have h1 := HO.out
        have h2 := HL.out
        rw [e] at h1 h2
        subst h2
        exact tight_slice (h1.got (by have := HM.out; unfold maxLen; omega))
      go_wp2
      go_ret
      exact HP.out
end Go.Proofs.Ytlnblcgfgkkbhaa
