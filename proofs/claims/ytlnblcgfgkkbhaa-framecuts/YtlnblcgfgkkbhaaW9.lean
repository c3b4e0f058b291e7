/-
  The contracts of frame's Cut and of the statements' example. Their conditions: the slice reads as bytes, and is of at most 1048576.
-/
import Derived.Test.YtlnblcgfgkkbhaaW8
namespace Go.Proofs.Ytlnblcgfgkkbhaa
open Go.RowKit

/-- What Cut answers. -/
def CutPost (w : World) (l : List Nat) (e : Ending) (w' : World) : Prop :=
  ∃ (ps : List (List Nat)) (k : Nat) (A : Option Addr) (m c : Nat) (er : Int), Fr.CutIs l ps k ∧ ps.length = m ∧ er = (if k = l.length then 0 else 2) ∧ e = .returned (.tuple #[.slice A m c, .int .i64 (k : Int), .int .i64 er]) ∧ OwnP w w' ps (.slice A m c)
theorem Fr.cut_next {l p : List Nat} {ps : List (List Nat)} {k : Nat} (hl : Fr.Oct l) (hk : k ≤ l.length) (h : l.take k = Fr.flat ps) (hf : Fr.first (l.drop k) = some p) : k + (8 + p.length) ≤ l.length ∧ l.take (k + (8 + p.length)) = Fr.flat (ps ++ [p]) ∧ Fr.Good p := by
  have ho : Fr.Oct (l.drop k) := fun c hc => hl c (List.mem_of_mem_drop hc)
  obtain ⟨hg, e⟩ := Fr.first_some ho hf
  have h1 := (Fr.first_le ho hf).2.2
  rw [List.length_drop] at h1
  refine ⟨by omega, ?_, hg⟩
  rw [List.take_add, h, Fr.flat_snoc]
  congr 1
  rw [e]
  exact Fr.take_len _ _ _ (Fr.frame_length p)
def CutRel (w : World) (l : List Nat) (v i : Value) (wr : World) : Prop :=
  ∃ (ps : List (List Nat)) (k : Nat) (A : Option Addr) (m c : Nat), v = .slice A m c ∧ ps.length = m ∧ i = .int .i64 (k : Int) ∧ k ≤ l.length ∧ l.take k = Fr.flat ps ∧ (∀ p ∈ ps, Fr.Good p) ∧ OwnP w wr ps (.slice A m c)
set_option maxHeartbeats 1000000 in
theorem cut_any (l : List Nat) (A : Option Addr) (n c : Nat) (w : World) (h : Bytes w A l) (hn : l.length = n) (hc : n ≤ c) (hm : n ≤ 1048576) : Calls Try.prog 14 #[.slice A n c] w (CutPost w l) := by
  have H := Lib.hid h
  have HN := Lib.hid hn
  have HM := Lib.hid hm
  clear h hn hm
  go_enter Try.func14, Try.ntmps14
  go_wp2
  go_loopw [5, 6] (CutRel w l) (fun _ i _ => n - (intOf i).toNat)
  case atStart => exact ⟨[], 0, none, 0, 0, rfl, rfl, rfl, Nat.zero_le _, rfl, by simp, OwnP.nil w w (Below.refl _ _)⟩
  case round =>
    obtain ⟨ps, k, Av, m, cv, rfl, hps, rfl, hkl, htk, hgood, hown⟩ := hrel
    have HPS := Lib.hid hps
    have HTK := Lib.hid htk
    have HGD := Lib.hid hgood
    have HO := Lib.hid hown
    rw [HN.out] at hkl
    clear hps htk hgood hown
    by_cases hlt : k < n
    · obtain ⟨b, off, rfl, _, _⟩ := H.out.2.2 (by have := HN.out; omega)
      have HD : Hid (Bytes wr (some ⟨b, off + k, none⟩) (l.drop k)) := by
        have := (H.out.below HO.out.bel).drop k c (by have := HN.out; omega)
        rw [if_neg (by omega)] at this
        have h2 : (some (⟨b, off, none⟩ : Addr)).map (·.add k) = some ⟨b, off + k, none⟩ := by simp [addr_add]
        rw [h2] at this
        exact this
      have HC := Lib.hid (first_any (l.drop k) (some ⟨b, off + k, none⟩) (n - k) (c - k) wr HD.out (by rw [List.length_drop, HN.out]) (by omega))
      go_wp2_with fail
      refine HC.out.mono ?_
      rintro e w1 ⟨b1, ⟨hf, rfl⟩ | ⟨p, P, mp, hf, hmp, rfl, hy⟩⟩
      · have B1 := Lib.hid b1
        have kn := Lib.run_eql_slice_nil (P := Try.prog) w1 22 5 none 0 0 0 0 Try.underlying22
        have HQ : Hid (CutPost w l (.returned (.tuple #[.slice Av m cv, .int .i64 (k : Int), .int .i64 2])) w1) :=
          ⟨ps, k, Av, m, cv, 2, ⟨HGD.out, by rw [HN.out]; omega, HTK.out, hf⟩, HPS.out, by rw [if_neg (by rw [HN.out]; omega)], rfl, HO.out.keep b1⟩
        clear hf b1
        go_wp2
        go_ret3
        exact HQ.out
      · obtain ⟨q1, q2, q3⟩ := Fr.cut_next H.out.1 (by rw [HN.out]; omega) HTK.out hf
        have hpl := (Fr.first_le (fun x hx => H.out.1 x (List.mem_of_mem_drop hx)) hf).1
        rw [hmp] at q1 q2 hpl
        rw [HN.out] at q1
        have Q2 := Lib.hid q2
        have Q3 := Lib.hid q3
        have HMP := Lib.hid hmp
        have HPL := Lib.hid hpl
        have Y := Lib.hid (hy.below b1)
        have B1 := Lib.hid b1
        have HO1 := Lib.hid (HO.out.keep b1)
        clear q2 q3 hmp hpl hy b1 hf
        have kn := Lib.run_eql_slice_nil (P := Try.prog) w1 22 5 (some P) mp mp 0 0 Try.underlying22
        have HP := Lib.hid (parts1 w1 p (some P) mp mp HMP.out.symm Y.out (fun h => by cases h))
        go_wp2_with fail
        refine (join_any [p] 1 _ 1 _ HP.out rfl (by unfold maxLen; omega) (by have := HMP.out; have := HPL.out; simp; omega)).mono ?_
        rintro e w2 ⟨A2, rfl, g2⟩
        have e2 : [p].flatten = p := by simp
        rw [e2, HMP.out] at g2
        rw [e2, HMP.out]
        obtain ⟨z1, y2, z2, z3, a2, n2, b2⟩ := g2.parts
        have hb12 : Below w1.heap.size w1 w2 := ((Below.refl _ w1).alloc (Nat.le_refl _) _).trans (b2.mono (by simp))
        have HO2 := HO1.out.keep hb12
        have hlen : ps.length + 1 ≤ 9000000000000 := by
          have h1 := Fr.flat_length ps
          rw [← HTK.out, List.length_take] at h1
          have := HM.out
          omega
        obtain ⟨v', w', hr, ho, _⟩ := HO2.append (c := mp) (n := mp) HMP.out.symm y2 a2 hlen (fun ad had _ e => by
          have h1 := (n2 ad had).1
          have h2 := HO1.out.lt _ e
          simp at h1
          omega) 30
        obtain ⟨A', c', rfl⟩ := ho.form
        rw [show (ps ++ [p]).length = m + 1 by rw [List.length_append, HPS.out]; rfl] at hr ho
        have HR := Lib.hid hr
        have HOO := Lib.hid ho
        have hni : (k : Int) + (8 + (mp : Int)) ≤ 1048576 := by have := HM.out; omega
        have hmi : (mp : Int) ≤ 65536 := by have := HPL.out; omega
        clear hr ho g2 e2 y2 a2 n2 b2 hb12 HO2 hlen z1 z2 z3
        go_wp2_with (at_builtin; refine wpList_append_run rfl _ _ 30 30 rfl _ _ rfl rfl _ w' HR.out ?_)
        go_roundw
        case rel => exact ⟨ps ++ [p], k + (8 + mp), A', m + 1, c', rfl, by rw [List.length_append, HPS.out]; rfl, by go_num, by rw [HN.out]; omega, Q2.out, fun x hx => (List.mem_append.mp hx).elim (HGD.out x) (fun h => by simp at h; subst h; exact Q3.out), HOO.out⟩
        case measure => simp [intOf]; omega
    · have HQ : Hid (CutPost w l (.returned (.tuple #[.slice Av m cv, .int .i64 (k : Int), .int .i64 0])) wr) :=
          ⟨ps, k, Av, m, cv, 0, ⟨HGD.out, by rw [HN.out]; omega, HTK.out, by rw [List.drop_of_length_le (by rw [HN.out]; omega)]; rfl⟩, HPS.out, by rw [if_pos (by rw [HN.out]; omega)], rfl, HO.out⟩
      go_wp2
      go_ret3
      exact HQ.out
end Go.Proofs.Ytlnblcgfgkkbhaa
