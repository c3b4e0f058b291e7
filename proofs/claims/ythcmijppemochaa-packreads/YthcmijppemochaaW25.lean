/-
  The contracts of the document's Reader: Flag whole, and Text. Their conditions: the reader is the call's own, its bytes lie elsewhere and fit memory.
-/
import Derived.Test.YthcmijppemochaaW24
import Derived.Test.YthcmijppemochaaW20
namespace Go.Proofs.Ythcmijppemochaa
open Go.RowKit Go.Sort

theorem refflag_any (h : Nat) (A : Option Addr) (c : Nat) (b : List Nat) (s : Option (List Nat)) (w : World) (hr : RR w h A c b s) (hb : Bytes w A b) (hA : 0 < b.length → ∀ ad, A = some ad → ad.block ≠ h) (hm : b.length ≤ 140737488355328) :
    Calls Try.prog 21 #[.pointer (some ⟨h, 0, none⟩)] w (RfPost w h A c b (.bool (rflagB s)) (Pk.rcount s 1).2) := by
  obtain ⟨a, bad, ha, hbx, ⟨rfl, rfl⟩ | ⟨rfl, rfl⟩⟩ := hr
  · exact refflag_fault h A c a b true w hbx ha hb (.inl rfl)
  · by_cases hlt : a < b.length
    · have hd : b.drop a = b[a] :: b.drop (a + 1) := List.drop_eq_getElem_cons hlt
      have hf := rcount_flag (x := b[a]) (R := b.drop (a + 1)) (fun x hx => hb.1 x (by rw [← hd] at hx; exact List.mem_of_mem_drop hx))
      rw [← hd] at hf
      unfold rflagB
      rw [hf]
      by_cases hx : b[a] ≤ 1
      · rw [if_pos hx]
        exact refflag_ok h A c a b[a] b w hbx hlt rfl hx hb hA hm
      · rw [if_neg hx]
        exact refflag_fault h A c a b false w hbx ha hb (.inr (.inr ⟨rfl, hlt, by omega⟩))
    · have hd : b.drop a = [] := List.drop_of_length_le (by omega)
      unfold rflagB
      rw [hd, rcount_empty]
      exact refflag_fault h A c a b false w hbx ha hb (.inr (.inl ⟨rfl, by omega⟩))

theorem rcount_most (s : Option (List Nat)) : Pk.rcount s 9007199254740992 = numS s := by
  have h1 := rcount_le s 9007199254740992
  rw [rcount_eq]
  by_cases h : (9007199254740992 : Int) < ((numS s).1 : Int)
  · exfalso
    have hn : (numS s).1 ≤ 9007199254740992 := by
      cases s with
      | none => exact Nat.zero_le _
      | some L =>
        show numAns (Pk.numOf L) ≤ _
        cases hn : Pk.numOf L with
        | none => exact Nat.zero_le _
        | some p =>
          obtain ⟨k, Q⟩ := p
          show k ≤ _
          unfold Pk.numOf at hn
          split at hn
          · rename_i hh
            injection hn with hn
            injection hn with h1 _
            have := hh.2.2.1
            unfold Pk.most at this
            omega
          · cases hn
    omega
  · rw [if_neg h]
theorem rtext_via_none {s : Option (List Nat)} {m : Int} {n : Nat} (h : Pk.rcount s 9007199254740992 = (n, none)) : Pk.rtext s m = ([], none) := by
  rw [rcount_most] at h
  unfold Pk.rtext
  rw [rcount_eq, h]
  by_cases hc : m < (n : Int)
  · rw [if_pos hc]; rfl
  · rw [if_neg hc]; rfl
theorem rtext_via_bad {s : Option (List Nat)} {m : Int} {n : Nat} {R : List Nat} (h : Pk.rcount s 9007199254740992 = (n, some R)) (hb : m < (n : Int) ∨ R.length < n) : Pk.rtext s m = ([], none) := by
  rw [rcount_most] at h
  unfold Pk.rtext
  rw [rcount_eq, h]
  by_cases hc : m < (n : Int)
  · rw [if_pos hc]; rfl
  · rw [if_neg hc]
    unfold Pk.rtake
    simp only
    rw [if_pos (by omega)]
theorem rtext_via_good {s : Option (List Nat)} {m : Int} {n : Nat} {R : List Nat} (h : Pk.rcount s 9007199254740992 = (n, some R)) (h1 : (n : Int) ≤ m) (h2 : n ≤ R.length) : Pk.rtext s m = (R.take n, some (R.drop n)) := by
  rw [rcount_most] at h
  unfold Pk.rtext
  rw [rcount_eq, h, if_neg (by omega)]
  unfold Pk.rtake
  simp only
  rw [if_neg (by omega)]
set_option maxHeartbeats 1000000 in
theorem reftext_fault (h : Nat) (A : Option Addr) (c : Nat) (b : List Nat) (m y : Int) (w : World) (hm : b.length ≤ 140737488355328)
    (K : Calls Try.prog 19 #[.pointer (some ⟨h, 0, none⟩), .int .i64 9007199254740992] w fun e w' => e = .returned (.int .i64 y) ∧ (∃ (a : Nat) (bad : Bool), a ≤ b.length ∧ Box3 w' h (.slice A b.length c) (.int .i64 (a : Int)) (.bool bad) ∧ (bad = true ∨ (bad = false ∧ m < y) ∨ (bad = false ∧ y ≤ m ∧ (b.length : Int) - (a : Int) < y))) ∧ Only (fun k => k = h) w w') :
    Calls Try.prog 23 #[.pointer (some ⟨h, 0, none⟩), .int .i64 m] w (RfPost w h A c b (.string ⟨#[]⟩) none) := by
  have KH := Lib.hid K
  have HM := Lib.hid hm
  clear K hm
  go_enter Try.func23, Try.ntmps23
  go_wp2_with fail
  refine KH.out.mono ?_
  rintro e w2 ⟨rfl, ⟨a, bad, ha, hbx, hcs⟩, ho2⟩
  have FIN : Hid (∀ w3, Below w2.heap.size w2 w3 → RfPost w h A c b (.string ⟨#[]⟩) none (.returned (.string ⟨#[]⟩)) (w3.setCell ⟨h, 2, none⟩ (.bool true))) :=
    fun w3 hb3 => ⟨rfl, ⟨a, true, ha, (hbx.below hb3).set2 true, .inl ⟨rfl, rfl⟩⟩, (ho2.trans (Only.of_below (S := fun _ => False) hb3) (fun _ _ h => h.elim)).setCell (p := ⟨h, 2, none⟩) (.inr rfl) _⟩
  have g0 : ∀ d os, (grow (redrawn w2 d) os).cell? ⟨h, 0, none⟩ = some (.slice A b.length c) := fun d os => (hbx.below (below_regrown w2 d os)).cells.1
  have g1 : ∀ d os, (grow (redrawn w2 d) os).cell? ⟨h, 1, none⟩ = some (.int .i64 (a : Int)) := fun d os => (hbx.below (below_regrown w2 d os)).cells.2.1
  have g2 : ∀ d os, (grow (redrawn w2 d) os).cell? ⟨h, 2, none⟩ = some (.bool bad) := fun d os => (hbx.below (below_regrown w2 d os)).cells.2.2.1
  have HBX := Lib.hid hbx
  have e1 : IntKind.i64.wrap ((b.length : Int) - (a : Int)) = (b.length : Int) - (a : Int) := by rw [IntKind.wrap_i64]; have := HM.out; omega
  clear hbx ho2 ha
  rcases hcs with rfl | ⟨rfl, hy⟩ | ⟨rfl, hy, hy2⟩
  · go_wp2
    refine wp_region_quiet_below (by kernel_rfl) (by kernel_rfl) ?_
    repeat (go_big_quiet_step (fail))
    refine wpQuiet_nil ?_
    intro w3 hw'
    obtain ⟨⟨dq, osq⟩, hw''⟩ := hw'
    have hb3 : Below w2.heap.size w2 w3 := by rw [hw'']; exact below_regrown w2 dq osq
    obtain ⟨c0, c1, c2, f1, f2⟩ := (HBX.out.below hb3).cells
    have HF := Lib.hid (FIN.out w3 hb3)
    clear hw'' hb3 g0 g1 g2
    go_wp2
    go_ret
    exact HF.out
  · have d1 : decide (m < y) = true := by simpa using hy
    go_wp2
    refine wp_region_quiet_below (by kernel_rfl) (by kernel_rfl) ?_
    repeat (go_big_quiet_step (fail))
    refine wpQuiet_nil ?_
    intro w3 hw'
    obtain ⟨⟨dq, osq⟩, hw''⟩ := hw'
    have hb3 : Below w2.heap.size w2 w3 := by rw [hw'']; exact below_regrown w2 dq osq
    obtain ⟨c0, c1, c2, f1, f2⟩ := (HBX.out.below hb3).cells
    have HF := Lib.hid (FIN.out w3 hb3)
    clear hw'' hb3 g0 g1 g2
    go_wp2
    go_ret
    exact HF.out
  · have d1 : decide (m < y) = false := by simp; omega
    have d2 : decide ((b.length : Int) - (a : Int) < y) = true := by simpa using hy2
    go_wp2
    refine wp_region_quiet_below (by kernel_rfl) (by kernel_rfl) ?_
    repeat (go_big_quiet_step (fail))
    refine wpQuiet_nil ?_
    intro w3 hw'
    obtain ⟨⟨dq, osq⟩, hw''⟩ := hw'
    have hb3 : Below w2.heap.size w2 w3 := by rw [hw'']; exact below_regrown w2 dq osq
    obtain ⟨c0, c1, c2, f1, f2⟩ := (HBX.out.below hb3).cells
    have HF := Lib.hid (FIN.out w3 hb3)
    clear hw'' hb3 g0 g1 g2
    go_wp2
    go_ret
    exact HF.out
end Go.Proofs.Ythcmijppemochaa
