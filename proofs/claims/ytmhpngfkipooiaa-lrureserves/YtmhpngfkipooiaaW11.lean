/-
  The contract of Same, the walk of LruReserves. Their conditions: the slices read as texts and things.
-/
import Derived.Test.YtmhpngfkipooiaaW9
namespace Go.Proofs.Ytmhpngfkipooiaa
open Go.RowKit Go.Maps

theorem toList_data (s : ByteArray) : s.toList = s.data.toList := by
  have loop : ∀ (n i : Nat) (r : List UInt8), s.size - i = n → ByteArray.toList.loop s i r = r.reverse ++ s.data.toList.drop i := by
    intro n
    induction n with
    | zero =>
      intro i r h
      unfold ByteArray.toList.loop
      have hs : s.size = s.data.toList.length := Array.length_toList.symm
      rw [if_neg (by omega), List.drop_of_length_le (by omega), List.append_nil]
    | succ n ih =>
      intro i r h
      unfold ByteArray.toList.loop
      have hs : s.size = s.data.toList.length := Array.length_toList.symm
      have hi : i < s.data.toList.length := by omega
      rw [if_pos (by omega), ih _ _ (by omega), List.drop_eq_getElem_cons hi]
      simp [ByteArray.get!, Array.getElem!_eq_getD, Array.getD]
      rw [dif_pos (by omega)]
  unfold ByteArray.toList
  rw [loop _ 0 [] rfl]
  simp
theorem toList_inj {a b : ByteArray} (h : a.toList = b.toList) : a = b := by
  rw [toList_data, toList_data] at h
  exact ByteArray.ext (Array.toList_inj.mp h)
theorem toList_ne {a b : ByteArray} (h : ¬ a = b) : (a.toList == b.toList) = false := by
  rw [beq_eq_false_iff_ne]
  intro e
  exact h (toList_inj e)
def AlikeRel (l m : List ByteArray) (w : World) (s5 : Value) (wr : World) : Prop :=
  ∃ k : Nat, k ≤ l.length ∧ s5 = .int .i64 (k : Int) ∧ l.take k = m.take k ∧ Below w.heap.size w wr
set_option maxHeartbeats 2000000 in
theorem same_any (l m : List ByteArray) (A B : Option Addr) (n n' c c' : Nat) (w : World) (h : Strs w A l) (h' : Strs w B m) (hn : l.length = n) (hn' : m.length = n') :
    Calls Try.prog 13 #[.slice A n c, .slice B n' c'] w fun e w' => e = .returned (.bool (decide (l = m))) ∧ Below w.heap.size w w' := by
  have H := Lib.hid h
  have H' := Lib.hid h'
  have HN := Lib.hid hn
  have HN' := Lib.hid hn'
  clear h h' hn hn'
  by_cases hne : n = n'
  · subst hne
    have hm : (n : Int) ≤ 9223372036854775807 := by have := H.out.1; rw [HN.out] at this; unfold maxLen at this; omega
    have HB9 := Lib.hid hm
    clear hm
    go_enter Try.func13, Try.ntmps13
    go_wp2
    go_loopw [5] (AlikeRel l m w) (fun i _ => n - (intOf i).toNat)
    case atStart => exact ⟨0, Nat.zero_le _, rfl, rfl, Below.refl _ _⟩
    case round =>
      obtain ⟨k, hk, rfl, hs, hb⟩ := hrel
      have HS := Lib.hid hs
      have HB := Lib.hid hb
      rw [HN.out] at hk
      clear hs hb
      by_cases hlt : k < n
      · have hkl : k < l.length := by have := HN.out; omega
        have hkm : k < m.length := by have := HN'.out; omega
        obtain ⟨b, off, rfl, hbs, c0⟩ := (H.out.below (Nat.le_refl _) HB.out).at_ hkl
        obtain ⟨b', off', rfl, hbs', c0'⟩ := (H'.out.below (Nat.le_refl _) HB.out).at_ hkm
        have hm := HB9.out
        have hlti : (k : Int) < (n : Int) := by omega
        by_cases hxy : l[k] = m[k]
        · have HST : Hid (l.take (k + 1) = m.take (k + 1)) := by
            show _ = _
            rw [List.take_succ_eq_append_getElem hkl, List.take_succ_eq_append_getElem hkm, HS.out, hxy]
          rw [← hxy] at c0'
          generalize l[k] = x at c0 c0'
          clear hkl hkm hxy
          go_wp2
          go_quiet (fail)
          go_wp2
          go_roundw
          case rel => exact ⟨k + 1, by rw [HN.out]; omega, by go_num, HST.out, HB.out.trans ⟨rfl, rfl, rfl, Nat.le_refl _, fun _ _ => rfl⟩⟩
          case measure => simp [intOf]; omega
        · have HD : Hid (decide (l = m) = false) := by
            show _ = _
            rw [decide_eq_false_iff_not]
            rintro rfl
            exact hxy rfl
          have hxy' : (l[k].toList == m[k].toList) = false := toList_ne hxy
          generalize l[k] = x at c0 hxy'
          generalize m[k] = y at c0' hxy'
          clear hkl hkm hxy
          go_wp2
          go_quiet (fail)
          go_wp2
          go_ret
          exact ⟨ret_bool HD.out.symm, HB.out.trans ⟨rfl, rfl, rfl, Nat.le_refl _, fun _ _ => rfl⟩⟩
      · have HD : Hid (decide (l = m) = true) := by
          show _ = _
          have e1 := HS.out
          have e2 := HN.out
          have e3 := HN'.out
          rw [List.take_of_length_le (by omega), List.take_of_length_le (by omega)] at e1
          simpa using e1
        go_wp2
        go_ret
        exact ⟨ret_bool HD.out.symm, HB.out⟩
  · have HD : Hid (decide (l = m) = false) := by
      show _ = _
      rw [decide_eq_false_iff_not]
      rintro rfl
      exact hne (HN.out.symm.trans HN'.out)
    have hne' : ¬ (n : Int) = (n' : Int) := by omega
    go_enter Try.func13, Try.ntmps13
    go_wp2
    go_ret
    exact ⟨ret_bool HD.out.symm, Below.refl _ _⟩

theorem way_split (room kept n : Int) (L : List Th) : ∃ j, j ≤ L.length ∧ wL room kept n L = L.take j ∧ wG room kept n L = gone L j := by
  unfold wL wG
  split
  · exact ⟨_, way_le _ _, rfl, rfl⟩
  · exact ⟨L.length, Nat.le_refl _, by rw [List.take_length], by rw [gone_none]⟩
theorem take_keys (L : List Th) (j : Nat) : keys (L.take j) = (keys L).take j := by simp [keys]
theorem gone_keys (L : List Th) (j : Nat) : gone L j = ((keys L).drop j).reverse := by simp [gone, keys]
theorem rev_at {l : List ByteArray} {j i n : Nat} (hn : l.length = n) (hi : i < n - j) : (l.drop j).reverse[i]? = l[n - 1 - i]? := by
  subst hn
  rw [List.getElem?_reverse (by simpa using hi), List.getElem?_drop]
  congr 1
  simp
  omega
def RsRel (l : List Tk) (g : Nat) (room : Int) (w : World) (s8 : Value) (wr : World) : Prop :=
  ∃ (k : Nat) (L : List Th), k ≤ 200 ∧ k ≤ l.length ∧ s8 = .int .i64 (k : Int) ∧ CacheAt wr w.heap.size g L room 0 ∧ Below w.heap.size w wr ∧ L.length ≤ k
def Ix (m : Nat) (W : World) (s : Value) (wr : World) : Prop := ∃ k : Nat, k ≤ m ∧ s = .int .i64 (k : Int) ∧ Below W.heap.size W wr
theorem Strs.get {w W : World} {A : Option Addr} {l : List ByteArray} (h : Strs w A l) (hb : Below w.heap.size w W) {k : Nat} {s : ByteArray} (hk : l[k]? = some s) : ∃ b off, A = some ⟨b, off, none⟩ ∧ W.cell? ⟨b, off + k, none⟩ = some (.string s) := by
  have hl := (List.getElem?_eq_some_iff.mp hk).1
  obtain ⟨b, off, hA, _, hc⟩ := (h.below (Nat.le_refl _) hb).2 (by omega)
  exact ⟨b, off, hA, hc k s hk⟩
theorem rel_res {room n : Int} : rel n (resK room 0 n) = 0 := by
  unfold rel resK wayOk
  split <;> split <;> simp_all <;> omega
end Go.Proofs.Ytmhpngfkipooiaa
