/-
  The walk of LeaseBound. Its conditions: the slice reads as keys.
-/
import Derived.Test.YtfiohhgmlelnkaaW8
namespace Go.Proofs.Ytfiohhgmlelnkaa
open Go.RowKit Go.Maps

theorem mask_i64 (a : Int) (m : Nat) (hm : m ≤ 255) : ∃ r : Nat, bits .and .i64 a (m : Int) = (r : Int) ∧ r ≤ m := by
  have h2 : (BitVec.ofInt 64 (m : Int)).toNat = m := by
    rw [BitVec.ofInt_natCast, BitVec.toNat_ofNat]; exact Nat.mod_eq_of_lt (by omega)
  have hx : (BitVec.ofInt 64 a &&& BitVec.ofInt 64 (m : Int)).toNat ≤ m := by
    rw [BitVec.toNat_and, h2]
    exact Nat.and_le_right
  refine ⟨(BitVec.ofInt 64 a &&& BitVec.ofInt 64 (m : Int)).toNat, ?_, hx⟩
  show IntKind.i64.wrap ((BitVec.ofInt 64 a &&& BitVec.ofInt 64 (m : Int)).toNat : Int) = _
  exact IntWalk.i64_in _ (by omega)
theorem grL_len {L : List Ls} {k : ByteArray} {limit ticks last : Int} (h : (L.length : Int) ≤ max limit 0) : ((grL L k limit ticks last).length : Int) ≤ max limit 0 := by
  unfold grL
  split
  · rename_i hg
    simp [grB] at hg
    simp
    omega
  · exact h
theorem grT_le {L : List Ls} {k : ByteArray} {limit last : Int} : last ≤ grT L k limit last ∧ grT L k limit last ≤ last + 1 := by
  unfold grT
  split <;> omega
theorem grB_nil (k : ByteArray) (limit : Int) : grB [] k limit = decide (0 < limit) := by simp [grB, has, fnd]
/-- No lease has more ticks left. -/
def Under (L : List Ls) (n : Int) : Prop := ∀ l ∈ L, l.n ≤ n
theorem Under.tck {L : List Ls} {n : Int} (h : Under L n) : Under (tck L) (n - 1) := by
  intro l hl
  obtain ⟨m, hm, _, rfl⟩ := mem_tck hl
  have := h m hm
  show m.n - 1 ≤ n - 1
  omega
theorem under_end {L : List Ls} {n limit ticks : Int} (h : Under L n) (hg : Good L limit ticks) (hn : n ≤ 0) : L = [] := by
  cases L with
  | nil => rfl
  | cons l r =>
    have h1 := h l (by simp)
    have h2 := (hg.pos l (by simp)).1
    omega
def BdRel (l : List ByteArray) (g B : Nat) (limit T : Int) (w : World) (s8 : Value) (wr : World) : Prop :=
  ∃ (k : Nat) (L : List Ls) (last : Int), k ≤ 200 ∧ k ≤ l.length ∧ s8 = .int .i64 (k : Int) ∧ TableAt wr w.heap.size g B L limit T last ∧ Below w.heap.size w wr ∧ (L.length : Int) ≤ max limit 0 ∧ 0 ≤ last ∧ last ≤ k ∧ (k = 0 → L = [])
def BtRel (g B : Nat) (limit : Int) (T : Nat) (last : Int) (w : World) (s11 : Value) (wr : World) : Prop :=
  ∃ (j : Nat) (L : List Ls), j ≤ T ∧ s11 = .int .i64 (j : Int) ∧ TableAt wr w.heap.size g B L limit T last ∧ Below w.heap.size w wr ∧ Under L ((T : Int) - j)
set_option maxRecDepth 100000 in
set_option maxHeartbeats 8000000 in
theorem bound_walk (limit a : Int) (l : List ByteArray) (A : Option Addr) (n c : Nat) (w : World) (hl2 : limit ≤ 9223372036854775807) (hs : Kys w A l) (hn : l.length = n) :
    Calls Try.prog 5 #[.int .i64 limit, .int .i64 a, .slice A n c] w fun e w' => e = .returned (.bool true) ∧ Below w.heap.size w w' := by
  obtain ⟨t, ht, htm⟩ := mask_i64 a 31 (by omega)
  have ht' : bits .and .i64 a 31 = (t : Int) := ht
  obtain ⟨T, hT⟩ : ∃ T : Nat, T = max t 1 := ⟨_, rfl⟩
  obtain ⟨mx, hmx⟩ : ∃ mx, mx = max limit 0 := ⟨_, rfl⟩
  have hmax : ∀ w, (Builtin.max_ #[3, 3] 3 #[.int .i64 limit, .int .i64 0]).run Try.prog w = .ok (.int .i64 mx) w := fun w => run_max2 w _ _ _ _ _ hmx
  have hmaxT : ∀ w, (Builtin.max_ #[3, 3] 3 #[.int .i64 (t : Int), .int .i64 1]).run Try.prog w = .ok (.int .i64 (T : Int)) w := fun w => run_max2 w _ _ _ _ _ (by omega)
  have HT : Hid ((T : Int) = max (t : Int) 1 ∧ (t : Int) ≤ 31 ∧ 1 ≤ T ∧ T ≤ 31) := by show _ ∧ _; omega
  have HX := Lib.hid hmx
  have HL := Lib.hid hl2
  have H := Lib.hid hs
  have HE := Lib.hid hn
  clear ht htm hT hmx hl2 hs hn
  go_enter Try.func5, Try.ntmps5
  go_wp2_with fail
  refine (awake_any w).mono ?_
  rintro e w1 ⟨rfl, b1⟩
  have B1 := Lib.hid b1
  clear b1
  go_wp2_with fail
  refine (new_any w.heap.size limit t T w1 B1.out.size HT.out.1 (by have := HT.out.2.1; omega) HL.out).mono ?_
  rintro e w2 ⟨g, B, rfl, t2, b2, _, _⟩
  have T2 := Lib.hid t2
  have B2 := Lib.hid (B1.out.trans (b2.mono B1.out.size))
  clear t2 b2 B1
  go_wp2
  go_loopw [8] (BdRel l g B limit T w) (fun i _ => 201 - (intOf i).toNat)
  case atStart => exact ⟨0, [], 0, Nat.zero_le _, Nat.zero_le _, rfl, T2.out, B2.out, by simp; omega, by omega, by omega, fun _ => rfl⟩
  case round =>
    obtain ⟨k, L, last, hk2, hkl, rfl, hm, hb, hlen, hl0, hl1, hnil⟩ := hrel
    have HM := Lib.hid hm
    have HB := Lib.hid hb
    have HI : Hid ((L.length : Int) ≤ max limit 0 ∧ 0 ≤ last ∧ last ≤ k ∧ (k = 0 → L = [])) := ⟨hlen, hl0, hl1, hnil⟩
    clear hm hb T2 B2 hlen hl0 hl1 hnil
    rw [HE.out] at hkl
    by_cases hlt : k < n ∧ k < 200
    · obtain ⟨hlt1, hlt2⟩ := hlt
      have hkl2 : k < l.length := by rw [HE.out]; exact hlt1
      obtain ⟨b, off, rfl, hbs, c0⟩ := (H.out.1.below (Nat.le_refl _) HB.out).at_ hkl2
      have HKS := Lib.hid (H.out.2 l[k] (List.getElem_mem hkl2))
      generalize l[k] = key at c0 HKS
      have hlti : (k : Int) < (n : Int) := by omega
      have hlti2 : (k : Int) < 200 := by omega
      have hk0 : (0 : Int) ≤ (k : Int) := by omega
      have CG := Lib.hid (grant_any w.heap.size g B L limit T last key wr HM.out HKS.out HB.out.size (by have := HI.out; omega) (by have := HI.out; omega))
      have HK2 := Lib.hid hk2
      clear hkl2 hbs hk2 hmaxT ht'
      go_wp2_with fail
      refine CG.out.mono ?_
      rintro r w3 ⟨rfl, t3, f3⟩
      have T3 := Lib.hid t3
      have B3 := Lib.hid (HB.out.trans f3.below)
      obtain ⟨ok, hok⟩ : ∃ ok, ok = grB L key limit := ⟨_, rfl⟩
      rw [← hok]
      have HOK := Lib.hid hok
      have HL3 : Hid (((grL L key limit T last).length : Int) ≤ max limit 0) := grL_len HI.out.1
      have HT3 := Lib.hid (@grT_le L key limit last)
      clear t3 f3 CG HM HB hok
      generalize grL L key limit T last = L3 at T3 HL3
      generalize grT L key limit last = last3 at T3 HT3
      generalize grV L key limit last = v3
      go_wp2_with fail
      refine (len_any _ g B L3 limit T last3 w3 T3.out).mono ?_
      rintro r w4 ⟨rfl, rfl⟩
      obtain ⟨m, hm⟩ : ∃ m : Nat, m = L3.length := ⟨_, rfl⟩
      rw [← hm]
      have hge : ¬ (m : Int) > mx := by rw [hm, HX.out]; have := HL3.out; omega
      clear hm
      by_cases hkz : k = 0
      · subst hkz
        have hL : L = [] := HI.out.2.2.2 rfl
        have hok : ok = decide (0 < limit) := by rw [HOK.out, hL, grB_nil]
        by_cases hp : limit > 0
        · have hok' : ok = true := by rw [hok]; simpa using hp
          clear hok hL
          subst hok'
          go_wp2
          go_roundw
          case rel => exact ⟨0 + 1, L3, last3, by omega, by have := HE.out; omega, by go_num, T3.out, B3.out, HL3.out, by have := HI.out; have := HT3.out; omega, by have := HI.out; have := HT3.out; omega, by simp⟩
          case measure => simp [intOf]
        · have hok' : ok = false := by rw [hok]; simpa using hp
          clear hok hL
          subst hok'
          go_wp2
          go_roundw
          case rel => exact ⟨0 + 1, L3, last3, by omega, by have := HE.out; omega, by go_num, T3.out, B3.out, HL3.out, by have := HI.out; have := HT3.out; omega, by have := HI.out; have := HT3.out; omega, by simp⟩
          case measure => simp [intOf]
      · have hkz' : ¬ (k : Int) = 0 := by omega
        go_wp2
        go_roundw
        case rel => exact ⟨k + 1, L3, last3, by omega, by have := HE.out; omega, by go_num, T3.out, B3.out, HL3.out, by have := HI.out; have := HT3.out; omega, by have := HI.out; have := HT3.out; omega, by omega⟩
        case measure => simp [intOf]; omega
    · have hcase : ¬ (k : Int) < (n : Int) ∨ ((k : Int) < (n : Int) ∧ ¬ (k : Int) < 200) := by omega
      clear hlt hk2 hkl
      rcases hcase with hc1 | ⟨hc1, hc2⟩
      all_goals
        go_wp2
        go_loopw [11] (BtRel g B limit T last w) (fun i _ => 64 - (intOf i).toNat)
        case atStart => exact ⟨0, L, Nat.zero_le _, rfl, HM.out, HB.out, fun x hx => by have := (HM.out.good.pos x hx).2; simpa using this⟩
        case round =>
          obtain ⟨j, L5, hj, rfl, hm5, hb5, hu⟩ := hrel
          have M5 := Lib.hid hm5
          have B5 := Lib.hid hb5
          have U5 := Lib.hid hu
          clear hm5 hb5 hu
          by_cases hjt : j < T
          · have hjt' : (j : Int) < (T : Int) := by omega
            have hj31 : (j : Int) ≤ 31 := by have := HT.out; omega
            go_wp2_with fail
            refine (tick_any _ g B L5 limit T last _ M5.out B5.out.size).mono ?_
            rintro r w6 ⟨rfl, t6, f6⟩
            have T6 := Lib.hid t6
            have B6 := Lib.hid (B5.out.trans f6.below)
            have U6 := Lib.hid U5.out.tck
            clear t6 f6
            go_wp2
            go_roundw
            case rel => exact ⟨j + 1, tck L5, by omega, by go_num, T6.out, B6.out, by have := U6.out; intro x hx; have := this x hx; omega⟩
            case measure => have := HT.out; simp [intOf]; omega
          · have hjt' : ¬ (j : Int) < (T : Int) := by omega
            have hnil : L5 = [] := under_end U5.out M5.out.good (by omega)
            subst hnil
            go_wp2_with fail
            refine (len_any _ g B [] limit T last _ M5.out).mono ?_
            rintro r w6 ⟨rfl, rfl⟩
            simp only [List.length_nil]
            go_wp2
            go_ret
            exact ⟨rfl, B5.out⟩
end Go.Proofs.Ytfiohhgmlelnkaa
