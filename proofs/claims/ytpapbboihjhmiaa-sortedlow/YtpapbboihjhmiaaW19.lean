/-
  The contract of Bound. The walk of SortedLow. Its conditions: the slices read as texts.
-/
import Derived.Test.YtpapbboihjhmiaaW16
import Derived.Lib.SlBytesConst
namespace Go.Proofs.Ytpapbboihjhmiaa
open Go.RowKit

/-- How many binary digits a number has. -/
def dg (k : Nat) : Nat := if h : k = 0 then 0 else 1 + dg (k / 2)
termination_by k
decreasing_by omega
theorem dg_zero : dg 0 = 0 := by unfold dg; simp
theorem dg_pos {k : Nat} (h : k ≠ 0) : dg k = 1 + dg (k / 2) := by rw [dg]; simp [h]
theorem dg_pow : ∀ (j k : Nat), 2 ^ j ≤ k → j + 1 ≤ dg k
  | 0, k, h => by rw [dg_pos (by omega)]; omega
  | j + 1, k, h => by
    have h2 : 2 ^ j ≤ k / 2 := by rw [Nat.pow_succ] at h; omega
    have := dg_pow j (k / 2) h2
    have hp : 0 < 2 ^ j := Nat.two_pow_pos j
    rw [dg_pos (by omega)]
    omega
theorem dg_le (k : Nat) : dg k ≤ k := by
  induction k using Nat.strongRecOn with
  | _ k ih =>
    by_cases h : k = 0
    · subst h; rw [dg_zero]; exact Nat.le_refl _
    · rw [dg_pos h]
      have := ih (k / 2) (by omega)
      omega
theorem low_bound {L : List KV} {d : Nat} (h : Low L d) : d ≤ 2 * dg (L.length + 1) := by
  have := dg_pow _ _ h.1
  omega

def BdRel (n : Nat) (s3 s4 : Value) : Prop := ∃ c k : Nat, s3 = .int .i64 (c : Int) ∧ s4 = .int .i64 (k : Int) ∧ c + dg k = dg (n + 1) ∧ k ≤ n + 1
set_option maxHeartbeats 1000000 in
theorem bound_any (n : Nat) (w : World) (hn : n ≤ 100000) : Calls Try.prog 25 #[.int .i64 (n : Int)] w fun e w' => e = .returned (.int .i64 ((2 * dg (n + 1) : Nat) : Int)) ∧ w = w' := by
  have hdg := dg_le (n + 1)
  go_enter Try.func25, Try.ntmps25
  go_wp2
  go_loop [3, 4] (BdRel n) (fun _ k => (intOf k).toNat)
  case atStart => exact ⟨0, n + 1, rfl, by go_num, by omega, Nat.le_refl _⟩
  case round =>
    obtain ⟨c, k, rfl, rfl, hck, hkn⟩ := hrel
    by_cases hz : k = 0
    · subst hz
      rw [dg_zero] at hck
      have hc : c ≤ 100001 := by omega
      have HC := Lib.hid hck
      clear hck hdg
      go_wp2
      go_ret
      exact ⟨ret_int (by have := HC.out; omega), rfl⟩
    · have h2 := dg_pos hz
      have hc : c ≤ 100001 := by omega
      have HC : Hid (c + 1 + dg (k / 2) = dg (n + 1)) := by show _ = _; omega
      have hk1 : (0 : Int) < (k : Int) := by omega
      clear hck hdg h2
      go_wp2
      go_round
      case rel => exact ⟨c + 1, k / 2, by go_num, by go_num, HC.out, by omega⟩
      case measure => simp [intOf]; omega

theorem zero_same {x y : Int} (h : x = 0 ↔ y = 0) : ((x == 0) == (y == 0)) = true := by
  rw [beq_iff_eq, Bool.eq_iff_iff]
  simpa using h
def LowRel (b p : Nat) (g : Nat) (w : World) (s : Value) (wr : World) : Prop :=
  ∃ (k : Nat) (L : List KV), k ≤ p ∧ s = .int .i64 (k : Int) ∧ MapAt wr g L ∧ L.length ≤ b + k ∧ Below w.heap.size w wr
def LowRelD (b p : Nat) (g : Nat) (w : World) (s : Value) (wr : World) : Prop :=
  ∃ (k : Nat) (L : List KV), k ≤ p ∧ s = .int .i64 (k : Int) ∧ MapAt wr g L ∧ L.length ≤ b ∧ Below w.heap.size w wr
/-- Two bytes as a text. -/
def two (k : Nat) : ByteArray := ⟨#[UInt8.ofNat (k / 128), UInt8.ofNat (k % 128)]⟩
theorem conv_two (w : World) (k : Nat) (hk : k < 700) :
    (convert 52 9 (.slice (some ⟨w.heap.size, 0, none⟩) 2 2)).run Try.prog (w.alloc (.cells #[.int .u8 ((k : Int) / 128), .int .u8 ((k : Int) % 128)] 5)) = .ok (.string (two k)) (w.alloc (.cells #[.int .u8 ((k : Int) / 128), .int .u8 ((k : Int) % 128)] 5)) := by
  refine run_convert_bytes_back (P := Try.prog) _ 52 9 5 ⟨w.heap.size, 0, none⟩ 2 [UInt8.ofNat (k / 128), UInt8.ofNat (k % 128)] Try.underlying52 Try.underlying5 Try.underlying9 (fun j hj => ?_)
  have h0 := World.news_of_block (cs := #[.int .u8 ((k : Int) / 128), .int .u8 ((k : Int) % 128)]) (t := 5) (fr := (0, 0)) (heap_new w (.cells #[.int .u8 ((k : Int) / 128), .int .u8 ((k : Int) % 128)] 5))
  match j, hj with
  | 0, _ =>
    rw [h0 0 _ rfl]
    simp
    omega
  | 1, _ =>
    rw [h0 1 _ rfl]
    simp
    omega
set_option maxRecDepth 100000 in
set_option maxHeartbeats 1000000 in
theorem low_walk (l m : List ByteArray) (A B : Option Addr) (n n' c c' : Nat) (q : Nat) (w : World) (h : Strs w A l) (h' : Strs w B m) (hn : l.length = n) (hn' : m.length = n') (hq : q < 65536) :
    Calls Try.prog 5 #[.slice A n c, .slice B n' c', .int .u16 (q : Int)] w fun e w' => e = .returned (.bool true) ∧ Below w.heap.size w w' := by
  have H := Lib.hid h
  have H' := Lib.hid h'
  have HN := Lib.hid hn
  have HN' := Lib.hid hn'
  clear h h' hn hn'
  go_enter Try.func5, Try.ntmps5
  go_wp2_with fail
  refine (awake_any w).mono ?_
  rintro e w1 ⟨rfl, b1⟩
  have B1 := Lib.hid b1
  clear b1
  go_wp2_with fail
  refine (new_any w1).mono ?_
  rintro e w2 ⟨rfl, m2, b2, _⟩
  have M2 := Lib.hid m2
  have B2 := Lib.hid (B1.out.trans (b2.mono B1.out.size))
  have G : Hid (w.heap.size ≤ w1.heap.size) := B1.out.size
  generalize w1.heap.size = g at M2 G ⊢
  clear m2 b2
  go_wp2
  go_loopw [8] (LowRel 0 700 g w) (fun i _ => 700 - (intOf i).toNat)
  case atStart => exact ⟨0, [], Nat.zero_le _, rfl, M2.out, Nat.le_refl _, B2.out⟩
  case round =>
    obtain ⟨k, L, hk, rfl, hm, hlen, hb⟩ := hrel
    have HM := Lib.hid hm
    have HB := Lib.hid hb
    clear hm hb
    by_cases hlt : k < q % 700
    · have hlti : (k : Int) < (q : Int) % 700 := by omega
      have hcv := conv_two wr k (by omega)
      have HLE := Lib.hid (len_set_le L (two k) (k : Int) HM.out.rises)
      have CS : Hid (∀ o, Calls Try.prog 11 #[.pointer (some ⟨g, 0, none⟩), .string (two k), .int .i64 (k : Int)] (wr.alloc o) (MapPost (wr.alloc o) g (lset L (two k) (k : Int)) (!lhas L (two k)))) :=
        fun o => set_any g L _ _ _ (HM.out.below ((Below.refl _ _).alloc (Nat.le_refl _) _)) (by omega)
      go_wp2_with fail
      clear hcv
      refine (CS.out _).mono ?_
      rintro e w3 ⟨rfl, m3, o3⟩
      have M3 := Lib.hid m3
      have O3 := Lib.hid o3
      clear m3 o3
      go_wp2
      go_roundw
      case rel => exact ⟨k + 1, _, by omega, by go_num, M3.out, by have := HLE.out; omega, (HB.out.alloc HB.out.size _).trans (O3.out.below (by simp; have := HB.out.size; omega) G.out)⟩
      case measure => simp [intOf]; omega
    · have hlti : ¬ (k : Int) < (q : Int) % 700 := by omega
      have LK : Hid (L.length ≤ 700 + 0) := by show _ ≤ _; omega
      clear hlen hk hlt
      go_wp2
      clear hlti
      go_loopw [9] (LowRel 700 500 g w) (fun i _ => 500 - (intOf i).toNat)
      case atStart => exact ⟨0, L, Nat.zero_le _, rfl, HM.out, LK.out, HB.out⟩
      case round =>
        clear HM HB LK
        obtain ⟨k, L, hk, rfl, hm, hlen, hb⟩ := hrel
        have HM := Lib.hid hm
        have HB := Lib.hid hb
        clear hm hb
        by_cases hlt : k < n ∧ k < 500
        · obtain ⟨hlt1, hlt2⟩ := hlt
          have hkl : k < l.length := by have := HN.out; omega
          obtain ⟨b, off, rfl, hbs, c0⟩ := (H.out.below (Nat.le_refl _) HB.out).at_ hkl
          have HLE := Lib.hid (len_set_le L l[k] (k : Int) HM.out.rises)
          have CS := Lib.hid (set_any g L l[k] (k : Int) wr HM.out (by omega))
          generalize l[k] = x at c0 CS HLE
          clear hkl
          have hlti : (k : Int) < (n : Int) := by omega
          have hlti2 : (k : Int) < 500 := by omega
          go_wp2_with fail
          refine CS.out.mono ?_
          rintro e w3 ⟨rfl, m3, o3⟩
          have M3 := Lib.hid m3
          have O3 := Lib.hid o3
          clear m3 o3
          go_wp2
          go_roundw
          case rel => exact ⟨k + 1, _, by omega, by go_num, M3.out, by have := HLE.out; omega, HB.out.trans (O3.out.below HB.out.size G.out)⟩
          case measure => simp [intOf]; omega
        · obtain ⟨d, hlow, hd⟩ := depth_map g L wr HM.out
          have D1 := Lib.hid (hd wr (Below.refl _ _))
          have D2 := Lib.hid (len_any g L wr HM.out)
          have D3 := Lib.hid (bound_any L.length wr (by omega))
          have hdb := low_bound hlow
          have hle : (d : Int) ≤ ((2 * dg (L.length + 1) : Nat) : Int) := by omega
          obtain ⟨z, hz⟩ : ∃ z : Int, ((2 * dg (L.length + 1) : Nat) : Int) = z := ⟨_, rfl⟩
          rw [hz] at D3 hle
          have LK : Hid (L.length ≤ 1200) := by show _ ≤ _; omega
          rcases (show (¬ (k : Int) < (n : Int)) ∨ ((k : Int) < (n : Int) ∧ ¬ (k : Int) < 500) by omega) with hlti | ⟨hlti, hlti2⟩
          all_goals
            clear hlt hlow hd hdb hz hlen
            go_wp2_with fail
            refine D1.out.mono ?_
            rintro e w4 ⟨rfl, rfl⟩
            go_wp2_with fail
            refine D2.out.mono ?_
            rintro e w4 ⟨rfl, rfl⟩
            go_wp2_with fail
            refine D3.out.mono ?_
            rintro e w4 ⟨rfl, rfl⟩
            go_wp2
            clear hlti hle hk D1 D2 D3
            go_loopw [10] (LowRelD 1200 500 g w) (fun i _ => 500 - (intOf i).toNat)
            case atStart => exact ⟨0, L, Nat.zero_le _, rfl, HM.out, LK.out, HB.out⟩
            case round =>
              clear HM HB LK
              obtain ⟨k, L, hk, rfl, hm, hlen, hb⟩ := hrel
              have HM := Lib.hid hm
              have HB := Lib.hid hb
              clear hm hb
              by_cases hlt : k < n' ∧ k < 500
              · obtain ⟨hlt1, hlt2⟩ := hlt
                have hkl : k < m.length := by have := HN'.out; omega
                obtain ⟨b, off, rfl, hbs, c0⟩ := (H'.out.below (Nat.le_refl _) HB.out).at_ hkl
                have HLE := Lib.hid (len_del_le L m[k])
                have CS := Lib.hid (del_any g L m[k] wr HM.out (by omega))
                generalize m[k] = x at c0 CS HLE
                clear hkl
                have hlti : (k : Int) < (n' : Int) := by omega
                have hlti2 : (k : Int) < 500 := by omega
                go_wp2_with fail
                refine CS.out.mono ?_
                rintro e w3 ⟨rfl, m3, o3⟩
                have M3 := Lib.hid m3
                have O3 := Lib.hid o3
                clear m3 o3
                go_wp2
                go_roundw
                case rel => exact ⟨k + 1, _, by omega, by go_num, M3.out, by have := HLE.out; omega, HB.out.trans (O3.out.below HB.out.size G.out)⟩
                case measure => simp [intOf]; omega
              · have LK : Hid (L.length ≤ 1200) := hlen
                rcases (show (¬ (k : Int) < (n' : Int)) ∨ ((k : Int) < (n' : Int) ∧ ¬ (k : Int) < 500) by omega) with hlti | ⟨hlti, hlti2⟩
                all_goals
                  clear hlt hlen
                  go_wp2
                  clear hlti hk
                  go_loopw [11] (LowRelD 1200 701 g w) (fun i _ => 702 - (intOf i).toNat)
                  case atStart => exact ⟨0, L, Nat.zero_le _, rfl, HM.out, LK.out, HB.out⟩
                  case round =>
                    clear HM HB LK
                    obtain ⟨k, L, hk, rfl, hm, hlen, hb⟩ := hrel
                    have HM := Lib.hid hm
                    have HB := Lib.hid hb
                    clear hm hb
                    by_cases hlt : k < q % 700
                    · have hlti : (k : Int) < (q : Int) % 700 := by omega
                      have hcv := conv_two wr k (by omega)
                      have HLE := Lib.hid (len_del_le L (two k))
                      have CS : Hid (∀ o, Calls Try.prog 13 #[.pointer (some ⟨g, 0, none⟩), .string (two k)] (wr.alloc o) (MapPost (wr.alloc o) g (ldel L (two k)) (lhas L (two k)))) :=
                        fun o => del_any g L _ _ (HM.out.below ((Below.refl _ _).alloc (Nat.le_refl _) _)) (by omega)
                      go_wp2_with fail
                      clear hcv
                      refine (CS.out _).mono ?_
                      rintro e w3 ⟨rfl, m3, o3⟩
                      have M3 := Lib.hid m3
                      have O3 := Lib.hid o3
                      clear m3 o3
                      go_wp2
                      go_roundw
                      case rel => exact ⟨k + 2, _, by omega, by go_num, M3.out, by have := HLE.out; omega, (HB.out.alloc HB.out.size _).trans (O3.out.below (by simp; have := HB.out.size; omega) G.out)⟩
                      case measure => simp [intOf]; omega
                    · have hlti : ¬ (k : Int) < (q : Int) % 700 := by omega
                      obtain ⟨d, hlow, hd⟩ := depth_map g L wr HM.out
                      have D1 := Lib.hid (hd wr (Below.refl _ _))
                      have D2 := Lib.hid (len_any g L wr HM.out)
                      have D3 := Lib.hid (bound_any L.length wr (by omega))
                      have hdb := low_bound hlow
                      have hle : (d : Int) ≤ ((2 * dg (L.length + 1) : Nat) : Int) := by omega
                      obtain ⟨z, hz⟩ : ∃ z : Int, ((2 * dg (L.length + 1) : Nat) : Int) = z := ⟨_, rfl⟩
                      rw [hz] at D3 hle
                      have hz0 := hlow.2.1
                      obtain ⟨x, hx⟩ : ∃ x : Int, (L.length : Int) = x := ⟨_, rfl⟩
                      obtain ⟨y, hy⟩ : ∃ y : Int, (d : Int) = y := ⟨_, rfl⟩
                      have HZ : Hid (x = 0 ↔ y = 0) := by show _ ↔ _; omega
                      rw [hx] at D2 D3
                      rw [hy] at D1 hle
                      clear hlt hlow hd hdb hz hlen hx hy hz0
                      go_wp2_with fail
                      refine D1.out.mono ?_
                      rintro e w4 ⟨rfl, rfl⟩
                      go_wp2_with fail
                      refine D2.out.mono ?_
                      rintro e w4 ⟨rfl, rfl⟩
                      go_wp2_with fail
                      refine D3.out.mono ?_
                      rintro e w4 ⟨rfl, rfl⟩
                      go_wp2_with fail
                      refine D2.out.mono ?_
                      rintro e w4 ⟨rfl, rfl⟩
                      go_wp2_with fail
                      refine D1.out.mono ?_
                      rintro e w4 ⟨rfl, rfl⟩
                      go_wp2
                      all_goals
                        go_ret
                        exact ⟨ret_bool (zero_same HZ.out), HB.out⟩
end Go.Proofs.Ytpapbboihjhmiaa
