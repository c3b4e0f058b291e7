/-
  The contracts of the statements' example and of their look at sizes; words for several rings side by side. Their conditions: what is handed in lies in memory.
-/
import Derived.Test.YtnbgmobcfbgenaaGreatDoorW11
namespace Go.Proofs.YtnbgmobcfbgenaaGreatDoor
open Go.RowKit Go.Maps
open Go.Sort (grow)

section
variable {w w' : World} {base base' g h : Nat} {S T : List ByteArray}
theorem RingAt.other (k : RingAt w base h T) (r : RingAt w base g S) (hf : Fr [] [g] base' w w') (hne : h ≠ g) : RingAt w' base h T := k.fr hf (by simpa using hne) r.kinds
theorem RowT.other {v : Value} {l : List ByteArray} (k : RowT eKy 9 w base v l) (r : RingAt w base' g S) (hf : Fr [] [g] base' w w') : RowT eKy 9 w' base v l := k.ring hf r.kinds (by decide)
end
theorem sl_lits (w : World) (l : List ByteArray) (h : l.length ≤ maxLen) : Sl eKy (w.alloc (.cells (l.map Value.string).toArray 9)) (some ⟨w.heap.size, 0, none⟩) l := by
  refine ⟨h, fun _ => ⟨w.heap.size, 0, rfl, by simp, fun k x hk i u hu => ?_⟩⟩
  have hi : i = 0 := by
    have := (List.getElem?_eq_some_iff.mp hu).1
    rw [eKy.len] at this
    exact Nat.lt_one_iff.mp this
  subst hi
  cases hu
  rw [cell_of (heap_new _ _)]
  show (l.map Value.string).toArray[0 + k * 1 + 0]? = _
  simp [hk]
def tA : ByteArray := ⟨#[97]⟩
def tB : ByteArray := ⟨#[98]⟩
def tK : ByteArray := ⟨#[107]⟩
theorem ab_ne : tA ≠ tB := by decide
theorem aw_len : (nodesOf [tB, tA, tB]).length = 2 := by
  rw [nodesOf_length]
  simp [uniq8, add1, ab_ne]
theorem aw_own : own (nodesOf [tA]) (hsh tK) = tA := by
  rw [nodesOf_single]
  unfold own
  rw [ordS_single (hsh_lt _)]
  rfl
theorem aw_has : has (nodesOf [tA]) = true := by
  rw [nodesOf_single]
  rfl
set_option maxHeartbeats 4000000 in
theorem awake_any (w : World) : Calls Tryz.prog 5 #[] w fun r w' => r = .returned (.bool true) ∧ Below w.heap.size w w' := by
  have b1 : Below w.heap.size w (w.alloc (.cells #[.string tB, .string tA, .string tB] 9)) := (Below.refl _ _).alloc (Nat.le_refl _) _
  have s1 : Sl eKy (w.alloc (.cells #[.string tB, .string tA, .string tB] 9)) (some ⟨w.heap.size, 0, none⟩) [tB, tA, tB] := sl_lits w [tB, tA, tB] (by decide)
  have C1 := Lib.hid (new_any [tB, tA, tB] (some ⟨w.heap.size, 0, none⟩) 3 3 _ s1 rfl (by intro a ha; simp at ha; rcases ha with rfl | rfl | rfl <;> decide))
  have HB1 := Lib.hid b1
  clear s1 b1
  go_enter Tryz.func5, Tryz.ntmps5
  go_wp2_with fail
  refine C1.out.mono ?_
  rintro r w1 ⟨g, rfl, hr, hb⟩
  have B1 := Lib.hid (HB1.out.trans (hb.mono HB1.out.size))
  have R1 := Lib.hid (hr.down HB1.out.size)
  clear hr hb C1
  have b2 : Below w1.heap.size w1 (w1.alloc (.cells #[.string tA] 9)) := (Below.refl _ _).alloc (Nat.le_refl _) _
  have s2 : Sl eKy (w1.alloc (.cells #[.string tA] 9)) (some ⟨w1.heap.size, 0, none⟩) [tA] := sl_lits w1 [tA] (by decide)
  have C2 := Lib.hid (new_any [tA] (some ⟨w1.heap.size, 0, none⟩) 1 1 _ s2 rfl (by intro a ha; simp at ha; rcases ha with rfl; decide))
  have HB2 := Lib.hid b2
  clear s2 b2
  go_wp2_with fail
  refine C2.out.mono ?_
  rintro r w2 ⟨g2, rfl, hr, hb⟩
  have b02 := HB2.out.trans (hb.mono HB2.out.size)
  have B2 := Lib.hid (B1.out.trans (b02.mono B1.out.size))
  have R1' := Lib.hid (R1.out.below b02)
  have hsz : w.heap.size ≤ (w1.alloc (.cells #[.string tA] 9)).heap.size := Nat.le_trans B1.out.size HB2.out.size
  have R2 := Lib.hid (hr.down hsz)
  have HNE : Hid (g ≠ g2) := by
    show _ ≠ _
    have h1 := (R1.out.below HB2.out).lt
    have h2 := hr.bg
    omega
  clear hr hb C2 b02 hsz
  have C3 := Lib.hid (owner_any w.heap.size g2 (nodesOf [tA]) tK w2 R2.out B2.out.size (by decide))
  rw [aw_own, aw_has] at C3
  go_wp2_with fail
  refine C3.out.mono ?_
  rintro r w3 ⟨rfl, r3, f3⟩
  have R3 := Lib.hid (R1'.out.other R2.out f3 HNE.out)
  have B3 := Lib.hid (B2.out.trans f3.below)
  clear r3 f3 C3
  have C4 := Lib.hid (nodes_any w.heap.size g _ w3 R3.out)
  go_wp2_with fail
  refine C4.out.mono ?_
  rintro r w4 ⟨v, rfl, hrow, hb⟩
  have B4 := Lib.hid (B3.out.trans (hb.mono B3.out.size))
  obtain ⟨A, c, rfl, _⟩ := hrow.form
  rw [aw_len]
  have he : (tA.toList == [97]) = true := by rw [toList_data]; decide
  clear hrow hb C4
  go_wp2
  go_ret
  exact ⟨rfl, B4.out⟩
theorem run_min2 {P : Program} (w : World) (ts : Array TypeId) (t : TypeId) (x y n : Int) (h : n = min x y) :
    (Builtin.min_ ts t #[.int .i64 x, .int .i64 y]).run P w = .ok (.int .i64 n) w := by
  subst h
  simp [Builtin.min_, Builtin.min2]
  try omega
/-- The look at sizes says something. -/
def SPost (w : World) (r : Ending) (w' : World) : Prop := (∃ b : Bool, r = .returned (.bool b)) ∧ w = w'
set_option maxHeartbeats 2000000 in
theorem short_any (l : List ByteArray) (A : Option Addr) (n c : Nat) (x : ByteArray) (w : World) (hs : Sl eKy w A l) (hn : l.length = n) :
    Calls Tryz.prog 6 #[.slice A n c, .string x] w (SPost w) := by
  have hnM : (n : Int) ≤ 9223372036854775807 := by have := hs.1; unfold maxLen at this; omega
  have H := Lib.hid hs
  have HN := Lib.hid hn
  have hmin : ∀ (y : Int) (w : World), (Builtin.min_ #[3, 3] 3 #[.int .i64 y, .int .i64 10000]).run Tryz.prog w = .ok (.int .i64 (min y 10000)) w := fun y w => run_min2 w _ _ _ _ _ rfl
  clear hs hn
  go_enter Tryz.func6, Tryz.ntmps6
  go_wp2
  go_loop [5, 11] (fun s5 s11 => ∃ (k : Nat) (y : Int), k ≤ n ∧ s11 = .int .i64 (k : Int) ∧ s5 = .int .i64 y) (fun _ i => n - (intOf i).toNat)
  case atStart => exact ⟨0, _, Nat.zero_le _, rfl, rfl⟩
  case round =>
    obtain ⟨k, y, hk, rfl, rfl⟩ := hrel
    by_cases hlt : k < n
    · have hkl : k < l.length := by rw [HN.out]; exact hlt
      obtain ⟨b, off, rfl, _, c0⟩ := at_ky H.out hkl
      generalize l[k] = a at c0
      have hlti : (k : Int) < (n : Int) := by omega
      have hk0 : (0 : Int) ≤ (k : Int) := by omega
      clear hkl
      go_wp2
      go_round
      case rel => exact ⟨k + 1, _, by omega, by go_num, rfl⟩
      case measure => simp [intOf]; omega
    · have hlti : ¬ (k : Int) < (n : Int) := by omega
      clear hlt hk
      by_cases hy : y ≤ 10000
      · by_cases hn100 : (n : Int) ≤ 100
        · go_wp2
          go_ret
          exact ⟨⟨_, rfl⟩, rfl⟩
        · go_wp2
          go_ret
          exact ⟨⟨_, rfl⟩, rfl⟩
      · go_wp2
        go_ret
        exact ⟨⟨_, rfl⟩, rfl⟩
end Go.Proofs.YtnbgmobcfbgenaaGreatDoor
