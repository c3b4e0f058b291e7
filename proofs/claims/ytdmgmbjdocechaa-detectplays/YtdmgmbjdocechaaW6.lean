/-
  Words for a detector beside other blocks; a detector of two nodes. The document's example is answered as it says. Their conditions: none.
-/
import Derived.Test.YtdmgmbjdocechaaW5
namespace Go.Proofs.Ytdmgmbjdocechaa
open Go.RowKit Go.Maps Go.ChangeMaps
open Go.Sort (grow)

/-- A detector, and what lay there before. -/
structure St (w0 W : World) (g B : Nat) (L : List Tm) (pat now ch : Int) : Prop where
  det : DetAt W w0.heap.size g B L pat now ch
  bel : Below w0.heap.size w0 W
section
variable {w0 W W' : World} {g B : Nat} {L : List Tm} {pat now ch : Int}
theorem St.below (s : St w0 W g B L pat now ch) (hb : Below W.heap.size W W') : St w0 W' g B L pat now ch := ⟨s.det.below hb, s.bel.trans (hb.mono s.bel.size)⟩
theorem St.drew (s : St w0 W g B L pat now ch) : St w0 W.drew g B L pat now ch := s.below (Below.refl _ _).drew
theorem st_alive (s : St w0 W g B L pat now ch) (k : ByteArray) (hk : k.size ≤ maxLen) (hnow : now ≤ 1000000) : Calls Try.prog 18 #[.pointer (some ⟨g, 0, none⟩), .string k] W fun r w' => r = .returned (.bool (alive L pat now k)) ∧ W = w' := alive_any _ g B L pat now ch k W s.det hk hnow
theorem st_changes (s : St w0 W g B L pat now ch) : Calls Try.prog 20 #[.pointer (some ⟨g, 0, none⟩)] W fun r w' => r = .returned (.int .i64 ch) ∧ W = w' := changes_any _ g B L pat now ch W s.det
theorem st_beat (s : St w0 W g B L pat now ch) (k : ByteArray) (hk : k.size ≤ maxLen) (hnow : now ≤ 1000000) (hch : ch ≤ 1000000000) (hl : L.length ≤ 1000) : Calls Try.prog 13 #[.pointer (some ⟨g, 0, none⟩), .string k] W fun r w' => r = .returned (.bool (beatB L pat now k)) ∧ St w0 w' g B (beatL L now k) pat now (ch + b2i (beatB L pat now k)) ∧ Fr [] [g, B] w0.heap.size W w' := by
  refine (beat_any _ g B L pat now ch k W s.det hk hnow hch hl s.bel.size).mono ?_
  rintro r w' ⟨rfl, ht, hf⟩
  exact ⟨rfl, ⟨ht, s.bel.trans hf.below⟩, hf⟩
theorem st_live (s : St w0 W g B L pat now ch) (hnow : now ≤ 1000000) (hl : L.length ≤ 1000) : Calls Try.prog 16 #[.pointer (some ⟨g, 0, none⟩)] W fun r w' => ∃ v, r = .returned v ∧ RowT eKy 9 w' w0.heap.size v (liveL L pat now) ∧ St w0 w' g B L pat now ch ∧ Below W.heap.size W w' := by
  refine (live_any _ g B L pat now ch W s.det hnow hl).mono ?_
  rintro r w' ⟨v, rfl, ht, hb⟩
  exact ⟨v, rfl, ht.down s.bel.size, s.below hb, hb⟩
theorem st_tick (s : St w0 W g B L pat now ch) (hnow : now < 1000000) (hch : ch ≤ 1000000000) (hl : L.length ≤ 1000) : Calls Try.prog 11 #[.pointer (some ⟨g, 0, none⟩)] W fun r w' => ∃ v, r = .returned v ∧ RowT eKy 9 w' w0.heap.size v (dieL L pat (now + 1)) ∧ St w0 w' g B L pat (now + 1) (ch + ((dieL L pat (now + 1)).length : Int)) ∧ Fr [] [g, B] w0.heap.size W w' := by
  refine (tick_any _ g B L pat now ch W s.det hnow hch hl s.bel.size).mono ?_
  rintro r w' ⟨v, rfl, ht, hd, hf⟩
  exact ⟨v, rfl, ht.down s.bel.size, ⟨hd, s.bel.trans hf.below⟩, hf⟩
end

/-! ### Two nodes -/
def ka : ByteArray := ⟨#[97]⟩
def kb : ByteArray := ⟨#[98]⟩
def two (x y : Int) : List Tm := [⟨ka, x⟩, ⟨kb, y⟩]
theorem small1 (x : UInt8) : (⟨#[x]⟩ : ByteArray).size ≤ maxLen := by show 1 ≤ maxLen; unfold maxLen; omega
theorem ne_ab : ¬ ka = kb := by decide
theorem ne_ba : ¬ kb = ka := by decide
theorem lt_ab : lt ka kb = true := by
  unfold lt
  rw [toList_data, toList_data]
  rfl
theorem lt_ba : lt kb ka = false := lt_asymm lt_ab
theorem new_two : newL [ka, kb] = two 0 0 := by simp [newL, ins, two, lt_ab, lt_ba]
theorem has_a (x y : Int) : has (two x y) ka = true := by simp [has, fnd, two]
theorem has_b (x y : Int) : has (two x y) kb = true := by simp [has, fnd, two, ne_ab]
theorem val_a (x y : Int) : val (two x y) ka = x := by simp [val, fnd, two]
theorem val_b (x y : Int) : val (two x y) kb = y := by simp [val, fnd, two, ne_ab]
theorem beat_a (x y now : Int) : beatL (two x y) now ka = two now y := by simp [beatL, has_a]; simp [ins, two, lt_ab, lt_ba, lt_irrefl]
theorem beat_b (x y now : Int) : beatL (two x y) now kb = two x now := by simp [beatL, has_b]; simp [ins, two, lt_ab, lt_ba, lt_irrefl]
theorem bool_a (x y pat now : Int) : beatB (two x y) pat now ka = !decide (now - x < pat) := by simp [beatB, has_a, val_a]
theorem bool_b (x y pat now : Int) : beatB (two x y) pat now kb = !decide (now - y < pat) := by simp [beatB, has_b, val_b]
theorem alive_a (x y pat now : Int) : alive (two x y) pat now ka = decide (now - x < pat) := by simp [alive, has_a, val_a]
theorem alive_b (x y pat now : Int) : alive (two x y) pat now kb = decide (now - y < pat) := by simp [alive, has_b, val_b]
theorem die_two (x y pat now : Int) : dieL (two x y) pat now = (if now - x = pat then [ka] else []) ++ (if now - y = pat then [kb] else []) := by
  unfold dieL sel die two keys
  by_cases h1 : now - x = pat <;> by_cases h2 : now - y = pat <;> simp [List.filter, h1, h2]
theorem two_len (x y : Int) : (two x y).length = 2 := rfl
theorem sl_two (w : World) : Sl eKy (w.alloc (.cells #[.string ka, .string kb] 9)) (some ⟨w.heap.size, 0, none⟩) [ka, kb] := by
  refine ⟨by unfold maxLen; simp, fun _ => ⟨w.heap.size, 0, rfl, by simp, fun k x hk i u hu => ?_⟩⟩
  have h := heap_new w (.cells #[.string ka, .string kb] 9)
  have hi : i = 0 := by
    have := (List.getElem?_eq_some_iff.mp hu).1
    simp [eKy] at this
    omega
  subst hi
  simp only [eKy, List.getElem?_cons_zero, Option.some.injEq] at hu
  subst hu
  rw [cell_of h]
  match k, hk with
  | 0, hk => cases hk; rfl
  | 1, hk => cases hk; rfl
theorem sized_two : Sized [ka, kb] := by
  intro a ha
  simp at ha
  rcases ha with rfl | rfl <;> exact small1 _
theorem st_two (w w0 : World) (p : Int) (hb : Below w0.heap.size w0 w) : Calls Try.prog 8 #[.int .i64 p, .slice (some ⟨w.heap.size, 0, none⟩) 2 2] (w.alloc (.cells #[.string ka, .string kb] 9)) fun r w' => ∃ g B, r = .returned (.pointer (some ⟨g, 0, none⟩)) ∧ St w0 w' g B (two 0 0) (max p 1) 0 0 := by
  have b1 : Below w.heap.size w (w.alloc (.cells #[.string ka, .string kb] 9)) := (Below.refl _ _).alloc (Nat.le_refl _) _
  have b2 := hb.trans (b1.mono hb.size)
  refine (new_any w0.heap.size p [ka, kb] _ 2 2 _ (sl_two w) rfl sized_two (by omega) b2.size).mono ?_
  rintro r w' ⟨g, B, rfl, hd, hb', _, _⟩
  rw [new_two] at hd
  exact ⟨g, B, rfl, hd, b2.trans (hb'.mono b2.size)⟩
set_option maxHeartbeats 4000000 in
theorem awake_any (w : World) : Calls Try.prog 7 #[] w fun e w' => e = .returned (.bool true) ∧ Below w.heap.size w w' := by
  have CN := Lib.hid (st_two w w 2 (Below.refl _ _))
  have CK : Hid (ka = ⟨#[97]⟩ ∧ kb = ⟨#[98]⟩) := ⟨rfl, rfl⟩
  rw [CK.out.1, CK.out.2] at CN
  go_enter Try.func7, Try.ntmps7
  go_wp2_with fail
  refine CN.out.mono ?_
  rintro r w1 ⟨g, B, rfl, s1⟩
  have C1 := Lib.hid (st_tick s1 (by omega) (by omega) (by rw [two_len]; omega))
  rw [show max (2 : Int) 1 = 2 from rfl, show (0 : Int) + 1 = 1 from rfl, die_two] at C1
  clear s1 CN
  go_wp2_with fail
  refine C1.out.mono ?_
  rintro r w2 ⟨v, rfl, r2, s2, _⟩
  simp at s2
  have C2 := Lib.hid (st_beat s2 ka (small1 _) (by omega) (by omega) (by rw [two_len]; omega))
  rw [beat_a, bool_a] at C2
  clear s2 r2 C1
  go_wp2_with fail
  refine C2.out.mono ?_
  rintro r w3 ⟨rfl, s3, _⟩
  simp [b2i] at s3
  have C3 := Lib.hid (st_tick s3 (by omega) (by omega) (by rw [two_len]; omega))
  rw [show (1 : Int) + 1 = 2 from rfl, die_two] at C3
  clear s3 C2
  go_wp2_with fail
  refine C3.out.mono ?_
  rintro r w4 ⟨v4, rfl, r4, s4, _⟩
  simp at s4 r4
  obtain ⟨A, c, rfl, sl4, _⟩ := r4.sl (by unfold maxLen; simp)
  obtain ⟨b, off, rfl, _, d0⟩ := at_ky (k := 0) sl4 (by simp)
  simp only [List.getElem_cons_zero, Nat.add_zero, CK.out.2] at d0
  have C4 := Lib.hid (st_alive s4 ka (small1 _) (by omega))
  rw [alive_a] at C4
  have C5 := Lib.hid (st_beat s4 kb (small1 _) (by omega) (by omega) (by rw [two_len]; omega))
  rw [beat_b, bool_b] at C5
  clear s4 r4 sl4 C3
  go_wp2_with fail
  refine C4.out.mono ?_
  rintro r w5 ⟨rfl, rfl⟩
  go_wp2_with fail
  refine C5.out.mono ?_
  rintro r w6 ⟨rfl, s6, _⟩
  simp [b2i] at s6
  have C6 := Lib.hid (st_changes s6)
  have S6 := Lib.hid s6.bel
  clear s6 C5 C4
  go_wp2_with fail
  refine C6.out.mono ?_
  rintro r w7 ⟨rfl, rfl⟩
  go_wp2
  go_ret
  exact ⟨rfl, S6.out⟩
end Go.Proofs.Ytdmgmbjdocechaa
