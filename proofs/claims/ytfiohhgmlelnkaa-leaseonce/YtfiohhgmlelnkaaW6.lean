/-
  The contract of awake, a table beside a block that no call turns, and the walk of LeaseApart. Their conditions: none.
-/
import Derived.Test.YtfiohhgmlelnkaaW5
namespace Go.Proofs.Ytfiohhgmlelnkaa
open Go.RowKit Go.Maps

/-- The kinds of a table's blocks. -/
def tK : List Nat := [58, 63, 1000, 1001]
/-- What a call of a table leaves as it was, by kinds. -/
theorem TableAt.kinds {w w' : World} {base base' g B : Nat} {L : List Ls} {limit ticks last : Int} {l ms : List Nat} (h : TableAt w base g B L limit ticks last) (hf : Fr l ms base' w w') (hl : ∀ x ∈ l, x ∈ tK) (hm : ∀ x ∈ ms, x = g ∨ x = B) : Fr tK [] base' w w' := by
  refine ⟨hf.below, fun b o hb hk _ => hf.keep b o hb (fun hx => hk (hl _ hx)) (fun hx => ?_)⟩
  rcases hm b hx with rfl | rfl
  · have := h.box
    unfold Box at this
    rw [hb] at this
    cases this
    exact hk (by simp [kd, tK])
  · obtain ⟨es, c, hB⟩ := h.isMap
    rw [hb] at hB
    cases hB
    exact hk (by simp [kd, tK])
theorem small1 (x : UInt8) : (⟨#[x]⟩ : ByteArray).size ≤ maxLen := by
  show 1 ≤ maxLen
  unfold maxLen
  omega
def ka : ByteArray := ⟨#[97]⟩
def kb : ByteArray := ⟨#[98]⟩
theorem aw1 : grL [] ka 1 2 0 = [⟨ka, 1, 2⟩] ∧ grT [] ka 1 0 = 1 ∧ grV [] ka 1 0 = 1 ∧ grB [] ka 1 = true := ⟨rfl, rfl, rfl, rfl⟩
theorem aw2 : grL [⟨ka, 1, 2⟩] kb 1 2 1 = [⟨ka, 1, 2⟩] ∧ grT [⟨ka, 1, 2⟩] kb 1 1 = 1 ∧ grV [⟨ka, 1, 2⟩] kb 1 1 = 0 ∧ grB [⟨ka, 1, 2⟩] kb 1 = false := ⟨rfl, rfl, rfl, rfl⟩
theorem aw3 : useL [⟨ka, 1, 2⟩] ka 2 = [⟨ka, 1, 2⟩] ∧ useB [⟨ka, 1, 2⟩] ka 2 = false := ⟨rfl, rfl⟩
theorem aw4 : useL [⟨ka, 1, 2⟩] ka 1 = [] ∧ useB [⟨ka, 1, 2⟩] ka 1 = true := ⟨rfl, rfl⟩
theorem aw5 : useL [] ka 1 = [] ∧ useB [] ka 1 = false := ⟨rfl, rfl⟩
set_option maxHeartbeats 1000000 in
theorem awake_any (w : World) : Calls Try.prog 9 #[] w fun e w' => e = .returned (.bool true) ∧ Below w.heap.size w w' := by
  go_enter Try.func9, Try.ntmps9
  go_wp2_with fail
  refine (new_any w.heap.size 1 2 2 w (Nat.le_refl _) rfl (by omega) (by omega)).mono ?_
  rintro r w1 ⟨g, B, rfl, t1, b1, _, _⟩
  have C1 := Lib.hid (grant_any w.heap.size g B [] 1 2 0 ka w1 t1 (small1 _) b1.size (by omega) (by omega))
  unfold GrantPost at C1
  rw [aw1.1, aw1.2.1, aw1.2.2.1, aw1.2.2.2] at C1
  have B1 := Lib.hid b1
  clear t1 b1
  go_wp2_with fail
  refine C1.out.mono ?_
  rintro r w2 ⟨rfl, t2, f2⟩
  have B2 := Lib.hid (B1.out.trans f2.below)
  have C2 := Lib.hid (grant_any w.heap.size g B [⟨ka, 1, 2⟩] 1 2 1 kb w2 t2 (small1 _) B2.out.size (by omega) (by omega))
  unfold GrantPost at C2
  rw [aw2.1, aw2.2.1, aw2.2.2.1, aw2.2.2.2] at C2
  clear t2 f2 C1 B1
  go_wp2_with fail
  refine C2.out.mono ?_
  rintro r w3 ⟨rfl, t3, f3⟩
  have B3 := Lib.hid (B2.out.trans f3.below)
  have C3 := Lib.hid (use_any w.heap.size g B [⟨ka, 1, 2⟩] 1 2 1 ka 2 w3 t3 (small1 _))
  rw [aw3.1, aw3.2] at C3
  clear t3 f3 C2 B2
  go_wp2_with fail
  refine C3.out.mono ?_
  rintro r w4 ⟨rfl, t4, f4⟩
  have B4 := Lib.hid (B3.out.trans f4.below)
  have C4 := Lib.hid (use_any w.heap.size g B [⟨ka, 1, 2⟩] 1 2 1 ka 1 w4 t4 (small1 _))
  rw [aw4.1, aw4.2] at C4
  clear t4 f4 C3 B3
  go_wp2_with fail
  refine C4.out.mono ?_
  rintro r w5 ⟨rfl, t5, f5⟩
  have B5 := Lib.hid (B4.out.trans f5.below)
  have C5 := Lib.hid (use_any w.heap.size g B [] 1 2 1 ka 1 w5 t5 (small1 _))
  rw [aw5.1, aw5.2] at C5
  clear t5 f5 C4 B4
  go_wp2_with fail
  refine C5.out.mono ?_
  rintro r w6 ⟨rfl, t6, f6⟩
  have B6 := Lib.hid (B5.out.trans f6.below)
  have C6 := Lib.hid (granted_any w.heap.size g B [] 1 2 1 w6 t6)
  clear t6 f6 C5 B5
  go_wp2_with fail
  refine C6.out.mono ?_
  rintro r w7 ⟨rfl, rfl⟩
  go_wp2
  go_ret
  exact ⟨rfl, B6.out⟩

/-- A table, and a block that no call turns. -/
structure St (w0 W : World) (g B : Nat) (L : List Ls) (limit ticks last : Int) (q : Nat) (o : Obj) : Prop where
  tab : TableAt W w0.heap.size g B L limit ticks last
  box : W.heap[q]? = some o
  kind : kd o ∉ tK
  bel : Below w0.heap.size w0 W
section
variable {w0 W : World} {g B : Nat} {L : List Ls} {limit ticks last : Int} {q : Nat} {o : Obj}
theorem St.below {W' : World} (s : St w0 W g B L limit ticks last q o) (hb : Below W.heap.size W W') : St w0 W' g B L limit ticks last q o :=
  ⟨s.tab.below hb, (hb.block q (lt_of_heap s.box)).trans s.box, s.kind, s.bel.trans (hb.mono s.bel.size)⟩
theorem St.drew (s : St w0 W g B L limit ticks last q o) : St w0 W.drew g B L limit ticks last q o := s.below (Below.refl _ _).drew
theorem St.turn {W' : World} {L' : List Ls} {last' : Int} {l ms : List Nat} (s : St w0 W g B L limit ticks last q o) (hf : Fr l ms w0.heap.size W W') (hl : ∀ x ∈ l, x ∈ tK) (hm : ∀ x ∈ ms, x = g ∨ x = B) (ht : TableAt W' w0.heap.size g B L' limit ticks last') : St w0 W' g B L' limit ticks last' q o :=
  ⟨ht, (s.tab.kinds hf hl hm).keep q o s.box s.kind (by simp), s.kind, s.bel.trans hf.below⟩
theorem st_len (s : St w0 W g B L limit ticks last q o) : Calls Try.prog 20 #[.pointer (some ⟨g, 0, none⟩)] W fun r w' => r = .returned (.int .i64 (L.length : Int)) ∧ St w0 w' g B L limit ticks last q o := by
  refine (len_any _ g B L limit ticks last W s.tab).mono ?_
  rintro r w' ⟨rfl, rfl⟩
  exact ⟨rfl, s⟩
theorem st_granted (s : St w0 W g B L limit ticks last q o) : Calls Try.prog 21 #[.pointer (some ⟨g, 0, none⟩)] W fun r w' => r = .returned (.int .i64 last) ∧ St w0 w' g B L limit ticks last q o := by
  refine (granted_any _ g B L limit ticks last W s.tab).mono ?_
  rintro r w' ⟨rfl, rfl⟩
  exact ⟨rfl, s⟩
theorem st_kill (s : St w0 W g B L limit ticks last q o) (k : ByteArray) (hk : k.size ≤ maxLen) : Calls Try.prog 15 #[.pointer (some ⟨g, 0, none⟩), .string k] W fun r w' => r = .returned (.bool (has L k)) ∧ St w0 w' g B (drp L k) limit ticks last q o := by
  refine (kill_any _ g B L limit ticks last k W s.tab hk).mono ?_
  rintro r w' ⟨rfl, ht, hf⟩
  exact ⟨rfl, s.turn hf (by simp) (by simp) ht⟩
theorem st_use (s : St w0 W g B L limit ticks last q o) (k : ByteArray) (t : Int) (hk : k.size ≤ maxLen) : Calls Try.prog 13 #[.pointer (some ⟨g, 0, none⟩), .string k, .int .i64 t] W fun r w' => r = .returned (.bool (useB L k t)) ∧ St w0 w' g B (useL L k t) limit ticks last q o := by
  refine (use_any _ g B L limit ticks last k t W s.tab hk).mono ?_
  rintro r w' ⟨rfl, ht, hf⟩
  exact ⟨rfl, s.turn hf (by simp) (by simp) ht⟩
theorem st_clear (s : St w0 W g B L limit ticks last q o) : Calls Try.prog 19 #[.pointer (some ⟨g, 0, none⟩)] W fun r w' => r = .returned (.tuple #[]) ∧ St w0 w' g B [] limit ticks last q o := by
  refine (clear_any _ g B L limit ticks last W s.tab).mono ?_
  rintro r w' ⟨rfl, ht, hf⟩
  exact ⟨rfl, s.turn hf (by simp) (by simp) ht⟩
theorem st_tick (s : St w0 W g B L limit ticks last q o) : Calls Try.prog 17 #[.pointer (some ⟨g, 0, none⟩)] W fun r w' => r = .returned (.tuple #[]) ∧ St w0 w' g B (tck L) limit ticks last q o := by
  refine (tick_any _ g B L limit ticks last W s.tab s.bel.size).mono ?_
  rintro r w' ⟨rfl, ht, hf⟩
  exact ⟨rfl, s.turn hf (by simp [tK]) (by simp) ht⟩
theorem st_grant (s : St w0 W g B L limit ticks last q o) (k : ByteArray) (hk : k.size ≤ maxLen) (h1 : -9223372036854775808 ≤ last) (h2 : last < 9223372036854775807) : Calls Try.prog 11 #[.pointer (some ⟨g, 0, none⟩), .string k] W fun r w' =>
    r = .returned (.tuple #[.int .i64 (grV L k limit last), .bool (grB L k limit)]) ∧ St w0 w' g B (grL L k limit ticks last) limit ticks (grT L k limit last) q o := by
  refine (grant_any _ g B L limit ticks last k W s.tab hk s.bel.size h1 h2).mono ?_
  rintro r w' ⟨rfl, ht, hf⟩
  exact ⟨rfl, s.turn hf (by simp) (by simp) ht⟩
end
end Go.Proofs.Ytfiohhgmlelnkaa
