/-
  The document's example is answered as it says. Words for memory: a table beside other blocks; a script and stones that came in. Their conditions: none.
-/
import Derived.Test.YtlleiehacmkedaaW3
namespace Go.Proofs.Ytlleiehacmkedaa
open Go.RowKit Go.Maps Go.ChangeMaps

/-- A table, and what lay there before. -/
structure St (w0 W : World) (g B : Nat) (L : List Tm) (floor limit : Int) : Prop where
  tab : TableAt W w0.heap.size g B L floor limit
  bel : Below w0.heap.size w0 W
section
variable {w0 W W' : World} {g B : Nat} {L L' : List Tm} {floor f' limit : Int}
theorem St.below (s : St w0 W g B L floor limit) (hb : Below W.heap.size W W') : St w0 W' g B L floor limit := ⟨s.tab.below hb, s.bel.trans (hb.mono s.bel.size)⟩
theorem St.drew (s : St w0 W g B L floor limit) : St w0 W.drew g B L floor limit := s.below (Below.refl _ _).drew
theorem St.fr (s : St w0 W g B L floor limit) {l : List Nat} (hf : Fr l [] w0.heap.size W W') (h1 : 48 ∉ l) (h2 : 1000 ∉ l) : St w0 W' g B L floor limit := ⟨s.tab.keep hf h1 h2, s.bel.trans hf.below⟩
theorem St.ofNew {r : World} (h : TableAt r w0.heap.size g B L floor limit) (hb : Below w0.heap.size w0 r) : St w0 r g B L floor limit := ⟨h, hb⟩
theorem st_len (s : St w0 W g B L floor limit) : Calls Try.prog 17 #[.pointer (some ⟨g, 0, none⟩)] W fun r w' => r = .returned (.int .i64 (L.length : Int)) ∧ W = w' := len_any _ g B L floor limit W s.tab
theorem st_floor (s : St w0 W g B L floor limit) : Calls Try.prog 18 #[.pointer (some ⟨g, 0, none⟩)] W fun r w' => r = .returned (.int .i64 floor) ∧ W = w' := floor_any _ g B L floor limit W s.tab
theorem st_allows (s : St w0 W g B L floor limit) (k : ByteArray) (hk : k.size ≤ maxLen) (n : Int) : Calls Try.prog 15 #[.pointer (some ⟨g, 0, none⟩), .string k, .int .i64 n] W fun r w' => r = .returned (.bool (decide (n ≥ bar L floor k))) ∧ St w0 w' g B L floor limit ∧ Below W.heap.size W w' := by
  refine (allows_any _ g B L floor limit k n W s.tab hk).mono ?_
  rintro r w' ⟨rfl, hb⟩
  exact ⟨rfl, s.below hb, hb⟩
theorem st_note (s : St w0 W g B L floor limit) (x : Tm) (hx : Ok x) (hl : L.length ≤ 1000) : Calls Try.prog 10 #[.pointer (some ⟨g, 0, none⟩), .string x.k, .int .i64 x.n] W fun r w' => r = .returned (.tuple #[]) ∧ St w0 w' g B (noteL L x.k x.n limit) (noteF L floor x.k x.n limit) limit ∧ Fr kT [] w0.heap.size W w' := by
  refine (note_any _ g B L floor limit x W s.tab hx hl s.bel.size).mono ?_
  rintro r w' ⟨rfl, ht, hf⟩
  exact ⟨rfl, ⟨ht, s.bel.trans hf.below⟩, hf⟩
theorem st_pass (s : St w0 W g B L floor limit) (n : Int) (hl : L.length ≤ 1000) : Calls Try.prog 12 #[.pointer (some ⟨g, 0, none⟩), .int .i64 n] W fun r w' => r = .returned (.int .i64 (gone L n)) ∧ St w0 w' g B (passL L n) (passF floor n) limit ∧ Fr kT [] w0.heap.size W w' := by
  refine (pass_any _ g B L floor limit n W s.tab s.bel.size hl).mono ?_
  rintro r w' ⟨rfl, ht, hf⟩
  exact ⟨rfl, ⟨ht, s.bel.trans hf.below⟩, hf⟩
theorem st_clear (s : St w0 W g B L floor limit) : Calls Try.prog 14 #[.pointer (some ⟨g, 0, none⟩)] W fun r w' => r = .returned (.tuple #[]) ∧ St w0 w' g B [] 0 limit ∧ Fr kT [] w0.heap.size W w' := by
  refine (clear_any _ g B L floor limit W s.tab).mono ?_
  rintro r w' ⟨rfl, ht, hf⟩
  exact ⟨rfl, ⟨ht, s.bel.trans hf.below⟩, hf⟩
end
theorem noteL_le (L : List Tm) (k : ByteArray) (n limit : Int) (h : Rises L) : (noteL L k n limit).length ≤ L.length + 1 := by
  unfold noteL
  split
  · omega
  · split
    · by_cases hk : k ∈ keys L
      · rw [length_ins_old h hk]
        omega
      · rw [length_ins_new hk]
        omega
    · omega
def ka : ByteArray := ⟨#[97]⟩
def kb : ByteArray := ⟨#[98]⟩
def kc : ByteArray := ⟨#[99]⟩
theorem okS {k : ByteArray} (h : k.size ≤ maxLen) {n : Int} (h1 : 0 ≤ n ∧ n ≤ 1000) : Ok ⟨k, n⟩ := ⟨h, wf_i64 (by show _ ≤ n; omega) (by show n ≤ _; omega)⟩
theorem small1 (x : UInt8) : (⟨#[x]⟩ : ByteArray).size ≤ maxLen := by show 1 ≤ maxLen; unfold maxLen; omega
theorem ne_ab : ¬ ka = kb := by decide
theorem aw1 : noteL [] ka 5 1 = [⟨ka, 5⟩] ∧ noteF [] 0 ka 5 1 = 0 := by constructor <;> simp [noteL, noteF, takes, has, fnd, ins, val] <;> rfl
theorem aw2 : noteL [⟨ka, 5⟩] kb 7 1 = [⟨ka, 5⟩] ∧ noteF [⟨ka, 5⟩] 0 kb 7 1 = 7 := by constructor <;> simp [noteL, noteF, takes, has, fnd, ne_ab] <;> rfl
theorem aw3 : bar [⟨ka, 5⟩] 7 ka = 7 := by simp [bar, val, fnd]; rfl
theorem aw4 : passL [⟨ka, 5⟩] 6 = [] ∧ passF 7 6 = 7 ∧ gone [⟨ka, 5⟩] 6 = 1 := by simp [passL, passF, gone]
theorem aw5 (k : ByteArray) (f : Int) (h : 0 ≤ f) : bar [] f k = f := by simp [bar, val, fnd]; omega
theorem aw6 : passL [] 7 = [] ∧ passF 7 7 = 0 ∧ gone [] 7 = 0 := by simp [passL, passF, gone]
set_option maxHeartbeats 2000000 in
theorem awake_any (w : World) : Calls Try.prog 8 #[] w fun e w' => e = .returned (.bool true) ∧ Below w.heap.size w w' := by
  go_enter Try.func8, Try.ntmps8
  go_wp2_with fail
  refine (new_any w.heap.size 1 w (Nat.le_refl _)).mono ?_
  rintro r w1 ⟨g, B, rfl, t1, b1, _, _⟩
  have C1 := Lib.hid (st_note ⟨t1, b1⟩ ⟨ka, 5⟩ (okS (small1 _) (by omega)) (by simp))
  simp only [aw1.1, aw1.2] at C1
  clear t1 b1
  go_wp2_with fail
  refine C1.out.mono ?_
  rintro r w2 ⟨rfl, s2, _⟩
  have C2 := Lib.hid (st_note s2 ⟨kb, 7⟩ (okS (small1 _) (by omega)) (by simp))
  simp only [aw2.1, aw2.2] at C2
  clear s2 C1
  go_wp2_with fail
  refine C2.out.mono ?_
  rintro r w3 ⟨rfl, s3, _⟩
  have C3 := Lib.hid (st_allows s3 ka (small1 _) 5)
  rw [aw3] at C3
  have C4 : Hid (∀ W, St w W g B [⟨ka, 5⟩] 7 1 → Calls Try.prog 15 #[.pointer (some ⟨g, 0, none⟩), .string ka, .int .i64 7] W fun r w' => r = .returned (.bool (decide ((7 : Int) ≥ 7))) ∧ St w w' g B [⟨ka, 5⟩] 7 1 ∧ Below W.heap.size W w') := fun W s => by
    have := st_allows s ka (small1 _) 7
    rw [aw3] at this
    exact this
  clear s3 C2
  go_wp2_with fail
  refine C3.out.mono ?_
  rintro r w4 ⟨rfl, s4, _⟩
  have C4' := Lib.hid (C4.out _ s4)
  clear s4 C3 C4
  go_wp2_with fail
  refine C4'.out.mono ?_
  rintro r w5 ⟨rfl, s5, _⟩
  have C5 := Lib.hid (st_pass s5 6 (by simp))
  rw [aw4.1, aw4.2.1, aw4.2.2] at C5
  clear s5 C4'
  go_wp2_with fail
  refine C5.out.mono ?_
  rintro r w6 ⟨rfl, s6, _⟩
  have C6 := Lib.hid (st_allows s6 kc (small1 _) 6)
  rw [aw5 _ _ (by omega)] at C6
  clear s6 C5
  go_wp2_with fail
  refine C6.out.mono ?_
  rintro r w7 ⟨rfl, s7, _⟩
  have C7 := Lib.hid (st_pass s7 7 (by simp))
  rw [aw6.1, aw6.2.1, aw6.2.2] at C7
  clear s7 C6
  go_wp2_with fail
  refine C7.out.mono ?_
  rintro r w8 ⟨rfl, s8, _⟩
  have C8 := Lib.hid (st_allows s8 kc (small1 _) 0)
  rw [aw5 _ _ (by omega)] at C8
  clear s8 C7
  go_wp2_with fail
  refine C8.out.mono ?_
  rintro r w9 ⟨rfl, s9, _⟩
  have S9 := Lib.hid s9.bel
  clear s9 C8
  go_wp2
  go_ret
  exact ⟨rfl, S9.out⟩

/-- A slice that reads as a script's steps. -/
def Scr (w : World) (A : Option Addr) (l : List Step) : Prop := Sl eSt w A l ∧ ∀ x ∈ l, Ok x.t
/-- A stone. -/
abbrev Tk := Tm
/-- A slice that reads as stones. -/
def Ths (w : World) (A : Option Addr) (l : List Tk) : Prop := Sl eTm w A l ∧ ∀ x ∈ l, Ok x
theorem Scr.below {w w' : World} {A : Option Addr} {l : List Step} {B : Nat} (h : Scr w A l) (hB : w.heap.size ≤ B) (hb : Below B w w') : Scr w' A l := ⟨h.1.below hB hb, h.2⟩
theorem Ths.below {w w' : World} {A : Option Addr} {l : List Tk} {B : Nat} (h : Ths w A l) (hB : w.heap.size ≤ B) (hb : Below B w w') : Ths w' A l := ⟨h.1.below hB hb, h.2⟩
theorem int_top {n : Int} (h : (Lit.int .i64 n).wf = true) : n ≤ 9223372036854775807 := by
  have := bounds_i64 h
  omega
theorem int_low {n : Int} (h : (Lit.int .i64 n).wf = true) : -9223372036854775808 ≤ n := by
  have := bounds_i64 h
  omega
def oStep (x : Step) : Obj := .cells #[.int .i64 x.K, .string x.t.k, .int .i64 x.t.n] 31 (0, 0)
theorem step_cells {W : World} {q : Nat} {x : Step} (h : W.heap[q]? = some (oStep x)) : W.cell? ⟨q, 0, none⟩ = some (.int .i64 x.K) ∧ W.cell? ⟨q, 1, none⟩ = some (.string x.t.k) ∧ W.cell? ⟨q, 2, none⟩ = some (.int .i64 x.t.n) := by
  unfold oStep at h
  refine ⟨?_, ?_, ?_⟩ <;> simp [World.cell?, h]
end Go.Proofs.Ytlleiehacmkedaa
