/-
  The document's example is answered as it says. Words for memory: a table beside other blocks; a script that came in. Their conditions: none.
-/
import Derived.Test.YtkonkldcallimaaW5
namespace Go.Proofs.Ytkonkldcallimaa
open Go.RowKit Go.Maps Go.ChangeMaps

theorem run_max2 {P : Program} (w : World) (ts : Array TypeId) (t : TypeId) (x y n : Int) (h : n = max x y) :
    (Builtin.max_ ts t #[.int .i64 x, .int .i64 y]).run P w = .ok (.int .i64 n) w := by
  subst h
  simp [Builtin.max_, Builtin.max2]
  try omega
theorem run_min2 {P : Program} (w : World) (ts : Array TypeId) (t : TypeId) (x y n : Int) (h : n = min x y) :
    (Builtin.min_ ts t #[.int .i64 x, .int .i64 y]).run P w = .ok (.int .i64 n) w := by
  subst h
  simp [Builtin.min_, Builtin.min2]
  try omega
theorem wf_i64 {x : Int} (h1 : -9223372036854775808 ≤ x) (h2 : x ≤ 9223372036854775807) : (Lit.int .i64 x).wf = true := WalkArith.wf_i64 (by omega)
/-- Every block that is no map lies as it lay. -/
def Keeps (W W' : World) : Prop := ∀ (q : Nat) (o : Obj), W.heap[q]? = some o → kd o ≠ 1000 → W'.heap[q]? = some o
theorem Keeps.of_below {W W' : World} (h : Below W.heap.size W W') : Keeps W W' := fun q _ hq _ => (h.block q (lt_of_heap hq)).trans hq
/-- A table, and what lay there before. -/
structure St (w0 W : World) (g B : Nat) (L : List Mk) (limit : Int) : Prop where
  tab : TableAt W w0.heap.size g B L limit
  bel : Below w0.heap.size w0 W
section
variable {w0 W W' : World} {g B : Nat} {L L' : List Mk} {limit : Int}
theorem St.below (s : St w0 W g B L limit) (hb : Below W.heap.size W W') : St w0 W' g B L limit := ⟨s.tab.below hb, s.bel.trans (hb.mono s.bel.size)⟩
theorem St.drew (s : St w0 W g B L limit) : St w0 W.drew g B L limit := s.below (Below.refl _ _).drew
theorem St.keeps (s : St w0 W g B L limit) (hf : Fr [] [B] w0.heap.size W W') : Keeps W W' := fun q o hq hk => hf.keep q o hq (by simp) (by
  intro e
  rw [List.mem_singleton] at e
  subst e
  obtain ⟨es, c, hb⟩ := s.tab.mp.isMap
  rw [hb] at hq
  cases hq
  exact hk rfl)
theorem St.turn (s : St w0 W g B L limit) (hf : Fr [] [B] w0.heap.size W W') (ht : TableAt W' w0.heap.size g B L' limit) : St w0 W' g B L' limit ∧ Keeps W W' := ⟨⟨ht, s.bel.trans hf.below⟩, s.keeps hf⟩
theorem st_len (s : St w0 W g B L limit) : Calls Try.prog 19 #[.pointer (some ⟨g, 0, none⟩)] W fun r w' => r = .returned (.int .i64 (L.length : Int)) ∧ W = w' := len_any _ g B L limit W s.tab
theorem st_has (s : St w0 W g B L limit) (k : ByteArray) : Calls Try.prog 17 #[.pointer (some ⟨g, 0, none⟩), .string k] W fun r w' => r = .returned (.bool (hasK L k)) ∧ St w0 w' g B L limit ∧ Keeps W w' := by
  refine (has_any _ g B L limit k W s.tab).mono ?_
  rintro r w' ⟨rfl, hb⟩
  exact ⟨rfl, s.below hb, Keeps.of_below hb⟩
theorem st_set (s : St w0 W g B L limit) (m : Mk) (hm : Ok m) : Calls Try.prog 10 #[.pointer (some ⟨g, 0, none⟩), .string m.k, .int .i64 m.s, .int .i64 m.r] W fun r w' => r = .returned (.int .i64 (setE L m limit)) ∧ St w0 w' g B (setL L m limit) limit ∧ Keeps W w' := by
  refine (set_any _ g B L limit m W s.tab hm s.bel.size).mono ?_
  rintro r w' ⟨rfl, ht, hf⟩
  exact ⟨rfl, s.turn hf ht⟩
theorem st_clear (s : St w0 W g B L limit) (m : Mk) (hm : Ok m) : Calls Try.prog 12 #[.pointer (some ⟨g, 0, none⟩), .string m.k, .int .i64 m.s, .int .i64 m.r] W fun r w' => r = .returned (.bool (decide (m ∈ L))) ∧ St w0 w' g B (out L (isG m)) limit ∧ Keeps W w' := by
  refine (clear_any _ g B L limit m W s.tab hm s.bel.size).mono ?_
  rintro r w' ⟨rfl, ht, hf⟩
  exact ⟨rfl, s.turn hf ht⟩
theorem st_upto (s : St w0 W g B L limit) (k : ByteArray) (i r : Int) : Calls Try.prog 14 #[.pointer (some ⟨g, 0, none⟩), .string k, .int .i64 i, .int .i64 r] W fun x w' => x = .returned (.int .i64 (gone L (upG k i r))) ∧ St w0 w' g B (out L (upG k i r)) limit ∧ Keeps W w' := by
  refine (upto_any _ g B L limit k i r W s.tab s.bel.size).mono ?_
  rintro x w' ⟨rfl, ht, hf⟩
  exact ⟨rfl, s.turn hf ht⟩
theorem st_past (s : St w0 W g B L limit) (i r : Int) : Calls Try.prog 15 #[.pointer (some ⟨g, 0, none⟩), .int .i64 i, .int .i64 r] W fun x w' => x = .returned (.int .i64 (gone L (paG i r))) ∧ St w0 w' g B (out L (paG i r)) limit ∧ Keeps W w' := by
  refine (past_any _ g B L limit i r W s.tab s.bel.size).mono ?_
  rintro x w' ⟨rfl, ht, hf⟩
  exact ⟨rfl, s.turn hf ht⟩
end
def ka : ByteArray := ⟨#[97]⟩
def kb : ByteArray := ⟨#[98]⟩
theorem okS {k : ByteArray} (h : k.size ≤ maxLen) {s r : Int} (h1 : 0 ≤ s ∧ s ≤ 1000) (h2 : 0 ≤ r ∧ r ≤ 1000) : Ok ⟨k, s, r⟩ := ⟨h, wf_i64 (by show _ ≤ s; omega) (by show s ≤ _; omega), wf_i64 (by show _ ≤ r; omega) (by show r ≤ _; omega)⟩
theorem small1 (x : UInt8) : (⟨#[x]⟩ : ByteArray).size ≤ maxLen := by show 1 ≤ maxLen; unfold maxLen; omega
theorem aw1 : setL [] ⟨ka, 1, 5⟩ 2 = [⟨ka, 1, 5⟩] ∧ setE [] ⟨ka, 1, 5⟩ 2 = 0 := by simp [setL, setE, ins]
theorem aw2 : setL [⟨ka, 1, 5⟩] ⟨ka, 1, 7⟩ 2 = [⟨ka, 1, 5⟩, ⟨ka, 1, 7⟩] ∧ setE [⟨ka, 1, 5⟩] ⟨ka, 1, 7⟩ 2 = 0 := by simp [setL, setE, ins, mlt, lt_irrefl]
theorem aw3 : setL [⟨ka, 1, 5⟩, ⟨ka, 1, 7⟩] ⟨kb, 1, 8⟩ 2 = [⟨ka, 1, 5⟩, ⟨ka, 1, 7⟩] ∧ setE [⟨ka, 1, 5⟩, ⟨ka, 1, 7⟩] ⟨kb, 1, 8⟩ 2 = 4 := by simp [setL, setE]
theorem aw4 : out [⟨ka, 1, 5⟩, ⟨ka, 1, 7⟩] (isG ⟨ka, 1, 6⟩) = [⟨ka, 1, 5⟩, ⟨ka, 1, 7⟩] ∧ decide ((⟨ka, 1, 6⟩ : Mk) ∈ ([⟨ka, 1, 5⟩, ⟨ka, 1, 7⟩] : List Mk)) = false := by simp [out, isG]
theorem aw5 : out [⟨ka, 1, 5⟩, ⟨ka, 1, 7⟩] (upG ka 1 6) = [⟨ka, 1, 7⟩] ∧ gone [⟨ka, 1, 5⟩, ⟨ka, 1, 7⟩] (upG ka 1 6) = 1 := by simp [out, upG, gone]
theorem aw6 : hasK [⟨ka, 1, 7⟩] ka = true := by simp [hasK]
theorem aw7 : out [⟨ka, 1, 7⟩] (isG ⟨ka, 1, 7⟩) = [] ∧ decide ((⟨ka, 1, 7⟩ : Mk) ∈ ([⟨ka, 1, 7⟩] : List Mk)) = true := by simp [out, isG]
set_option maxHeartbeats 2000000 in
theorem awake_any (w : World) : Calls Try.prog 8 #[] w fun e w' => e = .returned (.bool true) ∧ Below w.heap.size w w' := by
  go_enter Try.func8, Try.ntmps8
  go_wp2_with fail
  refine (new_any w.heap.size 2 w (Nat.le_refl _) (by omega)).mono ?_
  rintro r w1 ⟨g, B, rfl, t1, b1, _, _⟩
  have C1 := Lib.hid (st_set ⟨t1, b1⟩ ⟨ka, 1, 5⟩ (okS (small1 _) (by omega) (by omega)))
  rw [aw1.1, aw1.2] at C1
  clear t1 b1
  go_wp2_with fail
  refine C1.out.mono ?_
  rintro r w2 ⟨rfl, s2, _⟩
  have C2 := Lib.hid (st_set s2 ⟨ka, 1, 7⟩ (okS (small1 _) (by omega) (by omega)))
  rw [aw2.1, aw2.2] at C2
  clear s2 C1
  go_wp2_with fail
  refine C2.out.mono ?_
  rintro r w3 ⟨rfl, s3, _⟩
  have C3 := Lib.hid (st_set s3 ⟨kb, 1, 8⟩ (okS (small1 _) (by omega) (by omega)))
  rw [aw3.1, aw3.2] at C3
  clear s3 C2
  go_wp2_with fail
  refine C3.out.mono ?_
  rintro r w4 ⟨rfl, s4, _⟩
  have C4 := Lib.hid (st_clear s4 ⟨ka, 1, 6⟩ (okS (small1 _) (by omega) (by omega)))
  rw [aw4.1, aw4.2] at C4
  clear s4 C3
  go_wp2_with fail
  refine C4.out.mono ?_
  rintro r w5 ⟨rfl, s5, _⟩
  have C5 := Lib.hid (st_upto s5 ka 1 6)
  rw [aw5.1, aw5.2] at C5
  clear s5 C4
  go_wp2_with fail
  refine C5.out.mono ?_
  rintro r w6 ⟨rfl, s6, _⟩
  have C6 := Lib.hid (st_has s6 ka)
  rw [aw6] at C6
  clear s6 C5
  go_wp2_with fail
  refine C6.out.mono ?_
  rintro r w7 ⟨rfl, s7, _⟩
  have C7 := Lib.hid (st_clear s7 ⟨ka, 1, 7⟩ (okS (small1 _) (by omega) (by omega)))
  rw [aw7.1, aw7.2] at C7
  clear s7 C6
  go_wp2_with fail
  refine C7.out.mono ?_
  rintro r w8 ⟨rfl, s8, _⟩
  have S8 := Lib.hid s8
  have C8 := Lib.hid (st_len s8)
  clear s8 C7
  go_wp2_with fail
  refine C8.out.mono ?_
  rintro r w9 ⟨rfl, rfl⟩
  simp only [List.length_nil]
  go_wp2
  go_ret
  exact ⟨rfl, S8.out.bel⟩

/-- One step of a script. -/
structure Step where
  K : Int
  m : Mk
/-- A slice (its address A) that reads as the steps l. -/
def Scr (w : World) (A : Option Addr) (l : List Step) : Prop :=
  l.length ≤ maxLen ∧ (∀ x ∈ l, Ok x.m) ∧ (0 < l.length → ∃ b off, A = some ⟨b, off, none⟩ ∧ b < w.heap.size ∧ ∀ (k : Nat) (x : Step), l[k]? = some x →
    w.cell? ⟨b, off + k * 4, none⟩ = some (.int .i64 x.K) ∧ w.cell? ⟨b, off + k * 4 + 1, none⟩ = some (.string x.m.k) ∧ w.cell? ⟨b, off + k * 4 + 2, none⟩ = some (.int .i64 x.m.s) ∧ w.cell? ⟨b, off + k * 4 + 3, none⟩ = some (.int .i64 x.m.r))
theorem Scr.below {w w' : World} {A : Option Addr} {l : List Step} {B : Nat} (h : Scr w A l) (hB : w.heap.size ≤ B) (hb : Below B w w') : Scr w' A l := by
  obtain ⟨h1, h2, h3⟩ := h
  refine ⟨h1, h2, fun hl => ?_⟩
  obtain ⟨b, off, hA, hlt, hc⟩ := h3 hl
  have e : ∀ o, w'.cell? ⟨b, o, none⟩ = w.cell? ⟨b, o, none⟩ := fun o => hb.cell (p := ⟨b, o, none⟩) (Nat.lt_of_lt_of_le hlt hB)
  exact ⟨b, off, hA, Nat.lt_of_lt_of_le hlt hb.size, fun k x hk => by rw [e, e, e, e]; exact hc k x hk⟩
theorem Scr.at_ {w : World} {A : Option Addr} {l : List Step} (h : Scr w A l) {k : Nat} (hk : k < l.length) : ∃ b off, A = some ⟨b, off, none⟩ ∧ b < w.heap.size ∧
    w.cell? ⟨b, off + k * 4, none⟩ = some (.int .i64 l[k].K) ∧ w.cell? ⟨b, off + k * 4 + 1, none⟩ = some (.string l[k].m.k) ∧ w.cell? ⟨b, off + k * 4 + 2, none⟩ = some (.int .i64 l[k].m.s) ∧ w.cell? ⟨b, off + k * 4 + 3, none⟩ = some (.int .i64 l[k].m.r) := by
  obtain ⟨b, off, hA, hlt, hc⟩ := h.2.2 (by omega)
  exact ⟨b, off, hA, hlt, hc k _ (List.getElem?_eq_getElem hk)⟩
def oStep (x : Step) : Obj := .cells #[.int .i64 x.K, .string x.m.k, .int .i64 x.m.s, .int .i64 x.m.r] 31 (0, 0)
theorem step_cells {W : World} {q : Nat} {x : Step} (h : W.heap[q]? = some (oStep x)) : W.cell? ⟨q, 0, none⟩ = some (.int .i64 x.K) ∧ W.cell? ⟨q, 1, none⟩ = some (.string x.m.k) ∧ W.cell? ⟨q, 2, none⟩ = some (.int .i64 x.m.s) ∧ W.cell? ⟨q, 3, none⟩ = some (.int .i64 x.m.r) := by
  unfold oStep at h
  refine ⟨?_, ?_, ?_, ?_⟩ <;> simp [World.cell?, h]
theorem oStep_kind (x : Step) : kd (oStep x) ≠ 1000 := by simp [oStep, kd]
end Go.Proofs.Ytkonkldcallimaa
