/-
  The walk of DetectPlays. Its conditions: the nodes and the script lie in memory.
-/
import Derived.Test.YtdmgmbjdocechaaW12
namespace Go.Proofs.Ytdmgmbjdocechaa
open Go.RowKit Go.Maps Go.ChangeMaps
open Go.Sort (grow)

def oStep (x : Step) : Obj := .cells #[.int .i64 x.K, .string x.k] 30 (0, 0)
/-- Both detectors, beside a step of the script. -/
structure Pl (w0 W : World) (g B h : Nat) (L : List Tm) (pat now ch : Int) (L' : List Tm) (now' ch' : Int) (q : Nat) (x : Step) : Prop where
  det : DetAt W w0.heap.size g B L pat now ch
  ref : RefAt W w0.heap.size h L' pat now' ch'
  bel : Below w0.heap.size w0 W
  bo : W.heap[q]? = some (oStep x)
section
variable {w0 W W' : World} {g B h : Nat} {L L2 L' L2' : List Tm} {pat now ch now2 ch2 now' ch' now2' ch2' : Int} {q : Nat} {x : Step}
theorem Pl.cell (s : Pl w0 W g B h L pat now ch L' now' ch' q x) : W.cell? ⟨q, 1, none⟩ = some (.string x.k) := by
  have := s.bo
  unfold oStep at this
  simp [World.cell?, this]
theorem Pl.below (s : Pl w0 W g B h L pat now ch L' now' ch' q x) (hb : Below W.heap.size W W') : Pl w0 W' g B h L pat now ch L' now' ch' q x :=
  ⟨s.det.below hb, s.ref.below hb, s.bel.trans (hb.mono s.bel.size), (hb.block q (lt_of_heap s.bo)).trans s.bo⟩
theorem Pl.drew (s : Pl w0 W g B h L pat now ch L' now' ch' q x) : Pl w0 W.drew g B h L pat now ch L' now' ch' q x := s.below (Below.refl _ _).drew
/-- The program's detector has turned. -/
theorem Pl.turnD (s : Pl w0 W g B h L pat now ch L' now' ch' q x) (hd : DetAt W' w0.heap.size g B L2 pat now2 ch2) (hf : Fr [] [g, B] w0.heap.size W W') : Pl w0 W' g B h L2 pat now2 ch2 L' now' ch' q x := by
  obtain ⟨es, c, hb⟩ := s.det.mp.isMap
  have kk : ∀ i ∈ [g, B], ∃ o, W.heap[i]? = some o ∧ (kd o = 53 ∨ kd o = 1000) := fun i hi => by
    simp at hi
    rcases hi with rfl | rfl
    · exact ⟨_, s.det.box, .inl rfl⟩
    · exact ⟨_, hb, .inr rfl⟩
  refine ⟨hd, s.ref.keepB hf fun i hi => ?_, s.bel.trans hf.below, hf.keep q _ s.bo (by simp) fun hi => ?_⟩
  · obtain ⟨o, ho, hk⟩ := kk i hi
    exact ⟨o, ho, by rcases hk with hk | hk <;> rw [hk] <;> decide, by rcases hk with hk | hk <;> rw [hk] <;> decide⟩
  · obtain ⟨o, ho, hk⟩ := kk q hi
    rw [s.bo] at ho
    cases ho
    rcases hk with hk | hk <;> simp [kd, oStep] at hk
/-- The document's detector has turned. -/
theorem Pl.turnR (s : Pl w0 W g B h L pat now ch L' now' ch' q x) (hr : RefAt W' w0.heap.size h L2' pat now2' ch2') (hf : Fr rK [] w0.heap.size W W') : Pl w0 W' g B h L pat now ch L2' now2' ch2' q x :=
  ⟨s.det.keep hf (by simp [rK]) (by simp [rK]) (by simp) (by simp), hr, s.bel.trans hf.below, hf.keep q _ s.bo (by simp [kd, oStep, rK]) (by simp)⟩
theorem pl_tick (s : Pl w0 W g B h L pat now ch L' now' ch' q x) (hnow : now < 1000000) (hch : ch ≤ 1000000000) (hl : L.length ≤ 1000) {m : Nat} (hm : m = (dieL L pat (now + 1)).length) :
    Calls Try.prog 11 #[.pointer (some ⟨g, 0, none⟩)] W fun r w' => ∃ A c, r = .returned (.slice A m c) ∧ RowT eKy 9 w' w0.heap.size (.slice A m c) (dieL L pat (now + 1)) ∧ Pl w0 w' g B h L pat (now + 1) (ch + (m : Int)) L' now' ch' q x := by
  refine (tick_any _ g B L pat now ch W s.det hnow hch hl s.bel.size).mono ?_
  rintro r w' ⟨v, rfl, ht, hd, hf⟩
  obtain ⟨A, c, rfl, _⟩ := ht.form
  rw [← hm] at hd ht ⊢
  exact ⟨A, c, rfl, ht.down s.bel.size, s.turnD hd hf⟩
theorem pl_rtick {A : Option Addr} {c m : Nat} {V : List ByteArray} (s : Pl w0 W g B h L2 pat now2 ch2 L now ch q x) (hg : Good L pat now ch) (hnow : now < 1000000) (hch : ch ≤ 1000000000) (hr : RowT eKy 9 W w0.heap.size (.slice A m c) V) (hV : V = dieL L pat (now + 1)) (hm : m = (dieL L pat (now + 1)).length) (hm2 : m ≤ 1000) :
    Calls Try.prog 12 #[.pointer (some ⟨h, 0, none⟩)] W fun r w' => ∃ A' c', r = .returned (.slice A' m c') ∧ Sl eKy w' A V ∧ Sl eKy w' A' V ∧ Pl w0 w' g B h L2 pat now2 ch2 L (now + 1) (ch + (m : Int)) q x := by
  refine (reftick_any _ h L pat now ch W s.ref hg hnow hch s.bel.size).mono ?_
  rintro r w' ⟨v, rfl, ht, hrf, hf⟩
  rw [← hm] at hrf
  have hr2 := hr.fr hf (by simp) (by simp)
  obtain ⟨A1, c1, e1, s1, _⟩ := hr2.sl (by rw [hV, ← hm]; unfold maxLen; omega)
  obtain ⟨A2, c2, rfl, s2, _⟩ := ht.sl (by rw [← hm]; unfold maxLen; omega)
  cases e1
  rw [← hm]
  exact ⟨A2, c2, rfl, s1, by rw [hV]; exact s2, s.turnR hrf (hf.mono (by simp [rK]) (by simp))⟩
theorem pl_beat (s : Pl w0 W g B h L pat now ch L' now' ch' q x) (hk : x.k.size ≤ maxLen) (hnow : now ≤ 1000000) (hch : ch ≤ 1000000000) (hl : L.length ≤ 1000) :
    Calls Try.prog 13 #[.pointer (some ⟨g, 0, none⟩), .string x.k] W fun r w' => r = .returned (.bool (beatB L pat now x.k)) ∧ Pl w0 w' g B h (beatL L now x.k) pat now (ch + b2i (beatB L pat now x.k)) L' now' ch' q x := by
  refine (beat_any _ g B L pat now ch x.k W s.det hk hnow hch hl s.bel.size).mono ?_
  rintro r w' ⟨rfl, ht, hf⟩
  exact ⟨rfl, s.turnD ht hf⟩
theorem pl_rbeat (s : Pl w0 W g B h L2 pat now2 ch2 L now ch q x) (hg : Good L pat now ch) (hnow : now ≤ 1000000) (hch : ch ≤ 1000000000) :
    Calls Try.prog 14 #[.pointer (some ⟨h, 0, none⟩), .string x.k] W fun r w' => r = .returned (.bool (beatB L pat now x.k)) ∧ Pl w0 w' g B h L2 pat now2 ch2 (beatL L now x.k) now (ch + b2i (beatB L pat now x.k)) q x := by
  refine (refbeat_any _ h L pat now ch x.k W s.ref hg hnow hch s.bel.size).mono ?_
  rintro r w' ⟨rfl, ht, hf⟩
  exact ⟨rfl, s.turnR ht hf⟩
theorem pl_same (s : Pl w0 W g B h L pat now ch L' now' ch' q x) {A A' : Option Addr} {m c c' : Nat} {V : List ByteArray} (h1 : Sl eKy W A V) (h2 : Sl eKy W A' V) (hm : V.length = m) (hm2 : m ≤ 100000) :
    Calls Try.prog 10 #[.slice A m c, .slice A' m c'] W fun r w' => r = .returned (.bool true) ∧ Pl w0 w' g B h L pat now ch L' now' ch' q x := by
  refine (same_any V A A' m c c' W h1 h2 hm hm2).mono ?_
  rintro r w' ⟨rfl, hb⟩
  exact ⟨rfl, s.below hb⟩
end
end Go.Proofs.Ytdmgmbjdocechaa
