/-
  What a record's parts written one by one come to. What stays on the way. Their conditions: none, or that the blocks lie as said.
-/
import Derived.Test.YtppdckncnfffcaaJ12
namespace Go.Proofs.Ytppdckncnfffcaa
open Go.RowKit Go.Shelf
set_option maxRecDepth 100000

/-- Sectors written one by one. -/
def wrP : Dk → Nat → List Sec → Dk × Bool
  | d, _, [] => (d, true)
  | d, p, s :: r => if stepB d then wrP (putD d p s) (p + 1) r else (stepD d, false)
/-- .. and synced. -/
def wrA (d : Dk) (p : Nat) (ss : List Sec) : Dk × Bool := if (wrP d p ss).2 then (if stepB (wrP d p ss).1 then (keepD (wrP d p ss).1, true) else (stepD (wrP d p ss).1, false)) else ((wrP d p ss).1, false)
theorem wrP_append (d : Dk) (p : Nat) (ss ts : List Sec) : wrP d p (ss ++ ts) = if (wrP d p ss).2 then wrP (wrP d p ss).1 (p + ss.length) ts else ((wrP d p ss).1, false) := by
  induction ss generalizing d p with
  | nil => simp [wrP]
  | cons s r ih =>
    simp only [List.cons_append, wrP]
    split
    · rw [ih, List.length_cons, show p + 1 + r.length = p + (r.length + 1) by omega]
    · simp
theorem putD_K (d : Dk) (p : Nat) (s : Sec) : (putD d p s).K = d.K := stepD_K d
theorem wrP_K (d : Dk) (p : Nat) (ss : List Sec) : (wrP d p ss).1.K = d.K := by
  induction ss generalizing d p with
  | nil => rfl
  | cons s r ih =>
    simp only [wrP]
    split
    · rw [ih, putD_K]
    · exact stepD_K d
theorem wrP_le (d : Dk) (p : Nat) (ss : List Sec) : (wrP d p ss).1.steps ≤ d.steps + ss.length + 1 ∧ (wrP d p ss).1.ps.length ≤ d.ps.length + ss.length := by
  induction ss generalizing d p with
  | nil => simp [wrP]; omega
  | cons s r ih =>
    simp only [wrP]
    have h0 := stepD_steps d
    split
    · obtain ⟨h1, h2⟩ := ih (putD d p s) (p + 1)
      have h3 : (putD d p s).steps = (stepD d).steps := rfl
      have h4 : (putD d p s).ps.length = d.ps.length + 1 := by simp [putD]
      simp only [List.length_cons]
      constructor
      · push_cast; omega
      · omega
    · simp only [List.length_cons]
      rw [stepD_ps]
      constructor
      · push_cast; omega
      · omega
/-! ### What stays -/
section
variable {l ms : List Nat} {base : Nat} {a W W' : World}
theorem Fr.above (h : Fr l ms base a W) (hb : Below a.heap.size W W') (hs : base ≤ a.heap.size) : Fr l ms base a W' :=
  ⟨h.below.trans (hb.mono hs), fun j y hj hy hm => by rw [hb.block j (lt_of_heap hj)]; exact h.keep j y hj hy hm⟩
theorem below_set {n i o : Nat} {u : Value} (h : n ≤ i) : Below n W (W.setCell ⟨i, o, none⟩ u) := (Below.refl _ _).setCell h _
theorem DiskAt.keeps {base g : Nat} {d : Dk} (h : DiskAt W base g d) (hk : Keeps W W') : DiskAt W' base g d := by
  obtain ⟨B, pv, b1, b2, b3, b4⟩ := h.ex
  exact ⟨⟨B, pv, hk _ _ _ _ b1, hk _ _ _ _ b2, b3.keeps hk, b4⟩, h.bg, h.good⟩
/-- A journal's write under way. -/
structure WrI (w W : World) (base b g dg : Nat) (j : Jn) (lap first recs used : Nat) (e : Int) (d : Dk) : Prop where
  bj : W.heap[b]? = some (.cells #[.pointer (some ⟨g, 0, none⟩)] 29 (0, 0))
  br : W.heap[b + 1]? = some (.cells #[.int .i64 (lap : Int), .int .i64 (first : Int), .int .i64 (recs : Int), .int .i64 (used : Int)] 71 (0, 0))
  be : W.heap[b + 2]? = some (.cells #[.int .i64 e] 25 (0, 0))
  jb : JBox W g dg j
  dk : DiskAt W base dg d
  fr : Fr kD [g] base w W
  ge : b = w.heap.size
  hb : base ≤ w.heap.size
section
variable {w : World} {b g dg lap first recs used : Nat} {j j' : Jn} {e e' : Int} {d d' : Dk}
theorem WrI.below (h : WrI w W base b g dg j lap first recs used e d) (hb : Below W.heap.size W W') : WrI w W' base b g dg j lap first recs used e d :=
  ⟨(hb.block _ (lt_of_heap h.bj)).trans h.bj, (hb.block _ (lt_of_heap h.br)).trans h.br, (hb.block _ (lt_of_heap h.be)).trans h.be, h.jb.below hb, h.dk.below hb, h.fr.above (hb.mono h.fr.size) h.hb, h.ge, h.hb⟩
theorem WrI.own {β : Type} {b0 : Nat} {f : β → Nat} {fd : β → Dk} (hb0 : w.heap.size ≤ b0) : OwnFrom b0 (fun (s : β) W => WrI w W base b g dg j lap first recs (f s) e (fd s)) := by
  intro s X Y row h hg hr
  have hk := keeps_grown hg hr
  have hbl := below_grown hg hr hb0 h.fr.size
  exact ⟨hk _ _ _ _ h.bj, hk _ _ _ _ h.br, hk _ _ _ _ h.be, hk _ _ _ _ h.jb, h.dk.keeps hk, h.fr.above hbl h.hb, h.ge, h.hb⟩
theorem WrI.fr101 {base' : Nat} (h : WrI w W base b g dg j lap first recs used e d) (hf : Fr [101] [] base' W W') (hb : w.heap.size ≤ base') : WrI w W' base b g dg j lap first recs used e d :=
  ⟨hf.keep _ _ h.bj (by simp [kd]) (by simp), hf.keep _ _ h.br (by simp [kd]) (by simp), hf.keep _ _ h.be (by simp [kd]) (by simp), h.jb.fr hf (by simp) (by simp), h.dk.keep hf (by simp) (by simp) (by simp) (by simp), h.fr.above (hf.below.mono hb) h.hb, h.ge, h.hb⟩
/-- The disk has been written. -/
theorem WrI.disk (h : WrI w W base b g dg j lap first recs used e d) (hf : Fr kD [] base W W') (hd : DiskAt W' base dg d') : WrI w W' base b g dg j lap first recs used e d' :=
  ⟨hf.keep _ _ h.bj (by simp [kd]) (by simp), hf.keep _ _ h.br (by simp [kd]) (by simp), hf.keep _ _ h.be (by simp [kd]) (by simp), h.jb.fr hf (by simp) (by simp), hd, h.fr.trans (hf.mono (fun _ hx => hx) (by simp)), h.ge, h.hb⟩
/-- The journal's own block has been written. -/
theorem WrI.own76 (h : WrI w W base b g dg j lap first recs used e d) (hf : Fr [] [g] base W W') (hj : JBox W' g dg j') : WrI w W' base b g dg j' lap first recs used e d := by
  have n0 : b ≠ g := fun hh => by have h1 := h.jb; have h2 := h.bj; rw [hh, show W.heap[g]? = _ from h1] at h2; injection h2 with h2; injection h2 with _ h2 _; cases h2
  have n1 : b + 1 ≠ g := fun hh => by have h1 := h.jb; have h2 := h.br; rw [hh, show W.heap[g]? = _ from h1] at h2; injection h2 with h2; injection h2 with _ h2 _; cases h2
  have n2 : b + 2 ≠ g := fun hh => by have h1 := h.jb; have h2 := h.be; rw [hh, show W.heap[g]? = _ from h1] at h2; injection h2 with h2; injection h2 with _ h2 _; cases h2
  exact ⟨hf.keep _ _ h.bj (by simp) (by simpa using n0), hf.keep _ _ h.br (by simp) (by simpa using n1), hf.keep _ _ h.be (by simp) (by simpa using n2), hj, h.dk.keep hf (by simp) (by simp) (by simp) (fun i hi => by simp at hi; subst hi; exact ⟨_, h.jb, by simp [kd]⟩), h.fr.trans (hf.mono (by simp) (fun _ hx => hx)), h.ge, h.hb⟩
theorem WrI.setU (h : WrI w W base b g dg j lap first recs used e d) (x : Nat) : WrI w (W.setCell ⟨b + 1, 3, none⟩ (.int .i64 (x : Int))) base b g dg j lap first recs x e d := by
  have hf : Fr [] [b + 1] base W (W.setCell ⟨b + 1, 3, none⟩ (.int .i64 (x : Int))) := (Fr.refl _ _ _ _).set h.br (.inr (by simp)) (by have := h.ge; have := h.hb; omega) _
  have hbl : Below w.heap.size W (W.setCell ⟨b + 1, 3, none⟩ (.int .i64 (x : Int))) := below_set (by have := h.ge; omega)
  have hgl : g ≠ b + 1 := fun hh => by have h1 := h.jb; rw [hh] at h1; have h2 := h.br; rw [show W.heap[b + 1]? = _ from h1] at h2; injection h2 with h2; injection h2 with _ h2 _; cases h2
  refine ⟨hf.keep _ _ h.bj (by simp) (by simp), ?_, hf.keep _ _ h.be (by simp) (by simp), h.jb.fr hf (by simp) (by simp [hgl]), ?_, h.fr.above hbl h.hb, h.ge, h.hb⟩
  · have := h.br
    simp [World.setCell, Array.getElem?_modify, this]
  · exact h.dk.keep hf (by simp) (by simp) (by simp) (fun i hi => by simp at hi; subst hi; exact ⟨_, h.br, by simp [kd]⟩)
theorem WrI.setR (h : WrI w W base b g dg j lap first recs used e d) (x : Nat) : WrI w (W.setCell ⟨b + 1, 2, none⟩ (.int .i64 (x : Int))) base b g dg j lap first x used e d := by
  have hf : Fr [] [b + 1] base W (W.setCell ⟨b + 1, 2, none⟩ (.int .i64 (x : Int))) := (Fr.refl _ _ _ _).set h.br (.inr (by simp)) (by have := h.ge; have := h.hb; omega) _
  have hbl : Below w.heap.size W (W.setCell ⟨b + 1, 2, none⟩ (.int .i64 (x : Int))) := below_set (by have := h.ge; omega)
  have hgl : g ≠ b + 1 := fun hh => by have h1 := h.jb; rw [hh] at h1; have h2 := h.br; rw [show W.heap[b + 1]? = _ from h1] at h2; injection h2 with h2; injection h2 with _ h2 _; cases h2
  refine ⟨hf.keep _ _ h.bj (by simp) (by simp), ?_, hf.keep _ _ h.be (by simp) (by simp), h.jb.fr hf (by simp) (by simp [hgl]), ?_, h.fr.above hbl h.hb, h.ge, h.hb⟩
  · have := h.br
    simp [World.setCell, Array.getElem?_modify, this]
  · exact h.dk.keep hf (by simp) (by simp) (by simp) (fun i hi => by simp at hi; subst hi; exact ⟨_, h.br, by simp [kd]⟩)
theorem WrI.err (h : WrI w W base b g dg j lap first recs used e d) (x : Int) : WrI w (W.setCell ⟨b + 2, 0, none⟩ (.int .i64 x)) base b g dg j lap first recs used x d := by
  have hf : Fr [] [b + 2] base W (W.setCell ⟨b + 2, 0, none⟩ (.int .i64 x)) := (Fr.refl _ _ _ _).set h.be (.inr (by simp)) (by have := h.ge; have := h.hb; omega) _
  have hbl : Below w.heap.size W (W.setCell ⟨b + 2, 0, none⟩ (.int .i64 x)) := below_set (by have := h.ge; omega)
  have hgl : g ≠ b + 2 := fun hh => by have h1 := h.jb; rw [hh] at h1; have h2 := h.be; rw [show W.heap[b + 2]? = _ from h1] at h2; injection h2 with h2; injection h2 with _ h2 _; cases h2
  refine ⟨hf.keep _ _ h.bj (by simp) (by simp), hf.keep _ _ h.br (by simp) (by simp), ?_, h.jb.fr hf (by simp) (by simp [hgl]), ?_, h.fr.above hbl h.hb, h.ge, h.hb⟩
  · have := h.be
    simp [World.setCell, Array.getElem?_modify, this]
  · exact h.dk.keep hf (by simp) (by simp) (by simp) (fun i hi => by simp at hi; subst hi; exact ⟨_, h.be, by simp [kd]⟩)
end
end
/-- What write leaves. -/
def wrJ (j : Jn) (lap first recs used n : Nat) (ok : Bool) : Jn := if ok then { j with lap := lap, first := first, recs := recs + 1, used := used + n, last := max j.last lap } else { j with over := true }
def WritePost (w : World) (base g dg : Nat) (j : Jn) (d : Dk) (lap first recs used : Nat) (r : List UInt8) (e : Ending) (w' : World) : Prop :=
  e = .returned (.int .i64 (if (wrA d (first + used) (secsOf lap recs r)).2 then 0 else 7)) ∧ DiskAt w' base dg (wrA d (first + used) (secsOf lap recs r)).1 ∧
    JBox w' g dg (wrJ j lap first recs used (partsN r.length) (wrA d (first + used) (secsOf lap recs r)).2) ∧ Fr kD [g] base w w'
theorem parted_any2 (lap k : Nat) (A : Option Addr) (n c : Nat) (w : World) : Calls Try.prog 47 #[.int .i64 (lap : Int), .int .i64 (k : Int), .slice A n c] w fun e w' => e = .returned (.func (.func 53) #[] #[.pointer (some ⟨w.heap.size + 1 + 1, 0, none⟩), .pointer (some ⟨w.heap.size, 0, none⟩), .pointer (some ⟨w.heap.size + 1, 0, none⟩)]) ∧ w' = ((w.alloc (.cells #[.int .i64 (lap : Int)] 3)).alloc (.cells #[.int .i64 (k : Int)] 3)).alloc (.cells #[.slice A n c] 38) := by
  go_enter Try.func47, Try.ntmps47
  go_wp2
  go_ret
  exact ⟨rfl, rfl⟩
end Go.Proofs.Ytppdckncnfffcaa
