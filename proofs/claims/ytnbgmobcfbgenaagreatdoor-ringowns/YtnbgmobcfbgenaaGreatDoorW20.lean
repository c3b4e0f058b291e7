/-
  The contract of the document's Owners: the nodes, by how far they are. Its conditions: the slice reads as texts that lie in memory which is there.
-/
import Derived.Test.YtnbgmobcfbgenaaGreatDoorW19
namespace Go.Proofs.YtnbgmobcfbgenaaGreatDoor
open Go.RowKit Go.Maps
open Go.Sort (grow)

/-- b is the nearest of the first i nodes. -/
structure Best (H : Nat) (T : List ByteArray) (i b : Nat) : Prop where
  bi : b < i
  it : i ≤ T.length
  le : ∀ t (h : t < T.length) (hb : b < T.length), t < i → way H T[b] ≤ way H T[t]
  lt : ∀ t (h : t < T.length) (hb : b < T.length), t < b → way H T[b] < way H T[t]
theorem Best.init {H : Nat} {T : List ByteArray} (h : 0 < T.length) : Best H T 1 0 := by
  refine ⟨by omega, h, fun t ht hb h1 => ?_, fun t ht hb h1 => by omega⟩
  have : t = 0 := by omega
  subst this
  exact Nat.le_refl _
theorem Best.turn {H : Nat} {T : List ByteArray} {i b : Nat} (h : Best H T i b) (hi : i < T.length) (hb : b < T.length) (hw : way H T[i] < way H T[b]) : Best H T (i + 1) i := by
  refine ⟨by omega, hi, fun t ht _ h1 => ?_, fun t ht _ h1 => ?_⟩
  · by_cases e : t = i
    · subst e
      exact Nat.le_refl _
    · have := h.le t ht hb (by omega)
      omega
  · have := h.le t ht hb (by omega)
    omega
theorem Best.stay {H : Nat} {T : List ByteArray} {i b : Nat} (h : Best H T i b) (hi : i < T.length) (hb : b < T.length) (hw : ¬ way H T[i] < way H T[b]) : Best H T (i + 1) b := by
  refine ⟨by have := h.bi; omega, hi, fun t ht _ h1 => ?_, h.lt⟩
  by_cases e : t = i
  · subst e
    omega
  · exact h.le t ht hb (by omega)
/-- All but the b-th. -/
def outN (T : List ByteArray) (b : Nat) : List ByteArray := T.take b ++ T.drop (b + 1)
theorem outN_erase (T : List ByteArray) (b : Nat) : outN T b = T.eraseIdx b := (List.eraseIdx_eq_take_drop_succ T b).symm
theorem outN_rises {T : List ByteArray} (h : KRises T) (b : Nat) : KRises (outN T b) := by
  rw [outN_erase]
  exact List.Pairwise.sublist (List.eraseIdx_sublist T b) h
theorem outN_sub {T : List ByteArray} {b : Nat} {q : ByteArray} (h : q ∈ outN T b) : q ∈ T := by
  rw [outN_erase] at h
  exact (List.eraseIdx_sublist T b).mem h
theorem outN_len {T : List ByteArray} {b : Nat} (h : b < T.length) : (outN T b).length + 1 = T.length := by
  unfold outN
  simp
  omega
theorem split_at {T : List ByteArray} {b : Nat} (hb : b < T.length) : T.take b ++ T[b] :: T.drop (b + 1) = T := by
  rw [← List.drop_eq_getElem_cons hb, List.take_append_drop]
theorem outN_mem {T : List ByteArray} {b : Nat} (hb : b < T.length) (q : ByteArray) : q ∈ T ↔ q = T[b] ∨ q ∈ outN T b := by
  have e := split_at hb
  generalize T[b] = x at e ⊢
  have h1 : q ∈ T ↔ q ∈ T.take b ++ x :: T.drop (b + 1) := by rw [e]
  rw [h1, List.mem_append, List.mem_cons]
  unfold outN
  rw [List.mem_append]
  constructor
  · rintro (h | h | h)
    · exact .inr (.inl h)
    · exact .inl h
    · exact .inr (.inr h)
  · rintro (h | h | h)
    · exact .inr (.inl h)
    · exact .inl h
    · exact .inr (.inr h)
theorem outN_ne {T : List ByteArray} {b : Nat} (hn : T.Nodup) (hb : b < T.length) : ∀ q ∈ outN T b, q ≠ T[b] := by
  intro q hq
  have e := split_at hb
  generalize T[b] = x at e ⊢
  have hn2 : (T.take b ++ x :: T.drop (b + 1)).Nodup := by rw [e]; exact hn
  rw [List.nodup_append] at hn2
  unfold outN at hq
  rintro rfl
  rcases List.mem_append.mp hq with hq | hq
  · exact hn2.2.2 q hq q (by simp) rfl
  · exact (List.nodup_cons.mp hn2.2.1).1 hq
theorem best_wl {H : Nat} {T : List ByteArray} {b t : Nat} (h : Best H T T.length b) (hr : KRises T) (hb : b < T.length) (ht : t < T.length) (hn : t ≠ b) : wl H T[b] T[t] := by
  have h3 : b < t → lt (T[b]'hb) (T[t]'ht) = true := fun hbt => (List.pairwise_iff_getElem.mp hr) b t hb ht hbt
  have h1 := h.le t ht hb ht
  have h2 := h.lt t ht hb
  unfold wl
  generalize way H (T[b]'hb) = p at h1 h2 ⊢
  generalize way H (T[t]'ht) = q at h1 h2 ⊢
  by_cases hlt : t < b
  · exact Or.inl (h2 hlt)
  · by_cases e : p = q
    · exact Or.inr ⟨e, h3 (by omega)⟩
    · exact Or.inl (by omega)
theorem Best.done {H : Nat} {T : List ByteArray} {b : Nat} (hH : H < 18446744073709551616) (h : Best H T T.length b) (hr : KRises T) (hb : b < T.length) : ordS T H = T[b] :: ordS (outN T b) H := by
  have hsplit := outN_mem hb
  have hne := outN_ne hr.nodup hb
  refine ordS_one hH ⟨fun q => ?_, ?_⟩
  · rw [List.mem_cons, mem_ordS hH, hsplit]
  · rw [List.pairwise_cons]
    refine ⟨fun q hq => ?_, (ordS_is _ hH).pw⟩
    rw [mem_ordS hH] at hq
    have hn := hne q hq
    obtain ⟨t, ht, rfl⟩ := List.mem_iff_getElem.mp (outN_sub hq)
    refine best_wl h hr hb ht fun e => ?_
    subst e
    exact hn rfl
/-- The nodes that are left, and those that are found. -/
structure FindI (w : World) (S : List ByteArray) (H : Nat) (n : Int) (T O : List ByteArray) (vl vo : Value) (W : World) : Prop where
  lrow : RowT eKy 9 W w.heap.size vl T
  orow : RowT eKy 9 W w.heap.size vo O
  ap : ∀ b, vl.ownBlock = some b → vo.ownBlock ≠ some b
  bel : Below w.heap.size w W
  all : O ++ ordS T H = ordS S H
  rs : KRises T
  sz : Sized T
  few : (O.length : Int) ≤ max n 0
  o8 : O.length + T.length ≤ 8
section
variable {w W W' : World} {S T O : List ByteArray} {H : Nat} {n : Int} {vl vo : Value}
theorem FindI.below (h : FindI w S H n T O vl vo W) (hb : Below W.heap.size W W') : FindI w S H n T O vl vo W' :=
  ⟨h.lrow.below hb, h.orow.below hb, h.ap, h.bel.trans (hb.mono h.bel.size), h.all, h.rs, h.sz, h.few, h.o8⟩
/-- What the round's appends leave. -/
structure FindUp (w : World) (S : List ByteArray) (H : Nat) (n : Int) (T O : List ByteArray) (g cl : Nat) (vo : Value) (W : World) (b m : Nat) (x : ByteArray) (A2 : Option Addr) (m2 c2 : Nat) (W2 : World) (A3 : Option Addr) (m3 c3 : Nat) (W3 : World) (A4 : Option Addr) (m4 c4 : Nat) (W4 : World) : Prop where
  r1 : (Builtin.append_ #[22, 22] 22 #[vo, .slice (some ⟨W.heap.size, 0, none⟩) 1 1]).run Tryz.prog (W.alloc (.cells #[.string x] 9)) = .ok (.slice A2 m2 c2) W2
  r2 : (Builtin.append_ #[22, 22] 22 #[.slice (some ⟨W2.heap.size, 0, none⟩) 0 0, .slice (some ⟨g, 0, none⟩) b cl]).run Tryz.prog (W2.alloc (.cells #[] 9)) = .ok (.slice A3 m3 c3) W3
  r3 : (cl = b + 1 ∧ m = b + 1 ∧ (Builtin.append_ #[22, 22] 22 #[.slice A3 m3 c3, .slice (some ⟨g, 0, none⟩) 0 0]).run Tryz.prog W3 = .ok (.slice A4 m4 c4) W4) ∨
    (¬ cl = b + 1 ∧ (Builtin.append_ #[22, 22] 22 #[.slice A3 m3 c3, .slice (some ⟨g, b + 1, none⟩) (m - (b + 1)) (cl - (b + 1))]).run Tryz.prog W3 = .ok (.slice A4 m4 c4) W4)
  out : FindI w S H n (outN T b) (O ++ [x]) (.slice A4 m4 c4) (.slice A2 m2 c2) W4
theorem FindI.up {g cl m b : Nat} (hH : H < 18446744073709551616) (h : FindI w S H n T O (.slice (some ⟨g, 0, none⟩) m cl) vo W) (hm : T.length = m) (hbest : Best H T T.length b) (hb : b < T.length) (hf : (O.length : Int) < n) :
    ∃ A2 m2 c2 W2 A3 m3 c3 W3 A4 m4 c4 W4, FindUp w S H n T O g cl vo W b m T[b] A2 m2 c2 W2 A3 m3 c3 W3 A4 m4 c4 W4 := by
  have h8 := h.o8
  have b3 : Below W.heap.size W (W.alloc (.cells #[.string T[b]] 9)) := (Below.refl _ _).alloc (Nat.le_refl _) _
  have hbs := h.bel.size
  have orow3 := h.orow.below b3
  have lrow3 := h.lrow.below b3
  obtain ⟨v2, W2, r1, ho2, hg2⟩ := orow3.app elS (Nat.le_trans hbs b3.size) (sl_one (E := eKy) W T[b] 9) (n := 1) (c := 1) rfl (by simp) (by omega)
  have F2 := Fr.own orow3 hg2 (Nat.le_trans hbs b3.size)
  have bel2 := (h.bel.trans (b3.mono hbs)).trans F2.below
  have lrow2 : RowT eKy 9 W2 w.heap.size (.slice (some ⟨g, 0, none⟩) m cl) T := by
    refine ⟨lrow3.1, ?_⟩
    rcases lrow3.2 with h2 | ⟨g', cap', cur, hv, hbb, hgg, rest⟩
    · exact .inl h2
    · refine .inr ⟨g', cap', cur, hv, hbb, ?_, rest⟩
      rw [hg2.block g' (lt_of_heap hgg) (fun e => h.ap g' (by rw [hv]; rfl) e.symm)]
      exact hgg
  obtain ⟨A2, c2, rfl, hc2⟩ := ho2.form
  have hb2lt : ∀ q, (Value.slice A2 (O ++ [T[b]]).length c2).ownBlock = some q → q < W2.heap.size := by
    intro q hq
    obtain ⟨_, cs, hcs⟩ := ho2.own hq
    exact lt_of_heap hcs
  obtain ⟨A', c', e', sl', hlc, _⟩ := lrow2.sl (by unfold maxLen; omega)
  injection e' with e1 e2 e3
  subst e1 e3
  rw [hm] at hlc
  have bE : Below W2.heap.size W2 (W2.alloc (.cells #[] 9)) := (Below.refl _ _).alloc (Nat.le_refl _) _
  have st := (sl'.below (Nat.le_refl _) bE).take b
  obtain ⟨v3, W3, r2, row3, be3⟩ := (RowT.empty (E := eKy) (e := 9) W2).grow elS rfl bE st (n := b) (c := cl) (by rw [List.length_take]; omega) (by simp) (by simp; omega)
  rw [List.nil_append] at row3
  have hsl3 := sl'.below (Nat.le_refl _) be3
  have htl : (T.take b).length = b := by rw [List.length_take]; omega
  obtain ⟨A3, c3, rfl, _⟩ := row3.form
  have hall : (O ++ [T[b]]) ++ ordS (outN T b) H = ordS S H := by
    rw [← h.all, hbest.done hH h.rs hb]
    simp
  have fin : ∀ v4 W4, RowT eKy 9 W4 W2.heap.size v4 (T.take b ++ T.drop (b + 1)) → Below W2.heap.size W2 W4 → FindI w S H n (outN T b) (O ++ [T[b]]) v4 (.slice A2 (O ++ [T[b]]).length c2) W4 := by
    intro v4 W4 hrow hbel
    refine ⟨hrow.down bel2.size, ho2.below hbel, fun q hq e => ?_, bel2.trans (hbel.mono bel2.size), hall, outN_rises h.rs b, fun a ha => h.sz a (outN_sub ha), ?_, ?_⟩
    · have h1 := (hrow.own hq).1
      have h2 := hb2lt q e
      omega
    · rw [List.length_append]
      simp
      omega
    · have := outN_len hb
      rw [List.length_append]
      simp
      omega
  by_cases hc : cl = b + 1
  · have hmb : m = b + 1 := by omega
    have hd : T.drop (b + 1) = [] := List.drop_of_length_le (by omega)
    obtain ⟨v4, W4, r3, row4, be4⟩ := row3.grow elS rfl be3 (sl_nil (some ⟨g, 0, none⟩)) (m := []) (n := 0) (c := 0) rfl (by simp) (by omega)
    have hf4 := fin v4 W4 (by rw [hd]; exact row4) be4
    obtain ⟨A4, c4, rfl, _⟩ := row4.form
    exact ⟨A2, _, c2, W2, A3, _, c3, W3, A4, _, c4, W4, r1, r2, .inl ⟨hc, hmb, r3⟩, hf4⟩
  · have sd := hsl3.drop (b + 1)
    rw [show eKy.wd = 1 from rfl, Nat.mul_one, Nat.zero_add] at sd
    obtain ⟨v4, W4, r3, row4, be4⟩ := row3.grow elS rfl be3 sd (n := m - (b + 1)) (c := cl - (b + 1)) (by rw [List.length_drop, hm]) (by simp) (by omega)
    have hf4 := fin v4 W4 row4 be4
    obtain ⟨A4, c4, rfl, _⟩ := row4.form
    exact ⟨A2, _, c2, W2, A3, _, c3, W3, A4, _, c4, W4, r1, r2, .inr ⟨hc, r3⟩, hf4⟩
end
end Go.Proofs.YtnbgmobcfbgenaaGreatDoor
