/-
  The contracts of the hand that writes: put, putNumber, and of Writer's Num, Flag, Text, Bytes. Their conditions: the writer is the call's own, and what it has fits memory.
-/
import Derived.Test.YthcmijppemochaaW1
import Derived.Lib.SlBytesConst
namespace Go.Proofs.Ythcmijppemochaa
open Go.RowKit

theorem info5 : (Try.prog.info? 5).map (fun i => (i.zero, i.size, i.bytes)) = some (some (.int .u8 0), 1, 1) := by kernel_rfl
theorem info5p : ∃ i, Try.prog.info? 5 = some i ∧ i.zero = some (.int .u8 0) ∧ i.size = 1 ∧ i.bytes = 1 := info_parts info5
def vals (l : List Nat) : List Value := l.map fun (c : Nat) => Value.int .u8 (c : Int)
theorem vals_append (l m : List Nat) : vals (l ++ m) = vals l ++ vals m := by simp [vals]
theorem vals_length (l : List Nat) : (vals l).length = l.length := by simp [vals]
theorem news_of {w : World} {ad : Addr} {l : List Nat} (h : Bytes w (some ad) l) : ∀ (j : Nat) (u : Value), (vals l)[j]? = some u → w.cell? (ad.add j) = some u := by
  intro j u hj
  have hl : j < l.length := by rw [← vals_length l]; exact (List.getElem?_eq_some_iff.mp hj).1
  obtain ⟨b, off, hA, _, hc⟩ := h.2.2 (by omega)
  injection hA with hA
  subst hA
  unfold vals at hj
  rw [List.getElem?_map] at hj
  obtain ⟨c, hcl, rfl⟩ := Option.map_eq_some_iff.mp hj
  rw [addr_add]
  exact hc j c hcl
theorem vals_one (l : List Nat) : ∀ u ∈ vals l, u.oneCell' = true := by
  intro u hu
  obtain ⟨c, _, rfl⟩ := List.mem_map.mp hu
  rfl

/-- append by the equation of its run. -/
theorem wpList_append_run {P : Program} {w : World} {ops : Array Oper} {rest : List Oper} {o : Oper} {a : Act} {Q : Exit → Act → World → Prop} (hgd : o.guard = none) (s x : Operand) (t u : TypeId)
    (ho : o.op = .call { callee := .builtin .append, args := #[s, x], argTypes := #[t, u] }) (v y : Value) (hs : a.eval s = v) (hx : a.eval x = y) (v' : Value) (w' : World)
    (hr : (Builtin.append_ #[t, u] o.type #[v, y]).run P w = .ok v' w') (h : wpList P ops Q rest (a.put o.dst v') w') : wpList P ops Q (o :: rest) a w := by
  refine wpList_plain hgd fun K hK => ?_
  unfold Oper.wp
  simp [execOp, ho, resolve, invoke, builtin, hs, hx, hr, Result.andThen]
  exact hK _ _ h
theorem owns_form {w : World} {base : Nat} {e : TypeId} {size : Nat} {v : Value} {n : Nat} {xs : List Value} (h : w.ownsRow base e size v n xs) : ∃ A c, v = .slice A n c := by
  rcases h.2 with ⟨rfl, rfl⟩ | ⟨g, cap, cur, rfl, _⟩
  · exact ⟨none, 0, rfl⟩
  · exact ⟨_, _, rfl⟩

/-- append onto a row of the call's own: it grows in place, or lies in a new block. -/
theorem append_own {w : World} {v : Value} {n : Nat} {xs : List Value} (hown : w.ownsRow 0 5 1 v n xs) {A : Option Addr} {l : List Nat} {c : Nat} (hb : Bytes w A l) (hA : A = none → c = 0) (hm : n + l.length ≤ 140737488355328) (ty : TypeId) :
    ∃ v' w', (Builtin.append_ #[25, 25] ty #[v, .slice A l.length c]).run Try.prog w = .ok v' w' ∧ w'.ownsRow 0 5 1 v' (n + l.length) (xs ++ vals l) ∧ w.grownBy w' v.ownBlock ∧
      (∀ k, v'.ownBlock = some k → v.ownBlock = some k ∨ w.heap.size ≤ k) := by
  obtain ⟨i, hi, hz0, hz1, hz2⟩ := info5p
  cases A with
  | none =>
    have hl : l = [] := by
      cases l with
      | nil => rfl
      | cons c l => obtain ⟨b, off, hA, _⟩ := hb.2.2 (by simp); simp at hA
    subst hl
    rw [hA rfl]
    exact ⟨v, w, run_append_owned_none w 0 25 ty 5 i 1 Try.underlying25 hi v n xs hown, by simpa [vals] using hown, ⟨rfl, rfl, rfl, Nat.le_refl _, fun _ _ _ => rfl⟩, fun k hk => .inl hk⟩
  | some ad =>
    have hml : n + l.length ≤ maxLen := by unfold maxLen; omega
    obtain ⟨v', w', hr, ho, hg, _⟩ := run_append_own (P := Try.prog) w 0 25 ty 5 i (.int .u8 0) 1 1 Try.underlying25 hi hz0 hz1 hz2 rfl (by omega) v n xs hown ad l.length c (vals l) (by rw [vals_length]; omega) (news_of hb) (vals_one l) hml (by omega) (Nat.zero_le _)
    refine ⟨v', w', hr, ho, hg, fun k hk => ?_⟩
    rcases hown.2 with ⟨rfl, rfl⟩ | ⟨g, cap, cur, rfl, _, hgg, hnc, hcm, hcs, htake⟩
    · obtain ⟨v2, w2, hr2, ho2, _, _⟩ := run_append_own (P := Try.prog) w w.heap.size 25 ty 5 i (.int .u8 0) 1 1 Try.underlying25 hi hz0 hz1 hz2 rfl (by omega) (.slice none 0 0) 0 xs ⟨hown.1, .inl ⟨rfl, rfl⟩⟩ ad l.length c (vals l) (by rw [vals_length]; omega) (news_of hb) (vals_one l) hml (by omega) (Nat.le_refl _)
      rw [hr] at hr2
      injection hr2 with e1 e2
      subst e1 e2
      exact .inr (ho2.lt k hk).1
    · by_cases hroom : n + l.length ≤ cap
      · have hr2 := run_append_room (P := Try.prog) w 25 ty 5 i Try.underlying25 hi g n cap cur hgg ad l.length c (vals l) (by rw [vals_length, hz1]; omega) (news_of hb) (vals_one l) hroom (by rw [vals_length, hz1, hcs]; omega)
        rw [hr] at hr2
        injection hr2 with e1 e2
        subst e1
        exact .inl (by simpa [Value.ownBlock] using hk)
      · have hr2 := run_append_grow (P := Try.prog) w 25 ty 5 i (.int .u8 0) Try.underlying25 hi hz0 ⟨g, 0, none⟩ n cap xs (by rw [hz1]; exact hown.1) (hown.cells (g := g) rfl) ad l.length c (vals l) (by rw [vals_length, hz1]; omega) (news_of hb) (by omega) (by omega) (by rw [hz2]; exact growslice_fits (by omega) (by omega))
        rw [hr] at hr2
        injection hr2 with e1 e2
        subst e1
        refine .inr ?_
        simp [Value.ownBlock] at hk
        omega

/-- A writer's hand in block g, its row (if it has one) in block r: what it has, or nothing, if it is spoilt. -/
def WS (w : World) (g r : Nat) : Option (List Nat) → Prop
  | none => Hand w g (.slice none 0 0) true ∧ r < w.heap.size
  | some L => r < w.heap.size ∧ ∃ v, Hand w g v false ∧ w.ownsRow 0 5 1 v L.length (vals L) ∧ (∀ c ∈ L, c < 256) ∧ ∀ k, v.ownBlock = some k → k = r ∧ k ≠ g
def WStep (w w' : World) (g r r' : Nat) : Prop := Only (fun k => k = g ∨ k = r) w w' ∧ (r' = r ∨ w.heap.size ≤ r')
theorem WStep.refl (w : World) (g r : Nat) : WStep w w g r r := ⟨Only.refl _ _, .inl rfl⟩
theorem WStep.trans {w w1 w2 : World} {g r r1 r2 : Nat} (h : WStep w w1 g r r1) (k : WStep w1 w2 g r1 r2) : WStep w w2 g r r2 := by
  refine ⟨h.1.trans k.1 (fun i hi hx => ?_), ?_⟩
  · rcases hx with rfl | rfl
    · exact .inl rfl
    · rcases h.2 with rfl | h2
      · exact .inr rfl
      · omega
  · have := h.1.size
    rcases k.2 with rfl | k2
    · exact h.2
    · exact .inr (by omega)
theorem WS.lt {w : World} {g r : Nat} {s : Option (List Nat)} (h : WS w g r s) : r < w.heap.size ∧ g < w.heap.size := by
  cases s with
  | none => exact ⟨h.2, h.1.lt⟩
  | some L => obtain ⟨h1, v, h2, _⟩ := h; exact ⟨h1, h2.lt⟩
theorem WS.only {S : Nat → Prop} {w w' : World} {g r : Nat} {s : Option (List Nat)} (h : WS w g r s) (ho : Only S w w') (hg : ¬ S g) (hr : ¬ S r) : WS w' g r s := by
  cases s with
  | none => exact ⟨h.1.only ho hg, Nat.lt_of_lt_of_le h.2 ho.size⟩
  | some L =>
    obtain ⟨h1, v, h2, h3, h4, h5⟩ := h
    refine ⟨Nat.lt_of_lt_of_le h1 ho.size, v, h2.only ho hg, ⟨h3.1, ?_⟩, h4, h5⟩
    rcases h3.2 with hn | ⟨k, cap, cur, hv, hb, hkk, rest⟩
    · exact .inl hn
    · refine .inr ⟨k, cap, cur, hv, hb, ?_, rest⟩
      have hk := (h5 k (by rw [hv]; rfl)).1
      subst hk
      rw [ho.block k h1 hr]
      exact hkk
theorem WS.below {w w' : World} {g r : Nat} {s : Option (List Nat)} (h : WS w g r s) (hb : Below w.heap.size w w') : WS w' g r s := h.only (S := fun _ => False) (Only.of_below hb) (fun h => h) (fun h => h)
theorem WStep.below {w w1 w2 : World} {g r r' : Nat} (hb : Below w.heap.size w w1) (h : WStep w1 w2 g r r') : WStep w w2 g r r' := by
  refine ⟨(Only.of_below hb).trans h.1 (fun i _ hx => hx), ?_⟩
  have := hb.size
  rcases h.2 with h2 | h2
  · exact .inl h2
  · exact .inr (by omega)
/-- What a call that writes leaves. -/
def WPost (w : World) (g r : Nat) (s : Option (List Nat)) (e : Ending) (w' : World) : Prop := e = .returned (.tuple #[]) ∧ ∃ r', WS w' g r' s ∧ WStep w w' g r r'

theorem put_ok (g r : Nat) (L l : List Nat) (A : Option Addr) (c : Nat) (w : World) (h : WS w g r (some L)) (hb : Bytes w A l) (hA : A = none → c = 0) (hm : L.length + l.length ≤ 140737488355328) :
    Calls Try.prog 32 #[.pointer (some ⟨g, 0, none⟩), .slice A l.length c] w (WPost w g r (some (L ++ l))) := by
  obtain ⟨hlt, v, hh, hown, hL, hrow⟩ := h
  obtain ⟨v', w1, hr, ho1, hg1, hk1⟩ := append_own hown hb hA hm 25
  have hne : v.ownBlock ≠ some g := fun e => (hrow g e).2 rfl
  have hh1 : Hand w1 g v false := hh.block (hg1.block g hh.lt (fun e => hne e.symm))
  have c0 := hh.cell0
  have c1 := hh.cell1
  have d0 := hh1.cell0
  have d1 := hh1.cell1
  have f0 := hh1.frozen 0
  have H : Hid (WPost w g r (some (L ++ l)) (.returned (.tuple #[])) (w1.setCell ⟨g, 0, none⟩ v')) := by
    have ho : Only (fun k => k = g ∨ k = r) w (w1.setCell ⟨g, 0, none⟩ v') :=
      ((Only.refl (fun k => k = g ∨ k = r) w).grown hg1 (fun k hk => .inr (.inr (hrow k hk).1))).setCell (p := ⟨g, 0, none⟩) (.inr (.inl rfl)) _
    have hsz := hg1.size
    have hold : ∀ k, v'.ownBlock = some k → k ≠ g := by
      intro k hk e
      subst e
      rcases hk1 k hk with h | h
      · exact hne h
      · have := hh.lt
        omega
    have hrow' : ∀ r', (∀ k, v'.ownBlock = some k → k = r') → (w1.setCell ⟨g, 0, none⟩ v').ownsRow 0 5 1 v' (L ++ l).length (vals (L ++ l)) := by
      intro r' _
      rw [List.length_append, vals_append]
      refine ⟨ho1.1, ?_⟩
      rcases ho1.2 with hn | ⟨k, cap, cur, hv, hb, hkk, rest⟩
      · exact .inl hn
      · refine .inr ⟨k, cap, cur, hv, hb, ?_, rest⟩
        rw [Below.heap_setCell _ _ _ _ (hold k (by rw [hv]; rfl))]
        exact hkk
    have hall : ∀ c ∈ L ++ l, c < 256 := fun c hc => (List.mem_append.mp hc).elim (hL c) (hb.1 c)
    cases hv : v'.ownBlock with
    | none =>
      exact ⟨rfl, r, ⟨Nat.lt_of_lt_of_le hlt ho.size, v', hh1.set0 _, hrow' r (fun k hk => by rw [hv] at hk; cases hk), hall, fun k hk => by rw [hv] at hk; cases hk⟩, ho, .inl rfl⟩
    | some q =>
      have hq : q < w1.heap.size := by
        exact (ho1.lt q hv).2
      refine ⟨rfl, q, ⟨by simpa [World.setCell] using hq, v', hh1.set0 _, hrow' q (fun k hk => by rw [hv] at hk; injection hk with hk; exact hk.symm), hall, fun k hk => ⟨by rw [hv] at hk; injection hk with hk; exact hk.symm, hold k hk⟩⟩, ho, ?_⟩
      rcases hk1 q hv with h | h
      · exact .inl (hrow q h).1
      · exact .inr h
  obtain ⟨A1, c1', hv⟩ := owns_form hown
  obtain ⟨A2, c2', hv'⟩ := owns_form ho1
  clear hlt hh hown hL hrow ho1 hg1 hk1 hne hh1 hb hm
  subst hv hv'
  have HR := Lib.hid hr
  clear hr
  go_enter Try.func32, Try.ntmps32
  go_wp2_with (at_builtin; refine wpList_append_run rfl _ _ 25 25 rfl _ _ rfl rfl _ w1 HR.out ?_)
  go_end0
  exact H.out
theorem put_spoilt (g r : Nat) (v : Value) (w : World) (h : WS w g r none) :
    Calls Try.prog 32 #[.pointer (some ⟨g, 0, none⟩), v] w (WPost w g r none) := by
  have c1 := h.1.cell1
  have H := Lib.hid h
  clear h
  go_enter Try.func32, Try.ntmps32
  go_wp2
  go_end0
  exact ⟨rfl, r, H.out, WStep.refl _ _ _⟩
/-- How much a writer has. -/
def room (s : Option (List Nat)) : Nat := match s with | none => 0 | some L => L.length
theorem put_any (g r : Nat) (s : Option (List Nat)) (l : List Nat) (A : Option Addr) (c : Nat) (w : World) (h : WS w g r s) (hb : Bytes w A l) (hA : A = none → c = 0) (hm : room s + l.length ≤ 140737488355328) :
    Calls Try.prog 32 #[.pointer (some ⟨g, 0, none⟩), .slice A l.length c] w (WPost w g r (Pk.wput s l)) := by
  cases s with
  | none => exact put_spoilt g r _ w h
  | some L => exact put_ok g r L l A c w h hb hA hm
end Go.Proofs.Ythcmijppemochaa
