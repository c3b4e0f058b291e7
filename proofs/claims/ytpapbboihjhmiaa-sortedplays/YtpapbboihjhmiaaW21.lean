/-
  Words for memory: a slice that reads as pairs; the document's map, which lies in memory as such a slice of the call's own. The contract of the document's Place. Its conditions: the map lies in memory.
-/
import Derived.Test.YtpapbboihjhmiaaW13
import Derived.Test.YtpapbboihjhmiaaW16
import Derived.Test.YtpapbboihjhmiaaPlace
import Derived.Laws.AppendOwn
import Derived.Laws.AppendOwnNone
import Derived.Laws.OwnMore
namespace Go.Proofs.Ytpapbboihjhmiaa
open Go.RowKit

theorem addr_add (b off i : Nat) : (⟨b, off, none⟩ : Addr).add i = ⟨b, off + i, none⟩ := by unfold Addr.add; split <;> simp_all

/-- A slice (its address A) that reads as the pairs l. -/
def Prs (w : World) (A : Option Addr) (l : List KV) : Prop :=
  l.length ≤ maxLen ∧ (0 < l.length → ∃ b off, A = some ⟨b, off, none⟩ ∧ b < w.heap.size ∧ ∀ (k : Nat) (p : KV), l[k]? = some p → w.cell? ⟨b, off + k * 2, none⟩ = some (.string p.1) ∧ w.cell? ⟨b, off + k * 2 + 1, none⟩ = some (.int .i64 p.2))
theorem Prs.below {w w' : World} {A : Option Addr} {l : List KV} {B : Nat} (h : Prs w A l) (hB : w.heap.size ≤ B) (hb : Below B w w') : Prs w' A l := by
  obtain ⟨h1, h3⟩ := h
  refine ⟨h1, fun hl => ?_⟩
  obtain ⟨b, off, hA, hlt, hc⟩ := h3 hl
  exact ⟨b, off, hA, Nat.lt_of_lt_of_le hlt hb.size, fun k s hk => by rw [hb.cell (p := ⟨b, _, none⟩) (Nat.lt_of_lt_of_le hlt hB), hb.cell (p := ⟨b, _, none⟩) (Nat.lt_of_lt_of_le hlt hB)]; exact hc k s hk⟩
theorem Prs.at_ {w : World} {A : Option Addr} {l : List KV} (h : Prs w A l) {k : Nat} (hk : k < l.length) : ∃ b off, A = some ⟨b, off, none⟩ ∧ b < w.heap.size ∧ w.cell? ⟨b, off + k * 2, none⟩ = some (.string l[k].1) ∧ w.cell? ⟨b, off + k * 2 + 1, none⟩ = some (.int .i64 l[k].2) := by
  obtain ⟨b, off, hA, hlt, hc⟩ := h.2 (by omega)
  exact ⟨b, off, hA, hlt, hc k _ (List.getElem?_eq_getElem hk)⟩
theorem Prs.take {w : World} {A : Option Addr} {l : List KV} (h : Prs w A l) (n : Nat) : Prs w A (l.take n) := by
  obtain ⟨h1, h3⟩ := h
  refine ⟨by rw [List.length_take]; omega, fun hl => ?_⟩
  rw [List.length_take] at hl
  obtain ⟨b, off, hA, hlt, hc⟩ := h3 (by omega)
  refine ⟨b, off, hA, hlt, fun k s hk => ?_⟩
  rw [List.getElem?_take] at hk
  split at hk
  · exact hc k s hk
  · cases hk
theorem Prs.drop {w : World} {b off : Nat} {l : List KV} (h : Prs w (some ⟨b, off, none⟩) l) (n : Nat) : Prs w (some ⟨b, off + n * 2, none⟩) (l.drop n) := by
  obtain ⟨h1, h3⟩ := h
  refine ⟨by rw [List.length_drop]; omega, fun hl => ?_⟩
  rw [List.length_drop] at hl
  obtain ⟨b', off', hA, hlt, hc⟩ := h3 (by omega)
  injection hA with hA
  injection hA with e1 e2 _
  subst e1 e2
  refine ⟨b, _, rfl, hlt, fun k s hk => ?_⟩
  rw [List.getElem?_drop] at hk
  have := hc (n + k) s hk
  rw [show off + (n + k) * 2 = off + n * 2 + k * 2 by omega] at this
  exact this
theorem pairVals_at (l : List KV) (k : Nat) (p : KV) (h : l[k]? = some p) : (pairVals l)[k * 2]? = some (.string p.1) ∧ (pairVals l)[k * 2 + 1]? = some (.int .i64 p.2) := by
  induction l generalizing k with
  | nil => simp at h
  | cons y l ih =>
    cases k with
    | zero =>
      simp at h
      subst h
      exact ⟨rfl, rfl⟩
    | succ k =>
      have := ih k (by simpa using h)
      rw [show (k + 1) * 2 = k * 2 + 1 + 1 by omega]
      simpa [pairVals] using this
theorem pairVals_one (l : List KV) : ∀ u ∈ pairVals l, u.oneCell' = true := by
  induction l with
  | nil => intro u hu; cases hu
  | cons p l ih =>
    intro u hu
    simp only [pairVals, List.mem_cons] at hu
    rcases hu with rfl | rfl | hu
    · rfl
    · rfl
    · exact ih u hu
theorem pairVals_news {w : World} {ad : Addr} {l : List KV} (h : Prs w (some ad) l) : ∀ (j : Nat) (u : Value), (pairVals l)[j]? = some u → w.cell? (ad.add j) = some u := by
  intro j u hj
  have hlen : j < l.length * 2 := by rw [← pairVals_length l]; exact (List.getElem?_eq_some_iff.mp hj).1
  obtain ⟨b, off, hA, _, hc⟩ := h.2 (by omega)
  injection hA with hA
  subst hA
  have hk : j / 2 < l.length := by omega
  obtain ⟨e1, e2⟩ := hc (j / 2) _ (List.getElem?_eq_getElem hk)
  obtain ⟨v1, v2⟩ := pairVals_at l (j / 2) _ (List.getElem?_eq_getElem hk)
  rw [addr_add]
  rcases (show j % 2 = 0 ∨ j % 2 = 1 by omega) with hm | hm
  · rw [show j / 2 * 2 = j by omega] at v1 e1
    rw [hj] at v1
    rw [v1, ← e1]
  · rw [show j / 2 * 2 + 1 = j by omega] at v2
    rw [show off + j / 2 * 2 + 1 = off + j by omega] at e2
    rw [hj] at v2
    rw [v2, ← e2]
theorem pairVals_set (l : List KV) (k : Nat) (p : KV) (v : Int) (h : l[k]? = some p) : (pairVals l).set (k * 2 + 1) (.int .i64 v) = pairVals (l.set k (p.1, v)) := by
  induction l generalizing k with
  | nil => simp at h
  | cons y l ih =>
    cases k with
    | zero =>
      simp at h
      subst h
      rfl
    | succ k =>
      rw [show (k + 1) * 2 + 1 = (k * 2 + 1) + 1 + 1 by omega]
      simp only [pairVals, List.set_cons_succ]
      rw [ih k (by simpa using h)]
theorem info39p : ∃ i, Try.prog.info? 39 = some i ∧ i.zero = some (.agg #[.string ⟨#[]⟩, .int .i64 0]) ∧ i.size = 2 ∧ i.bytes = 24 := info_parts info39
theorem owns_prs {w : World} {l : List KV} {v : Value} {base : Nat} (h : w.ownsRow base 39 2 v l.length (pairVals l)) (hm : l.length ≤ maxLen) : ∃ A c, v = .slice A l.length c ∧ Prs w A l ∧ (A = none → c = 0) ∧ (∀ ad, A = some ad → ∃ g, ad = ⟨g, 0, none⟩ ∧ base ≤ g) ∧ l.length ≤ c ∧ c ≤ maxLen := by
  rcases h.2 with ⟨hv, hz⟩ | ⟨g, cap, cur, hv, hg, hb, h5, h6, _⟩
  · refine ⟨none, 0, by rw [hz]; exact hv, ⟨hm, fun h => by omega⟩, fun _ => rfl, (by intro ad h; cases h), by omega, Nat.zero_le _⟩
  · refine ⟨_, _, hv, ⟨hm, fun _ => ⟨g, 0, rfl, (Array.getElem?_eq_some_iff.mp hb).1, fun k x hk => ?_⟩⟩, (by intro h; cases h), (by intro ad h; injection h with h; exact ⟨g, h.symm, hg⟩), h5, h6⟩
    have hcs := h.cells (g := g) (by rw [hv]; rfl)
    obtain ⟨v1, v2⟩ := pairVals_at l k x hk
    have g0 := hcs _ _ v1
    have g1 := hcs _ _ v2
    rw [addr_add] at g0 g1
    rw [← Nat.add_assoc] at g1
    exact ⟨g0, g1⟩
/-- append of pairs onto a row of the call's own. -/
theorem append_prs {w : World} {base : Nat} {v : Value} {n : Nat} {xs : List Value} (hown : w.ownsRow base 39 2 v n xs) (hbase : base ≤ w.heap.size) {A : Option Addr} {l : List KV} {m c : Nat} (h : Prs w A l) (hml : l.length = m) (hA : A = none → c = 0) (hm : n + m ≤ 1000000) (ty : TypeId) :
    ∃ v' w', (Builtin.append_ #[27, 27] ty #[v, .slice A m c]).run Try.prog w = .ok v' w' ∧ w'.ownsRow base 39 2 v' (n + m) (xs ++ pairVals l) ∧ w.grownBy w' v.ownBlock := by
  obtain ⟨i, hi, hz0, hz1, hz2⟩ := info39p
  subst hml
  cases A with
  | none =>
    have hl : l = [] := by
      cases l with
      | nil => rfl
      | cons c l => obtain ⟨b, off, hA, _⟩ := h.2 (by simp); simp at hA
    subst hl
    rw [hA rfl]
    exact ⟨v, w, run_append_owned_none w base 27 ty 39 i 2 Try.underlying27 hi v n xs hown, by simpa [pairVals] using hown, ⟨rfl, rfl, rfl, Nat.le_refl _, fun _ _ _ => rfl⟩⟩
  | some ad =>
    have hml : n + l.length ≤ maxLen := by unfold maxLen; omega
    obtain ⟨v', w', hr, ho, hg, _⟩ := run_append_own (P := Try.prog) w base 27 ty 39 i _ 2 24 Try.underlying27 hi hz0 hz1 hz2 rfl (by omega) v n xs hown ad l.length c (pairVals l) (pairVals_length l) (pairVals_news h) (pairVals_one l) hml (by omega) hbase
    exact ⟨v', w', hr, ho, hg⟩
/-- append by the equation of its run. -/
theorem wpList_append_run {P : Program} {w : World} {ops : Array Oper} {rest : List Oper} {o : Oper} {a : Act} {Q : Exit → Act → World → Prop} (hgd : o.guard = none) (s x : Operand) (t u : TypeId)
    (ho : o.op = .call { callee := .builtin .append, args := #[s, x], argTypes := #[t, u] }) (v y : Value) (hs : a.eval s = v) (hx : a.eval x = y) (v' : Value) (w' : World)
    (hr : (Builtin.append_ #[t, u] o.type #[v, y]).run P w = .ok v' w') (h : wpList P ops Q rest (a.put o.dst v') w') : wpList P ops Q (o :: rest) a w := by
  refine wpList_plain hgd fun K hK => ?_
  unfold Oper.wp
  simp [execOp, ho, resolve, invoke, builtin, hs, hx, hr, Result.andThen]
  exact hK _ _ h

/-! ### The document's map -/
/-- Its own block. -/
def RefBox (w : World) (h : Nat) (v : Value) : Prop := w.heap[h]? = some (.cells #[v] 29 (0, 0))
theorem RefBox.c0 {w : World} {h : Nat} {v : Value} (hb : RefBox w h v) : w.cell? ⟨h, 0, none⟩ = some v := by simp [World.cell?, show w.heap[h]? = _ from hb]
theorem RefBox.frozen {w : World} {h : Nat} {v : Value} (hb : RefBox w h v) : w.frozen? ⟨h, 0, none⟩ = false := by simp [World.frozen?, show w.heap[h]? = _ from hb]
theorem RefBox.lt {w : World} {h : Nat} {v : Value} (hb : RefBox w h v) : h < w.heap.size := (Array.getElem?_eq_some_iff.mp hb).1
theorem RefBox.set {w : World} {h : Nat} {v : Value} (hb : RefBox w h v) (u : Value) : RefBox (w.setCell ⟨h, 0, none⟩ u) h u := by
  unfold RefBox at hb ⊢
  simp [World.setCell, Array.getElem?_modify, hb]
/-- The document's map lies in block h and holds the pairs L. -/
def RefAt (w : World) (base h : Nat) (L : List KV) : Prop := base ≤ h ∧ Rises L ∧ L.length ≤ 100000 ∧ ∃ v, RefBox w h v ∧ w.ownsRow base 39 2 v L.length (pairVals L)
theorem RefAt.keep {w w' : World} {base h : Nat} {L : List KV} (hr : RefAt w base h L) (h1 : Keep 29 w w') (h2 : Keep 39 w w') : RefAt w' base h L := by
  obtain ⟨a, b, c, v, d, e1, e⟩ := hr
  refine ⟨a, b, c, v, (h1 _ _ d).trans d, e1, ?_⟩
  rcases e with e | ⟨g, cap, cur, hv, hb, hg, rest⟩
  · exact .inl e
  · exact .inr ⟨g, cap, cur, hv, hb, (h2 g _ hg).trans hg, rest⟩
theorem RefAt.below {w w' : World} {base h : Nat} {L : List KV} (hr : RefAt w base h L) (hb : Below w.heap.size w w') : RefAt w' base h L := hr.keep (Keep.below hb) (Keep.below hb)
theorem RefAt.parts {w : World} {base h : Nat} {L : List KV} (hr : RefAt w base h L) : ∃ A c, RefBox w h (.slice A L.length c) ∧ Prs w A L ∧ (A = none → c = 0) ∧ w.ownsRow base 39 2 (.slice A L.length c) L.length (pairVals L) ∧ (∀ ad, A = some ad → ∃ g, ad = ⟨g, 0, none⟩ ∧ base ≤ g) ∧ L.length ≤ c ∧ c ≤ maxLen := by
  obtain ⟨a, b, c, v, d, e⟩ := hr
  obtain ⟨A, c', rfl, h1, h2, h3, h4, h5⟩ := owns_prs e (by unfold maxLen; omega)
  exact ⟨A, c', d, h1, h2, e, h3, h4, h5⟩

/-! ### Place -/
def PlaceRel (L : List KV) (k : ByteArray) (w : World) (s5 : Value) (wr : World) : Prop := ∃ j : Nat, j ≤ place L k ∧ s5 = .int .i64 (j : Int) ∧ w = wr
set_option maxHeartbeats 1000000 in
theorem place_any (base h : Nat) (L : List KV) (k : ByteArray) (w : World) (hr : RefAt w base h L) :
    Calls Try.prog 30 #[.pointer (some ⟨h, 0, none⟩), .string k] w fun e w' => e = .returned (.int .i64 (place L k : Int)) ∧ w = w' := by
  obtain ⟨A, c, hbox, hp, x1, x2, x3, x4, x5⟩ := hr.parts
  clear x1 x2 x3 x4 x5
  have hlen : L.length ≤ 100000 := hr.2.2.1
  have c0 := hbox.c0
  have H := Lib.hid hp
  have HP := Lib.hid (place_le L k)
  have HL := Lib.hid (place_less L k)
  have HN := Lib.hid (place_not L k)
  obtain ⟨n, hn⟩ : ∃ n, L.length = n := ⟨_, rfl⟩
  rw [hn] at c0
  have HE := Lib.hid hn
  rw [hn] at hlen
  clear hbox hp hr hn
  go_enter Try.func30, Try.ntmps30
  go_wp2
  go_loopw [5] (PlaceRel L k w) (fun i _ => n + 1 - (intOf i).toNat)
  case atStart => exact ⟨0, Nat.zero_le _, rfl, rfl⟩
  case round =>
    obtain ⟨j, hj, rfl, rfl⟩ := hrel
    have HJ := Lib.hid hj
    have hjn : j ≤ n := by have := HP.out; have := HE.out; omega
    clear hj
    by_cases hlt : j < n
    · have hjl : j < L.length := by have := HE.out; omega
      obtain ⟨b, off, rfl, hb, d0, d1⟩ := H.out.at_ hjl
      have hlti : (j : Int) < (n : Int) := by omega
      by_cases hpl : j < place L k
      · have hless : Op.bytesLess L[j].1.toList k.toList = true := HL.out j L[j] hpl (List.getElem?_eq_getElem hjl)
        generalize L[j] = x at d0 d1 hless
        have HPL := Lib.hid hpl
        clear hjl hpl
        go_wp2
        go_roundw
        case rel => exact ⟨j + 1, HPL.out, by go_num, rfl⟩
        case measure => simp [intOf]; omega
      · have hje : j = place L k := by have := HJ.out; omega
        have hless : Op.bytesLess L[j].1.toList k.toList = false := HN.out L[j] (by rw [← hje]; exact List.getElem?_eq_getElem hjl)
        generalize L[j] = x at d0 d1 hless
        have HJE := Lib.hid hje
        clear hjl hpl hje
        go_wp2
        go_ret
        exact ⟨ret_int (by rw [HJE.out]), rfl⟩
    · have hje : j = place L k := by have := HJ.out; have := HP.out; have := HE.out; omega
      have HJE := Lib.hid hje
      have hlti : ¬ (j : Int) < (n : Int) := by omega
      clear hje
      go_wp2
      go_ret
      exact ⟨ret_int (by rw [HJE.out]), rfl⟩
end Go.Proofs.Ytpapbboihjhmiaa
