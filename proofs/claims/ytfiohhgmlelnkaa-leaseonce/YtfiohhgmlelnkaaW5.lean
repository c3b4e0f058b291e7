/-
  The contract of Tick: on whatever order the map is ranged over. Its conditions: the table lies in memory.
-/
import Derived.Test.YtfiohhgmlelnkaaW4
namespace Go.Proofs.Ytfiohhgmlelnkaa
open Go.RowKit Go.Maps Go.ChangeMaps

theorem keyOf9_inv {key : Value} {kl : Lit} (h : keyOf Try.prog 9 key = some kl) : ∃ s : ByteArray, key = .string s := by
  have hk := Try.underlying9
  cases key <;> simp [keyOf, hk, mapKey] at h
  exact ⟨_, rfl⟩
theorem keyOf9_lit {s : ByteArray} {kl : Lit} (h : keyOf Try.prog 9 (.string s) = some kl) : kl = kLit s ∧ s.size ≤ maxLen := by
  have hk := Try.underlying9
  simp [keyOf, hk, mapKey] at h
  exact ⟨h.2.symm, h.1⟩
theorem ptrE_form (v : Value) (y : DataW Unit × List MemPlace) (h : ptrE v = some y) : ∃ c, v = .pointer c := by
  obtain ⟨d, ps⟩ := y
  rcases ptrE_inv h with ⟨rfl, _⟩ | ⟨b, rfl, _⟩
  · exact ⟨_, rfl⟩
  · exact ⟨_, rfl⟩
/-- An entry that came is a lease of the map. -/
theorem entry_of {D : DataW Unit} {N : List Nd} {k : ByteArray} {c : Option Addr} {y : DataW Unit × List MemPlace} (hr : Reads D N) (hv : ptrE (.pointer c) = some y) (hat : ∀ zd, D.atKey (kLit k) zd = y.1) :
    ∃ x ∈ N, x.2.k = k ∧ c = some ⟨x.1, 0, none⟩ := by
  cases hf : N.find? fun x => decide (x.2.k = k) with
  | none =>
    have h1 := hat .nil
    have h2 := hat (.lit (.bool true))
    rw [hr.at_] at h1 h2
    simp only [look, hf] at h1 h2
    rw [← h1] at h2
    cases h2
  | some x =>
    obtain ⟨d, ps⟩ := y
    have h1 := hat .nil
    rw [hr.at_] at h1
    refine ⟨x, List.mem_of_find?_eq_some hf, by simpa using List.find?_some hf, ?_⟩
    have := find_ptr N k (v := .pointer c) (ps := ps) (by rw [hv]; simp only at h1; rw [h1])
    simp [ptrOf, hf] at this
    exact this
/-- What the map has while Tick is under way. -/
def cur (left : Lit → Bool) (N : List Nd) : List Nd := N.filter fun x => left (kLit x.2.k) || decide (x.2.n ≠ 1)
def strike (left : Lit → Bool) (kl : Lit) : Lit → Bool := fun z => left z && !z.sameKey kl
theorem same_lit (a b : ByteArray) : (kLit a).sameKey (kLit b) = decide (a = b) := by
  by_cases h : a = b
  · subst h
    rw [WideAt.sameKey_self (kLit_key _)]
    simp
  · rw [sameKey_ne (fun e => h (kLit_inj e))]
    simp [h]
theorem one_of_key {N : List Nd} (hn : (keys (N.map (·.2))).Nodup) {x y : Nd} (hx : x ∈ N) (hy : y ∈ N) (h : y.2.k = x.2.k) : y = x := by
  obtain ⟨A, C, rfl⟩ := List.append_of_mem hx
  have hn' : (keys (A.map (·.2)) ++ x.2.k :: keys (C.map (·.2))).Nodup := by simpa [keys] using hn
  obtain ⟨_, h2, h3⟩ := List.nodup_append.mp hn'
  have m : ∀ {M : List Nd}, y ∈ M → y.2.k ∈ keys (M.map (·.2)) := fun hm => List.mem_map.mpr ⟨y.2, List.mem_map_of_mem hm, rfl⟩
  rcases List.mem_append.mp hy with hy | hy
  · exact absurd h (h3 _ (m hy) _ (by simp))
  · rcases List.mem_cons.mp hy with rfl | hy
    · rfl
    · exact absurd (h ▸ m hy) (List.nodup_cons.mp h2).1
/-- A lease that has more than a tick stays. -/
theorem cur_stay {left : Lit → Bool} {N : List Nd} (hn : (keys (N.map (·.2))).Nodup) {x : Nd} (hx : x ∈ N) (h1 : x.2.n ≠ 1) : cur (strike left (kLit x.2.k)) N = cur left N := by
  unfold cur
  refine List.filter_congr fun y hy => ?_
  unfold strike
  rw [same_lit]
  by_cases e : y.2.k = x.2.k
  · have := one_of_key hn hx hy e
    subst this
    simp [h1]
  · simp [e]
/-- A lease that has one tick goes. -/
theorem cur_goes {left : Lit → Bool} {N : List Nd} (hn : (keys (N.map (·.2))).Nodup) {x : Nd} (hx : x ∈ N) (h1 : x.2.n = 1) : cur (strike left (kLit x.2.k)) N = ndrp (cur left N) x.2.k := by
  unfold cur ndrp
  rw [List.filter_filter]
  refine List.filter_congr fun y hy => ?_
  unfold strike
  rw [same_lit]
  by_cases e : y.2.k = x.2.k
  · have := one_of_key hn hx hy e
    subst this
    simp [h1]
  · simp [e]
theorem cur_sub (left : Lit → Bool) (N : List Nd) : (cur left N).Sublist N := List.filter_sublist
theorem cur_nodup {left : Lit → Bool} {N : List Nd} (hn : (keys (N.map (·.2))).Nodup) : (keys ((cur left N).map (·.2))).Nodup := (((cur_sub left N).map _).map _).nodup hn
/-- What Tick comes to. -/
def tickN (N : List Nd) : List Nd := (N.filter fun x => decide (x.2.n ≠ 1)).map fun x => (x.1, dec x.2)
theorem tickN_map (N : List Nd) : (tickN N).map (·.2) = tck (N.map (·.2)) := by
  unfold tickN tck
  rw [List.map_map, List.filter_map, List.map_map]
  rfl
theorem cur_end {left : Lit → Bool} (N : List Nd) (h : ∀ kl, left kl = false) : cur left N = N.filter fun x => decide (x.2.n ≠ 1) := by
  unfold cur
  refine List.filter_congr fun y _ => ?_
  simp [h]
theorem Reads.dec {D : DataW Unit} {M : List Nd} (h : Reads D M) : Reads D (M.map fun x => (x.1, dec x.2)) := by
  refine ⟨fun k z => ?_, by rw [h.sz]; simp⟩
  rw [h.at_]
  unfold look
  rw [List.find?_map]
  have e : ((fun x : Nd => decide (x.2.k = k)) ∘ fun x : Nd => ((x.1, Ytfiohhgmlelnkaa.dec x.2) : Nd)) = fun x : Nd => decide (x.2.k = k) := rfl
  rw [e]
  cases M.find? fun x => decide (x.2.k = k) <;> rfl

/-- Tick under way. -/
structure TkI (w wr : World) (base g B r : Nat) (N : List Nd) (limit ticks last : Int) (left : Lit → Bool) (n cnt : Nat) : Prop where
  rg : ∃ D, wr.ranges Try.prog 9 ptrE B r n D left cnt ∧ Reads D (cur left N)
  ls : ∀ x ∈ N, LsAt wr x.1 (if left (kLit x.2.k) then x.2 else dec x.2)
  box : Box wr g B limit ticks last
  fr : Fr [63, 1001] [B] base w wr
theorem iter_at {w : World} {b r n cnt : Nat} {D : DataW Unit} {left : Lit → Bool} (h : w.ranges Try.prog 9 ptrE b r n D left cnt) : ∃ o, w.heap[r]? = some o ∧ kd o = 1001 := by
  obtain ⟨es, clock, since, seen, c0, _, _, _, _, hr, _⟩ := h
  exact ⟨_, hr, rfl⟩
theorem map_at {w : World} {b r n cnt : Nat} {D : DataW Unit} {left : Lit → Bool} (h : w.ranges Try.prog 9 ptrE b r n D left cnt) : ∃ o, w.heap[b]? = some o ∧ kd o = 1000 := by
  obtain ⟨es, clock, since, seen, c0, hb, _⟩ := h
  exact ⟨_, hb, rfl⟩
theorem grown_set (w : World) (i o : Nat) (u : Value) : w.grownBy (w.setCell ⟨i, o, none⟩ u) (some i) :=
  ⟨rfl, rfl, rfl, by simp, fun k _ hk => Below.heap_setCell _ _ _ _ (fun e => hk (by rw [e]))⟩
/-- A block of another kind isn't the one that is written. -/
theorem kept_of {w w' : World} {i j : Nat} {o p : Obj} (hg : w.grownBy w' (some i)) (hi : w.heap[i]? = some o) (hj : w.heap[j]? = some p) (hk : kd p ≠ kd o) : w'.heap[j]? = some p := by
  rw [hg.block j (lt_of_heap hj) ?_]
  · exact hj
  · intro e
    cases e
    rw [hi] at hj
    cases hj
    exact hk rfl
/-- What a round of Tick does. -/
theorem tick_step {w wr w1 : World} {base g B r : Nat} {N : List Nd} {limit ticks last : Int} {left : Lit → Bool} {n cnt cnt1 : Nat} {D : DataW Unit} {k : ByteArray} {c : Option Addr} {kl : Lit} {y : DataW Unit × List MemPlace}
    (h : TkI w wr base g B r N limit ticks last left n cnt) (hrg : wr.ranges Try.prog 9 ptrE B r n D left cnt) (hrd : Reads D (cur left N)) (hn : (keys (N.map (·.2))).Nodup) (hnd : (N.map (·.1)).Nodup) (hF : ∀ x ∈ N, base ≤ x.1) (hB : base ≤ B) (hr : base ≤ r)
    (hkey : keyOf Try.prog 9 (.string k) = some kl) (hlk : left kl = true) (hv : ptrE (.pointer c) = some y) (hat : ∀ zd, D.atKey kl zd = y.1) (hrg1 : w1.ranges Try.prog 9 ptrE B r n D (fun z => left z && !z.sameKey kl) cnt1) (hg1 : wr.grownBy w1 (some r)) :
    ∃ x ∈ N, c = some ⟨x.1, 0, none⟩ ∧ w1.cell? ⟨x.1, 1, none⟩ = some (.int .i64 x.2.n) ∧ w1.frozen? ⟨x.1, 1, none⟩ = false ∧
      (w1.setCell ⟨x.1, 1, none⟩ (.int .i64 (x.2.n - 1))).cell? ⟨x.1, 1, none⟩ = some (.int .i64 (x.2.n - 1)) ∧ (w1.setCell ⟨x.1, 1, none⟩ (.int .i64 (x.2.n - 1))).cell? ⟨g, 2, none⟩ = some (.map (some B)) ∧
      (x.2.n ≠ 1 → TkI w (w1.setCell ⟨x.1, 1, none⟩ (.int .i64 (x.2.n - 1))) base g B r N limit ticks last (strike left kl) n cnt1) ∧
      (x.2.n = 1 → ∃ w3 cnt3, (Builtin.delete_ #[51, 9] 0 #[.map (some B), .string k]).run Try.prog (w1.setCell ⟨x.1, 1, none⟩ (.int .i64 (x.2.n - 1))) = .ok (.tuple #[]) w3 ∧ cnt3 ≤ cnt1 ∧ TkI w w3 base g B r N limit ticks last (strike left kl) n cnt3) := by
  obtain ⟨rfl, hks⟩ := keyOf9_lit hkey
  obtain ⟨x, hx, rfl, rfl⟩ := entry_of hrd hv hat
  have hxN := (cur_sub left N).subset hx
  obtain ⟨oi, hoi, hki⟩ := iter_at hrg
  have f1 : Fr [63, 1001] [B] base w w1 := h.fr.grown hg1 hoi (.inl (by rw [hki]; simp)) hr
  have l1 : ∀ y ∈ N, LsAt w1 y.1 (if left (kLit y.2.k) then y.2 else dec y.2) := fun y hy => kept_of hg1 hoi (h.ls y hy) (by rw [hki]; simp [kd])
  have b1 : Box w1 g B limit ticks last := kept_of hg1 hoi h.box (by rw [hki]; simp [kd])
  have lx : LsAt w1 x.1 x.2 := by have := l1 x hxN; rwa [hlk] at this
  have hg2 := grown_set w1 x.1 1 (.int .i64 (x.2.n - 1))
  have lx2 := lx.set1
  have b2 : Box (w1.setCell ⟨x.1, 1, none⟩ (.int .i64 (x.2.n - 1))) g B limit ticks last := kept_of hg2 lx b1 (by simp [kd])
  have f2 : Fr [63, 1001] [B] base w (w1.setCell ⟨x.1, 1, none⟩ (.int .i64 (x.2.n - 1))) := f1.set lx (.inl (by simp [kd])) (hF x hxN) _
  obtain ⟨o1, ho1, hk1⟩ := iter_at hrg1
  obtain ⟨o2, ho2, hk2⟩ := map_at hrg1
  have hrx : some r ≠ some x.1 := by
    intro e
    cases e
    unfold LsAt at lx
    rw [ho1] at lx
    cases lx
    simp [kd] at hk1
  have hBx : some B ≠ some x.1 := by
    intro e
    cases e
    unfold LsAt at lx
    rw [ho2] at lx
    cases lx
    simp [kd] at hk2
  have rg2 := hrg1.kept hg2 hBx hrx
  have l2 : ∀ y ∈ N, LsAt (w1.setCell ⟨x.1, 1, none⟩ (.int .i64 (x.2.n - 1))) y.1 (if strike left (kLit x.2.k) (kLit y.2.k) then y.2 else dec y.2) := by
    intro y hy
    unfold strike
    rw [same_lit]
    by_cases e : y.2.k = x.2.k
    · have := one_of_key hn hxN hy e
      subst this
      simpa using lx2
    · have hne : y.1 ≠ x.1 := by
        intro e1
        apply e
        obtain ⟨A, C, rfl⟩ := List.append_of_mem hxN
        rw [List.map_append, List.map_cons] at hnd
        obtain ⟨_, h2, h3⟩ := List.nodup_append.mp hnd
        rcases List.mem_append.mp hy with hy | hy
        · exact absurd e1 (h3 _ (List.mem_map_of_mem hy) _ (by simp))
        · rcases List.mem_cons.mp hy with rfl | hy
          · rfl
          · exact absurd (e1 ▸ List.mem_map_of_mem hy) (List.nodup_cons.mp h2).1
      have := l1 y hy
      unfold LsAt at this ⊢
      rw [Below.heap_setCell _ _ _ _ hne]
      simpa [e] using this
  refine ⟨x, hxN, rfl, lx.c1, lx.frozen 1, lx2.c1, b2.c2, fun hne => ⟨⟨D, rg2, by rw [cur_stay hn hxN hne]; exact hrd⟩, l2, b2, f2⟩, fun h1 => ?_⟩
  obtain ⟨w3, cnt3, hrun, rg3, hle, ht⟩ := rg2.drop law9 Try.underlying51 hkey 0
  rw [Maps.strike_twice] at rg3
  have hg3 := ht.grown
  have ho2' := kept_of hg2 lx ho2 (by rw [hk2]; simp [kd])
  refine ⟨w3, cnt3, hrun, hle, ⟨⟨_, rg3, ?_⟩, fun y hy => kept_of hg3 ho2' (l2 y hy) (by rw [hk2]; simp [kd]), kept_of hg3 ho2' b2 (by rw [hk2]; simp [kd]), f2.grown hg3 ho2' (.inr (by simp)) hB⟩⟩
  have e := cur_goes (left := left) hn hxN h1
  have := hrd.del rg2.owns (cur_nodup hn) x.2.k
  rw [e]
  exact this
/-- What Tick comes to, in memory. -/
theorem TkI.end_ {w wr : World} {base g B r : Nat} {N : List Nd} {limit ticks last : Int} {left : Lit → Bool} {n cnt : Nat} (h : TkI w wr base g B r N limit ticks last left n cnt) (h0 : Core w base g B N limit ticks last) (hgd : Good (N.map (·.2)) limit ticks) (hl : ∀ kl, left kl = false) :
    TableAt wr base g B (tck (N.map (·.2))) limit ticks last ∧ Fr [63, 1001] [B] base w wr := by
  obtain ⟨D, hrg, hrd⟩ := h.rg
  rw [cur_end N hl] at hrd
  have hm : MapAt wr B (tickN N) := MapAt.of hrg.owns hrd.dec
  have mem : ∀ y ∈ tickN N, ∃ x ∈ N, y = (x.1, dec x.2) := fun y hy => by
    obtain ⟨x, hx, rfl⟩ := List.mem_map.mp hy
    exact ⟨x, (List.mem_filter.mp hx).1, rfl⟩
  refine ⟨⟨tickN N, ⟨h.box, fun y hy => ?_, fun y hy => ?_, ?_, hm, h0.bg, h0.bB, fun y hy => ?_⟩, tickN_map N, hgd.tck⟩, h.fr⟩
  · obtain ⟨x, hx, rfl⟩ := mem y hy
    have := h.ls x hx
    rwa [hl] at this
  · obtain ⟨x, hx, rfl⟩ := mem y hy
    exact h0.fr x hx
  · unfold tickN
    rw [List.map_map]
    exact (List.filter_sublist.map _).nodup h0.nd
  · obtain ⟨x, hx, rfl⟩ := mem y hy
    exact h0.ks x hx
theorem TkI.left_eq {w wr : World} {base g B r : Nat} {N : List Nd} {limit ticks last : Int} {left : Lit → Bool} {n cnt : Nat} (h : TkI w wr base g B r N limit ticks last left n cnt) : wr.rangeLeft B r = cnt := by
  obtain ⟨D, hrg, _⟩ := h.rg
  exact hrg.left_eq
theorem has_all {D : DataW Unit} {N : List Nd} (h : Reads D N) {x : Nd} (hx : x ∈ N) : Maps.has D (kLit x.2.k) = true := by
  rw [look_has h]
  cases hf : N.find? fun y => decide (y.2.k = x.2.k) with
  | none => exact absurd (List.find?_eq_none.mp hf x hx) (by simp)
  | some y => rfl
theorem TkI.start {w w0 : World} {base g B : Nat} {N : List Nd} {limit ticks last : Int} {n : Nat} {D : DataW Unit} (hc : Core w base g B N limit ticks last) (hr : Reads D N) (hrg : w0.ranges Try.prog 9 ptrE B w.heap.size n D (Maps.has D) (Maps.size D)) (hg : w.grownBy w0 none) (hbs : base ≤ w.heap.size) :
    TkI w w0 base g B w.heap.size N limit ticks last (Maps.has D) n (Maps.size D) := by
  have hb : Below w.heap.size w w0 := ⟨hg.os, hg.tape, hg.output, hg.size, fun k hk => hg.block k hk (by simp)⟩
  have e : cur (Maps.has D) N = N := by
    unfold cur
    rw [List.filter_eq_self]
    intro x hx
    rw [has_all hr hx]
    rfl
  refine ⟨⟨D, hrg, by rw [e]; exact hr⟩, fun x hx => ?_, (hb.block g hc.box.lt).trans hc.box, Fr.of_below hb hbs⟩
  rw [has_all hr hx, if_pos rfl]
  exact (hb.block x.1 (hc.ls x hx).lt).trans (hc.ls x hx)
set_option maxHeartbeats 4000000 in
theorem tick_any (base g B : Nat) (L : List Ls) (limit ticks last : Int) (w : World) (h : TableAt w base g B L limit ticks last) (hbs : base ≤ w.heap.size) :
    Calls Try.prog 17 #[.pointer (some ⟨g, 0, none⟩)] w fun r w' => r = .returned (.tuple #[]) ∧ TableAt w' base g B (tck L) limit ticks last ∧ Fr [63, 1001] [B] base w w' := by
  obtain ⟨N, hc, rfl, hgd⟩ := h
  have c2 := hc.box.c2
  obtain ⟨D, hown, hrd⟩ := hc.mp
  obtain ⟨n, hn⟩ : ∃ n, n = N.length := ⟨_, rfl⟩
  rw [← hn] at hown
  have HC := Lib.hid hc
  have HG := Lib.hid hgd
  have HR := Lib.hid hrd
  have HS := Lib.hid hbs
  clear hc hgd hrd hn hbs
  go_enter Try.func17, Try.ntmps17
  go_wp2_with (first
    | (at_range; refine wpList_range_own _ rfl _ 51 rfl 9 59 law9 Try.underlying51 ptrE B n D rfl hown ?_; intro w0 hrg0 hg0 hs0)
    | go_in)
  go_frame
  go_loopw [2, 3] (fun _ _ wr => ∃ left cnt, TkI w wr base g B w.heap.size N limit ticks last left n cnt) (fun _ _ wr => wr.rangeLeft B w.heap.size)
  case atStart =>
    exact ⟨_, _, TkI.start HC.out HR.out hrg0 hg0 HS.out⟩
  case round =>
    obtain ⟨left, cnt, hi⟩ := hrel
    obtain ⟨D', hrg, hrd⟩ := hi.rg
    have HI := Lib.hid hi
    have HRD := Lib.hid hrd
    have HM := Lib.hid hi.left_eq
    have k2 := hi.box.c2
    clear hi hrd hrg0 hown c2 hg0 hs0
    go_wp2_with (first
      | (at_next; refine wpList_next_ranges _ rfl _ rfl 9 law9 ptrE Value.string Value.pointer (fun key kl hkey => keyOf9_inv hkey) ptrE_form B w.heap.size n D' left cnt rfl hrg ?_ ?_)
      | go_in)
    · intro hc0 hl0
      have HE := Lib.hid (HI.out.end_ HC.out HG.out hl0)
      clear hl0 hc0 hrg k2
      go_wp2
      go_end0
      exact ⟨rfl, HE.out.1, HE.out.2⟩
    · intro k c kl yd yp w1 cnt1 hkey hlk hv hat hrg1 hlt hg1 hs1 hen
      obtain ⟨x, hx, rfl, d1, f1, d2, d3, e1, e2⟩ := tick_step HI.out hrg HRD.out HG.out.nd HC.out.nd HC.out.fr HC.out.bB HS.out hkey hlk hv hat hrg1 hg1
      have hpos := HG.out.pos x.2 (List.mem_map_of_mem hx)
      have ht2 := HG.out.t2
      obtain ⟨b, l⟩ := x
      obtain ⟨lk, lt, ln⟩ := l
      simp only at d1 f1 d2 d3 e1 e2 hpos
      have hwr : IntKind.i64.wrap (ln - 1) = ln - 1 := IntWalk.i64_in _ (by omega)
      have hwr2 : wrap64 (ln - 1) = ln - 1 := by unfold wrap64; omega
      have HLT := Lib.hid hlt
      by_cases h1 : ln = 1
      · obtain ⟨w3, cnt3, hrun, hle, hT⟩ := e2 h1
        have HT := Lib.hid hT
        have HLE := Lib.hid hle
        subst h1
        clear e1 e2 hT hle hkey hlk hv hat hrg1 hg1 hs1 hx hrg hpos ht2 hlt
        simp only [Int.sub_self] at d2 d3 hrun hwr hwr2
        go_wp2
        go_roundw
        case rel => exact ⟨_, _, HT.out⟩
        case measure =>
          rw [HT.out.left_eq, HM.out]
          have := HLE.out
          have := HLT.out
          omega
      · have HT := Lib.hid (e1 h1)
        have h10 : ¬ ln - 1 = 0 := by omega
        clear e1 e2 hkey hlk hv hat hrg1 hg1 hs1 hx hrg hpos ht2 hlt
        go_wp2
        go_roundw
        case rel => exact ⟨_, _, HT.out⟩
        case measure =>
          rw [HT.out.left_eq, HM.out]
          have := HLT.out
          omega
theorem tick_nil (w : World) : Calls Try.prog 17 #[.pointer none] w fun x w' => x = .returned (.tuple #[]) ∧ w = w' := by
  go_enter Try.func17, Try.ntmps17
  go_wp2
  first | go_end0 | refine bodyPost_ret (results_none rfl _ _ _) rfl ?_
  exact ⟨rfl, rfl⟩
end Go.Proofs.Ytfiohhgmlelnkaa
