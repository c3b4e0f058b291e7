/-
  The contract of Pass, on whatever order the map is ranged over. Its conditions: the table lies in memory, and has no more tombstones than a bound.
-/
import Derived.Test.YtlleiehacmkedaaW2
namespace Go.Proofs.Ytlleiehacmkedaa
open Go.RowKit Go.Maps Go.ChangeMaps

theorem keyOf9_inv {key : Value} {kl : Lit} (h : keyOf Try.prog 9 key = some kl) : ∃ s : ByteArray, key = .string s := by
  have hk := Try.underlying9
  cases key <;> simp [keyOf, hk, mapKey] at h
  exact ⟨_, rfl⟩
theorem keyOf9_lit {s : ByteArray} {kl : Lit} (h : keyOf Try.prog 9 (.string s) = some kl) : kl = kLit s ∧ s.size ≤ maxLen := by
  have hk := Try.underlying9
  simp [keyOf, hk, mapKey] at h
  exact ⟨h.2.symm, h.1⟩
theorem iE_form (v : Value) (y : DataW Unit × List MemPlace) (h : iE v = some y) : ∃ c : Int, v = Value.int .i64 c := by
  obtain ⟨c, rfl, _⟩ := plainElem_int_inv Try.underlying3 h
  exact ⟨c, rfl⟩
theorem iE_lit {c : Int} {y : DataW Unit × List MemPlace} (h : iE (.int .i64 c) = some y) : y.1 = .lit (.int .i64 c) := by
  obtain ⟨c', e, rfl, _⟩ := plainElem_int_inv Try.underlying3 h
  cases e
  rfl
def strike (left : Lit → Bool) (kl : Lit) : Lit → Bool := fun z => left z && !z.sameKey kl
/-- What the map has while Pass is under way. -/
def cur (left : Lit → Bool) (n : Int) (L : List Tm) : List Tm := L.filter fun x => left (kLit x.k) || decide (n < x.n)
theorem cur_sub (left : Lit → Bool) (n : Int) (L : List Tm) : (cur left n L).Sublist L := List.filter_sublist
theorem cur_rises {left : Lit → Bool} {n : Int} {L : List Tm} (h : Rises L) : Rises (cur left n L) := h.filter _
theorem cur_stay {left : Lit → Bool} {n : Int} {L : List Tm} {x : Tm} (hr : Rises L) (hx : x ∈ L) (h : n < x.n) : cur (strike left (kLit x.k)) n L = cur left n L := by
  unfold cur
  refine List.filter_congr fun y hy => ?_
  unfold strike
  rw [same_lit]
  by_cases e : y.k = x.k
  · have := one_of_key hr hx hy e
    subst this
    simp [h]
  · simp [e]
theorem cur_goes {left : Lit → Bool} {n : Int} {L : List Tm} {x : Tm} (hr : Rises L) (hx : x ∈ L) (h : ¬ n < x.n) : cur (strike left (kLit x.k)) n L = drp (cur left n L) x.k := by
  unfold cur drp
  rw [List.filter_filter]
  refine List.filter_congr fun y hy => ?_
  unfold strike
  rw [same_lit]
  by_cases e : y.k = x.k
  · have := one_of_key hr hx hy e
    subst this
    simp [h]
  · simp [e]
theorem cur_end {left : Lit → Bool} (n : Int) (L : List Tm) (h : ∀ kl, left kl = false) : cur left n L = passL L n := by
  unfold cur passL
  refine List.filter_congr fun y _ => ?_
  simp [h]
/-- An entry that came is a tombstone of the map. -/
theorem entry_of {D : DataW Unit} {L : List Tm} {k : ByteArray} {c : Int} (hr : Reads D L) (hat : ∀ zd, D.atKey (kLit k) zd = .lit (.int .i64 c)) : (⟨k, c⟩ : Tm) ∈ L := by
  have h1 := hat .nil
  rw [hr.at_] at h1
  unfold look at h1
  cases hf : fnd L k with
  | none => rw [hf] at h1; cases h1
  | some x =>
    rw [hf] at h1
    simp only at h1
    injection h1 with h1
    injection h1 with _ h1
    obtain ⟨h2, h3⟩ := fnd_some hf
    have : x = ⟨k, c⟩ := Tm.ext' h3 h1
    rw [← this]
    exact h2
theorem iter_at {w : World} {b r n cnt : Nat} {D : DataW Unit} {left : Lit → Bool} (h : w.ranges Try.prog 9 iE b r n D left cnt) : ∃ o, w.heap[r]? = some o ∧ kd o = 1001 := by
  obtain ⟨es, clock, since, seen, c0, _, _, _, _, hr, _⟩ := h
  exact ⟨_, hr, rfl⟩
theorem map_at {w : World} {b r n cnt : Nat} {D : DataW Unit} {left : Lit → Bool} (h : w.ranges Try.prog 9 iE b r n D left cnt) : ∃ o, w.heap[b]? = some o ∧ kd o = 1000 := by
  obtain ⟨es, clock, since, seen, c0, hb, _⟩ := h
  exact ⟨_, hb, rfl⟩
theorem kept_of {w w' : World} {i j : Nat} {o p : Obj} (hg : w.grownBy w' (some i)) (hi : w.heap[i]? = some o) (hj : w.heap[j]? = some p) (hk : kd p ≠ kd o) : w'.heap[j]? = some p := by
  rw [hg.block j (lt_of_heap hj) ?_]
  · exact hj
  · intro e
    cases e
    rw [hi] at hj
    cases hj
    exact hk rfl
/-- Pass under way. -/
structure PasI (w wr : World) (base g B r : Nat) (L : List Tm) (floor limit n : Int) (left : Lit → Bool) (bnd cnt : Nat) : Prop where
  rg : ∃ D, wr.ranges Try.prog 9 iE B r bnd D left cnt ∧ Reads D (cur left n L)
  box : Box wr g B limit floor
  fr : Fr kT [] base w wr
section
variable {w wr w1 : World} {base g B r : Nat} {L : List Tm} {floor limit n : Int} {left : Lit → Bool} {bnd cnt cnt1 : Nat} {D : DataW Unit}
theorem PasI.left_eq (h : PasI w wr base g B r L floor limit n left bnd cnt) : wr.rangeLeft B r = cnt := by
  obtain ⟨D, hrg, _⟩ := h.rg
  exact hrg.left_eq
theorem has_all (h : Reads D L) {x : Tm} (hx : x ∈ L) : Maps.has D (kLit x.k) = true := by
  rw [h.has]
  exact has_iff.mpr (List.mem_map_of_mem hx)
theorem PasI.start {W w0 : World} (ht : TableAt W base g B L floor limit) (hf : Fr kT [] base w W) (hr : Reads D L) (hrg : w0.ranges Try.prog 9 iE B W.heap.size bnd D (Maps.has D) (Maps.size D)) (hg : W.grownBy w0 none) (hbs : base ≤ w.heap.size) (n : Int) :
    PasI w w0 base g B W.heap.size L floor limit n (Maps.has D) bnd (Maps.size D) := by
  have hb := Below.of_none hg
  have e : cur (Maps.has D) n L = L := by
    unfold cur
    rw [List.filter_eq_self]
    intro x hx
    rw [has_all hr hx]
    rfl
  exact ⟨⟨D, hrg, by rw [e]; exact hr⟩, ht.box.below hb, hf.trans (Fr.of_below hb (Nat.le_trans hbs hf.size))⟩
/-- A round. -/
theorem PasI.step {k : ByteArray} {c : Int} {kl : Lit} {y : DataW Unit × List MemPlace} (h : PasI w wr base g B r L floor limit n left bnd cnt) (hrd : Reads D (cur left n L)) (hrg : wr.ranges Try.prog 9 iE B r bnd D left cnt) (hr : w.heap.size ≤ r) (hbs : base ≤ w.heap.size) (hB : base ≤ B) (hrs : Rises L)
    (hkey : keyOf Try.prog 9 (.string k) = some kl) (hv : iE (.int .i64 c) = some y) (hat : ∀ zd, D.atKey kl zd = y.1) (hrg1 : w1.ranges Try.prog 9 iE B r bnd D (fun z => left z && !z.sameKey kl) cnt1) (hg1 : wr.grownBy w1 (some r)) :
    Box w1 g B limit floor ∧ (n < c → PasI w w1 base g B r L floor limit n (strike left kl) bnd cnt1) ∧
    (¬ n < c → ∃ w3 cnt3, (Builtin.delete_ #[46, 9] 0 #[.map (some B), .string k]).run Try.prog w1 = .ok (.tuple #[]) w3 ∧ cnt3 ≤ cnt1 ∧ PasI w w3 base g B r L floor limit n (strike left kl) bnd cnt3) := by
  obtain ⟨rfl, hk⟩ := keyOf9_lit hkey
  rw [iE_lit hv] at hat
  have hmem := (cur_sub left n L).subset (entry_of hrd hat)
  obtain ⟨oi, hoi, hki⟩ := iter_at hrg
  have b1 : Box w1 g B limit floor := kept_of hg1 hoi h.box (by rw [hki]; simp [kd])
  have f1 : Fr kT [] base w w1 := h.fr.grownNew hg1 hr hbs
  refine ⟨b1, fun hn => ⟨⟨D, hrg1, by rw [cur_stay (x := ⟨k, c⟩) hrs hmem hn]; exact hrd⟩, b1, f1⟩, fun hn => ?_⟩
  obtain ⟨w3, cnt3, hrun, rg3, hle, ht⟩ := hrg1.drop law9 Try.underlying46 hkey 0
  rw [Maps.strike_twice] at rg3
  have hg3 := ht.grown
  obtain ⟨o2, ho2, hk2⟩ := map_at hrg1
  refine ⟨w3, cnt3, hrun, hle, ⟨⟨_, rg3, ?_⟩, kept_of hg3 ho2 b1 (by rw [hk2]; simp [kd]), f1.grown hg3 ho2 (.inl (by rw [hk2]; simp [kT])) hB⟩⟩
  rw [cur_goes (x := ⟨k, c⟩) hrs hmem hn]
  exact hrd.del hrg1.owns (cur_rises hrs) k
theorem PasI.end_ {W : World} (h : PasI w wr base g B r L floor limit n left bnd cnt) (ht : TableAt W base g B L floor limit) (hgd : Good (passL L n) floor limit) (hl : ∀ kl, left kl = false) : TableAt wr base g B (passL L n) floor limit := by
  obtain ⟨D, hrg, hrd⟩ := h.rg
  rw [cur_end n L hl] at hrd
  exact ⟨h.box, MapAt.of hrg.owns hrd, ht.bg, ht.bB, fun x hx => ht.ok x (mem_passL.mp hx).1, hgd⟩
end
/-- How many go. -/
def gone (L : List Tm) (n : Int) : Int := (L.length : Int) - ((passL L n).length : Int)
theorem pass_nil (n : Int) (w : World) : Calls Try.prog 12 #[.pointer none, .int .i64 n] w fun x w' => x = .returned (.int .i64 0) ∧ w = w' := by
  go_enter Try.func12, Try.ntmps12
  go_wp2
  go_ret
  exact ⟨rfl, rfl⟩
set_option maxHeartbeats 4000000 in
theorem pass_any (base g B : Nat) (L : List Tm) (floor limit n : Int) (w : World) (h : TableAt w base g B L floor limit) (hbs : base ≤ w.heap.size) (hl : L.length ≤ 1000) :
    Calls Try.prog 12 #[.pointer (some ⟨g, 0, none⟩), .int .i64 n] w (TPost w base g B (passL L n) (passF floor n) limit (.int .i64 (gone L n))) := by
  have hgd := h.good.pass n
  by_cases hf : floor ≤ n
  · have e : passF floor n = 0 := by unfold passF; rw [if_pos hf]
    rw [e] at hgd ⊢
    have c1 := h.box.c1
    have fz := h.box.frozen 1
    obtain ⟨t1, f1⟩ := h.setF (f := 0) ⟨h.good.rs, h.good.pos, Int.le_refl _, h.good.len⟩
    have c2 := t1.box.c2
    have hlen := t1.mp.len 3
    obtain ⟨D, hown, hrd⟩ := t1.mp
    obtain ⟨m, hm⟩ : ∃ m, m = L.length := ⟨_, rfl⟩
    rw [← hm] at hown hlen
    have HN := Lib.hid hm
    have HC := Lib.hid t1
    have HF := Lib.hid f1
    have HSZ : Hid ((w.setCell ⟨g, 1, none⟩ (.int .i64 0)).heap.size = w.heap.size) := by show _ = _; simp
    have HR := Lib.hid hrd
    have HS := Lib.hid hbs
    have HG := Lib.hid hgd
    have HL := Lib.hid hl
    clear h hrd hm hbs t1 f1 hgd hl e
    go_enter Try.func12, Try.ntmps12
    go_wp2_with (first
      | (at_range; refine wpList_range_own _ rfl _ 46 rfl 9 3 law9 Try.underlying46 iE B m D rfl hown ?_; intro w0 hrg0 hg0 hs0; rw [HSZ.out] at hrg0; rw [HSZ.out])
      | go_in)
    go_frame
    go_loopw [6, 7] (fun _ _ wr => ∃ left cnt, PasI w wr base g B w.heap.size L 0 limit n left m cnt) (fun _ _ wr => wr.rangeLeft B w.heap.size)
    case atStart =>
      have hst := PasI.start HC.out HF.out HR.out (bnd := m) (by rw [HSZ.out]; exact hrg0) hg0 HS.out n
      rw [HSZ.out] at hst
      exact ⟨_, _, hst⟩
    case round =>
      obtain ⟨left, cnt, hi⟩ := hrel
      obtain ⟨D', hrg, hrd⟩ := hi.rg
      have HI := Lib.hid hi
      have HRD := Lib.hid hrd
      have HM := Lib.hid hi.left_eq
      have k2 := hi.box.c2
      clear hi hrd hrg0 hown c2 hg0 hs0 hlen c1 fz
      go_wp2_with (first
        | (at_next; refine wpList_next_ranges _ rfl _ rfl 9 law9 iE Value.string (Value.int .i64) (fun key kl hkey => keyOf9_inv hkey) iE_form B w.heap.size m D' left cnt rfl hrg ?_ ?_)
        | go_in)
      · intro hc0 hl0
        have T4 := HI.out.end_ HC.out HG.out hl0
        have hlen2 := T4.mp.len 3
        have hle := passL_le L n
        have hmx : m ≤ 1000 := by rw [HN.out]; exact HL.out
        obtain ⟨q, hq⟩ : ∃ q, q = (passL L n).length := ⟨_, rfl⟩
        rw [← hq] at hlen2 hle
        rw [← HN.out] at hle
        have HE : Hid (TPost w base g B (passL L n) 0 limit (.int .i64 (gone L n)) (.returned (.int .i64 (wrap64 ((m : Int) - (q : Int))))) wr) := by
          have e : gone L n = wrap64 ((m : Int) - (q : Int)) := by unfold gone wrap64; rw [← HN.out, ← hq]; omega
          rw [e]
          exact ⟨rfl, T4, HI.out.fr⟩
        clear hl0 hc0 hrg T4 hle hmx hq
        go_wp2
        go_ret
        exact HE.out
      · intro k c kl yd yp w1 cnt1 hkey hlk hv hat hrg1 hlt hg1 hs1 hen
        obtain ⟨d1, e1, e2⟩ := HI.out.step HRD.out hrg (Nat.le_refl _) HS.out HC.out.bB HC.out.good.rs hkey hv hat hrg1 hg1
        have d2 := d1.c2
        have LT := Lib.hid hlt
        by_cases hn : n < c
        · have HTT := Lib.hid (e1 hn)
          have hn' : ¬ c ≤ n := by omega
          clear hkey hlk hv hat hrg1 hlt hg1 hrg d1 e1 e2 hn
          go_wp2
          go_roundw
          case rel => exact ⟨_, _, HTT.out⟩
          case measure =>
            rw [HTT.out.left_eq, HM.out]
            have := LT.out
            omega
        · obtain ⟨w3, cnt3, hrun, hle, hT⟩ := e2 hn
          have HTT := Lib.hid hT
          have HLE := Lib.hid hle
          have hn' : c ≤ n := by omega
          clear hkey hlk hv hat hrg1 hlt hg1 hrg d1 e1 e2 hn hT hle
          go_wp2
          go_roundw
          case rel => exact ⟨_, _, HTT.out⟩
          case measure =>
            rw [HTT.out.left_eq, HM.out]
            have := HLE.out
            have := LT.out
            omega
  · have e : passF floor n = floor := by unfold passF; rw [if_neg hf]
    rw [e] at hgd ⊢
    have c1 := h.box.c1
    have c2 := h.box.c2
    have hlen := h.mp.len 3
    obtain ⟨D, hown, hrd⟩ := h.mp
    obtain ⟨m, hm⟩ : ∃ m, m = L.length := ⟨_, rfl⟩
    rw [← hm] at hown hlen
    have HN := Lib.hid hm
    have HC := Lib.hid h
    have HR := Lib.hid hrd
    have HS := Lib.hid hbs
    have HG := Lib.hid hgd
    have HL := Lib.hid hl
    clear h hrd hm hbs hgd hl e
    go_enter Try.func12, Try.ntmps12
    go_wp2_with (first
      | (at_range; refine wpList_range_own _ rfl _ 46 rfl 9 3 law9 Try.underlying46 iE B m D rfl hown ?_; intro w0 hrg0 hg0 hs0)
      | go_in)
    try go_frame
    go_loopw [6, 7] (fun _ _ wr => ∃ left cnt, PasI w wr base g B w.heap.size L floor limit n left m cnt) (fun _ _ wr => wr.rangeLeft B w.heap.size)
    case atStart =>
      exact ⟨_, _, PasI.start HC.out (Fr.refl _ _ _ _) HR.out hrg0 hg0 HS.out n⟩
    case round =>
      obtain ⟨left, cnt, hi⟩ := hrel
      obtain ⟨D', hrg, hrd⟩ := hi.rg
      have HI := Lib.hid hi
      have HRD := Lib.hid hrd
      have HM := Lib.hid hi.left_eq
      have k2 := hi.box.c2
      clear hi hrd hrg0 hown c2 hg0 hs0 hlen c1
      go_wp2_with (first
        | (at_next; refine wpList_next_ranges _ rfl _ rfl 9 law9 iE Value.string (Value.int .i64) (fun key kl hkey => keyOf9_inv hkey) iE_form B w.heap.size m D' left cnt rfl hrg ?_ ?_)
        | go_in)
      · intro hc0 hl0
        have T4 := HI.out.end_ HC.out HG.out hl0
        have hlen2 := T4.mp.len 3
        have hle := passL_le L n
        have hmx : m ≤ 1000 := by rw [HN.out]; exact HL.out
        obtain ⟨q, hq⟩ : ∃ q, q = (passL L n).length := ⟨_, rfl⟩
        rw [← hq] at hlen2 hle
        rw [← HN.out] at hle
        have HE : Hid (TPost w base g B (passL L n) floor limit (.int .i64 (gone L n)) (.returned (.int .i64 (wrap64 ((m : Int) - (q : Int))))) wr) := by
          have e : gone L n = wrap64 ((m : Int) - (q : Int)) := by unfold gone wrap64; rw [← HN.out, ← hq]; omega
          rw [e]
          exact ⟨rfl, T4, HI.out.fr⟩
        clear hl0 hc0 hrg T4 hle hmx hq
        go_wp2
        go_ret
        exact HE.out
      · intro k c kl yd yp w1 cnt1 hkey hlk hv hat hrg1 hlt hg1 hs1 hen
        obtain ⟨d1, e1, e2⟩ := HI.out.step HRD.out hrg (Nat.le_refl _) HS.out HC.out.bB HC.out.good.rs hkey hv hat hrg1 hg1
        have d2 := d1.c2
        have LT := Lib.hid hlt
        by_cases hn : n < c
        · have HTT := Lib.hid (e1 hn)
          have hn' : ¬ c ≤ n := by omega
          clear hkey hlk hv hat hrg1 hlt hg1 hrg d1 e1 e2 hn
          go_wp2
          go_roundw
          case rel => exact ⟨_, _, HTT.out⟩
          case measure =>
            rw [HTT.out.left_eq, HM.out]
            have := LT.out
            omega
        · obtain ⟨w3, cnt3, hrun, hle, hT⟩ := e2 hn
          have HTT := Lib.hid hT
          have HLE := Lib.hid hle
          have hn' : c ≤ n := by omega
          clear hkey hlk hv hat hrg1 hlt hg1 hrg d1 e1 e2 hn hT hle
          go_wp2
          go_roundw
          case rel => exact ⟨_, _, HTT.out⟩
          case measure =>
            rw [HTT.out.left_eq, HM.out]
            have := HLE.out
            have := LT.out
            omega
end Go.Proofs.Ytlleiehacmkedaa
