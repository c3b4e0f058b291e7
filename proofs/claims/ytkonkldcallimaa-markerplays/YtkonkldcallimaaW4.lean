/-
  The contract of take: on whatever order the map is ranged over. Its conditions: the table lies in memory; what it is handed tells of each marker whether it goes, and writes nothing that was there.
-/
import Derived.Test.YtkonkldcallimaaW3
namespace Go.Proofs.Ytkonkldcallimaa
open Go.RowKit Go.Maps Go.ChangeMaps

theorem grown_of_below {w w' : World} (h : Below w.heap.size w w') (row : Option Nat) : w.grownBy w' row := ⟨h.os, h.tape, h.output, h.size, fun k hk _ => h.block k hk⟩
theorem uE_form (v : Value) (y : DataW Unit × List MemPlace) (h : uE v = some y) : ∃ _c : Unit, v = .agg #[] := ⟨(), (unitElem_inv h).1⟩
theorem key_form (key : Value) (kl : Lit) (h : keyOf Try.prog 48 key = some kl) : ∃ m : Mk, key = (fun m => Value.agg #[.string m.k, .int .i64 m.s, .int .i64 m.r]) m := by
  obtain ⟨m, rfl, _⟩ := keyOf48_inv h
  exact ⟨m, rfl⟩
theorem key_ok {m : Mk} {kl : Lit} (h : keyOf Try.prog 48 (.agg #[.string m.k, .int .i64 m.s, .int .i64 m.r]) = some kl) : Ok m ∧ kl = mLit m := by
  obtain ⟨m', e, h1, h2⟩ := keyOf48_inv h
  have : m = m' := mv_inj e
  subst this
  exact ⟨h1, h2⟩
def strike (left : Lit → Bool) (kl : Lit) : Lit → Bool := fun z => left z && !z.sameKey kl
/-- What the map has while take is under way. -/
def cur (left : Lit → Bool) (p : Mk → Bool) (L : List Mk) : List Mk := L.filter fun x => left (mLit x) || !p x
theorem cur_sub (left : Lit → Bool) (p : Mk → Bool) (L : List Mk) : (cur left p L).Sublist L := List.filter_sublist
theorem cur_stay {left : Lit → Bool} {p : Mk → Bool} {L : List Mk} {m : Mk} (ho : ∀ x ∈ L, Ok x) (hm : Ok m) (h : p m = false) : cur (strike left (mLit m)) p L = cur left p L := by
  unfold cur
  refine List.filter_congr fun y hy => ?_
  unfold strike
  rw [same_lit (ho y hy) hm]
  by_cases e : y = m
  · subst e
    simp [h]
  · simp [e]
theorem cur_goes {left : Lit → Bool} {p : Mk → Bool} {L : List Mk} {m : Mk} (ho : ∀ x ∈ L, Ok x) (hm : Ok m) (h : p m = true) : cur (strike left (mLit m)) p L = out (cur left p L) (isG m) := by
  unfold cur out
  rw [List.filter_filter]
  refine List.filter_congr fun y hy => ?_
  unfold strike
  rw [same_lit (ho y hy) hm]
  by_cases e : y = m
  · subst e
    simp [h, isG]
  · simp [e, isG]
theorem cur_end {left : Lit → Bool} (p : Mk → Bool) (L : List Mk) (h : ∀ kl, left kl = false) : cur left p L = out L p := by
  unfold cur out
  refine List.filter_congr fun y _ => ?_
  simp [h]
/-- An entry that came is a marker of the map. -/
theorem entry_of {D : DataW Unit} {L : List Mk} {m : Mk} {y : DataW Unit} (hr : Reads D L) (hm : Ok m) (hat : ∀ zd, D.atKey (mLit m) zd = y) : m ∈ L := by
  have h1 := has_true_of_atKey hat
  rw [hr.at_ m hm] at h1
  simpa using h1
/-- take under way. -/
structure TakI (w wr : World) (base g B r : Nat) (L : List Mk) (limit : Int) (p : Mk → Bool) (left : Lit → Bool) (n cnt : Nat) : Prop where
  rg : ∃ D, wr.ranges Try.prog 48 uE B r n D left cnt ∧ Reads D (cur left p L)
  box : Box wr g B limit
  fr : Fr [] [B] base w wr
theorem iter_at {w : World} {b r n cnt : Nat} {D : DataW Unit} {left : Lit → Bool} (h : w.ranges Try.prog 48 uE b r n D left cnt) : ∃ o, w.heap[r]? = some o ∧ kd o = 1001 := by
  obtain ⟨es, clock, since, seen, c0, _, _, _, _, hr, _⟩ := h
  exact ⟨_, hr, rfl⟩
theorem map_at {w : World} {b r n cnt : Nat} {D : DataW Unit} {left : Lit → Bool} (h : w.ranges Try.prog 48 uE b r n D left cnt) : ∃ o, w.heap[b]? = some o ∧ kd o = 1000 := by
  obtain ⟨es, clock, since, seen, c0, hb, _⟩ := h
  exact ⟨_, hb, rfl⟩
theorem kept_of {w w' : World} {i j : Nat} {o p : Obj} (hg : w.grownBy w' (some i)) (hi : w.heap[i]? = some o) (hj : w.heap[j]? = some p) (hk : kd p ≠ kd o) : w'.heap[j]? = some p := by
  rw [hg.block j (lt_of_heap hj) ?_]
  · exact hj
  · intro e
    cases e
    rw [hi] at hj
    cases hj
    exact hk rfl
section
variable {w wr w1 : World} {base g B r : Nat} {L : List Mk} {limit : Int} {p : Mk → Bool} {left : Lit → Bool} {n cnt cnt1 : Nat} {D : DataW Unit}
theorem TakI.left_eq (h : TakI w wr base g B r L limit p left n cnt) : wr.rangeLeft B r = cnt := by
  obtain ⟨D, hrg, _⟩ := h.rg
  exact hrg.left_eq
theorem has_all (h : Reads D L) (ho : ∀ x ∈ L, Ok x) {x : Mk} (hx : x ∈ L) : Maps.has D (mLit x) = true := by
  rw [h.at_ x (ho x hx)]
  simpa using hx
theorem TakI.start {w0 : World} (ht : TableAt w base g B L limit) (hr : Reads D L) (hrg : w0.ranges Try.prog 48 uE B w.heap.size n D (Maps.has D) (Maps.size D)) (hg : w.grownBy w0 none) (hbs : base ≤ w.heap.size) (p : Mk → Bool) :
    TakI w w0 base g B w.heap.size L limit p (Maps.has D) n (Maps.size D) := by
  have hb := Below.of_none hg
  have e : cur (Maps.has D) p L = L := by
    unfold cur
    rw [List.filter_eq_self]
    intro x hx
    rw [has_all hr ht.ok hx]
    rfl
  exact ⟨⟨D, hrg, by rw [e]; exact hr⟩, ht.box.below hb, Fr.of_below hb hbs⟩
/-- The iterator has turned. -/
theorem TakI.next {m : Mk} {y : DataW Unit} (h : TakI w wr base g B r L limit p left n cnt) (hrd : Reads D (cur left p L)) (hrg : wr.ranges Try.prog 48 uE B r n D left cnt) (hr : w.heap.size ≤ r) (hbs : base ≤ w.heap.size) (hm : Ok m)
    (hat : ∀ zd, D.atKey (mLit m) zd = y) (hg1 : wr.grownBy w1 (some r)) : Box w1 g B limit ∧ Fr [] [B] base w w1 ∧ m ∈ L := by
  obtain ⟨oi, hoi, hki⟩ := iter_at hrg
  exact ⟨kept_of hg1 hoi h.box (by rw [hki]; simp [kd]), h.fr.grownNew hg1 hr hbs, (cur_sub left p L).subset (entry_of hrd hm hat)⟩
/-- A marker that stays. -/
theorem TakI.stay {w3 : World} {m : Mk} (hb1 : Box w1 g B limit) (hf1 : Fr [] [B] base w w1) (hrg1 : w1.ranges Try.prog 48 uE B r n D (fun z => left z && !z.sameKey (mLit m)) cnt1) (hrd : Reads D (cur left p L)) (ho : ∀ x ∈ L, Ok x) (hm : Ok m) (hp : p m = false) (hbs : base ≤ w1.heap.size) (hb : Below w1.heap.size w1 w3) :
    TakI w w3 base g B r L limit p (strike left (mLit m)) n cnt1 :=
  ⟨⟨D, hrg1.kept (grown_of_below hb none) (by simp) (by simp), by rw [cur_stay ho hm hp]; exact hrd⟩, hb1.below hb, hf1.trans (Fr.of_below hb hbs)⟩
/-- A marker that goes. -/
theorem TakI.goes {w3 : World} {m : Mk} (hb1 : Box w1 g B limit) (hf1 : Fr [] [B] base w w1) (hrg1 : w1.ranges Try.prog 48 uE B r n D (fun z => left z && !z.sameKey (mLit m)) cnt1) (hrd : Reads D (cur left p L)) (ho : ∀ x ∈ L, Ok x) (hn : L.Nodup) (hm : Ok m) (hp : p m = true) (hbs : base ≤ w1.heap.size) (hb : Below w1.heap.size w1 w3) (hB : base ≤ B) :
    ∃ w4 cnt4, (Builtin.delete_ #[51, 48] 0 #[.map (some B), .agg #[.string m.k, .int .i64 m.s, .int .i64 m.r]]).run Try.prog w3.drew = .ok (.tuple #[]) w4 ∧ cnt4 ≤ cnt1 ∧ TakI w w4 base g B r L limit p (strike left (mLit m)) n cnt4 := by
  have rg3 := hrg1.kept (grown_of_below hb.drew none) (by simp) (by simp)
  have b3 := hb1.below hb.drew
  have f3 := hf1.trans (Fr.of_below hb.drew hbs)
  obtain ⟨w4, cnt4, hrun, rg4, hle, ht⟩ := rg3.drop law48 Try.underlying51 (keyOf_mv hm) 0
  rw [Maps.strike_twice] at rg4
  have hg4 := ht.grown
  obtain ⟨o2, ho2, hk2⟩ := map_at rg3
  refine ⟨w4, cnt4, hrun, hle, ⟨⟨_, rg4, ?_⟩, kept_of hg4 ho2 b3 (by rw [hk2]; simp [kd]), f3.grown hg4 ho2 (.inr (by simp)) hB⟩⟩
  rw [cur_goes ho hm hp]
  exact hrd.del rg3.owns ((cur_sub left p L).nodup hn) hm
theorem TakI.end_ (h : TakI w wr base g B r L limit p left n cnt) (ht : TableAt w base g B L limit) (hl : ∀ kl, left kl = false) : TableAt wr base g B (out L p) limit := by
  obtain ⟨D, hrg, hrd⟩ := h.rg
  rw [cur_end p L hl] at hrd
  exact ⟨h.box, MapAt.of hrg.owns hrd, ht.bg, ht.bB, fun x hx => ht.ok x (mem_out.mp hx).1, ht.good.out p, ht.l2⟩
end
/-- How many go. -/
def gone (L : List Mk) (p : Mk → Bool) : Int := (L.length : Int) - ((out L p).length : Int)
theorem take_nil (f : Value) (w : World) : Calls Try.prog 26 #[.pointer none, f] w fun x w' => x = .returned (.int .i64 0) ∧ w = w' := by
  go_enter Try.func26, Try.ntmps26
  go_wp2
  go_ret
  exact ⟨rfl, rfl⟩
/-- What take is handed. -/
def Tells (w : World) (base B f : Nat) (cb : Array Value) (p : Mk → Bool) : Prop := ∀ (m : Mk) (w' : World), Fr [] [B] base w w' →
  Calls Try.prog f (#[.agg #[.string m.k, .int .i64 m.s, .int .i64 m.r]] ++ cb) w' fun r w'' => r = .returned (.bool (p m)) ∧ Below w'.heap.size w' w''
set_option maxHeartbeats 4000000 in
theorem take_any (base g B : Nat) (L : List Mk) (limit : Int) (f : Nat) (cb : Array Value) (p : Mk → Bool) (w : World) (h : TableAt w base g B L limit) (hbs : base ≤ w.heap.size) (ht : Tells w base B f cb p)
    (eg : ∀ args w, (callFunc f args).run Try.prog w = .ok (.enter f args) w) :
    Calls Try.prog 26 #[.pointer (some ⟨g, 0, none⟩), .func (.func f) #[] cb] w (SetPost w base g B (out L p) limit (.int .i64 (gone L p))) := by
  have c1 := h.box.c1
  have hlen := h.mp.len 3
  obtain ⟨D, hown, hrd⟩ := h.mp
  obtain ⟨n, hn⟩ : ∃ n, n = L.length := ⟨_, rfl⟩
  rw [← hn] at hown hlen
  have HN := Lib.hid hn
  have HC := Lib.hid h
  have HR := Lib.hid hrd
  have HS := Lib.hid hbs
  have HT := Lib.hid ht
  clear h hrd hn hbs ht
  go_enter Try.func26, Try.ntmps26
  go_wp2_with (first
    | (at_range; refine wpList_range_own _ rfl _ 51 rfl 48 55 law48 Try.underlying51 uE B n D rfl hown ?_; intro w0 hrg0 hg0 hs0)
    | go_in)
  go_frame
  go_loopw [6, 19] (fun _ _ wr => ∃ left cnt, TakI w wr base g B w.heap.size L limit p left n cnt) (fun _ _ wr => wr.rangeLeft B w.heap.size)
  case atStart =>
    exact ⟨_, _, TakI.start HC.out HR.out hrg0 hg0 HS.out p⟩
  case round =>
    obtain ⟨left, cnt, hi⟩ := hrel
    obtain ⟨D', hrg, hrd⟩ := hi.rg
    have HI := Lib.hid hi
    have HRD := Lib.hid hrd
    have HM := Lib.hid hi.left_eq
    have k1 := hi.box.c1
    clear hi hrd hrg0 hown c1 hg0 hs0 hlen
    go_wp2_with (first
      | (at_next; refine wpList_next_ranges _ rfl _ rfl 48 law48 uE (fun m : Mk => Value.agg #[.string m.k, .int .i64 m.s, .int .i64 m.r]) (fun _ : Unit => Value.agg #[]) key_form uE_form B w.heap.size n D' left cnt rfl hrg ?_ ?_)
      | go_in)
    · intro hc0 hl0
      have T4 := HI.out.end_ HC.out hl0
      have hlen2 := T4.mp.len 3
      have hle := out_length_le L p
      have hmx : (n : Int) ≤ 9223372036854775807 := by
        have h1 := HC.out.good.len
        have h2 := HC.out.l2
        have h3 := HN.out
        omega
      obtain ⟨q, hq⟩ : ∃ q, q = (out L p).length := ⟨_, rfl⟩
      rw [← hq] at hlen2 hle
      rw [← HN.out] at hle
      have HE : Hid (SetPost w base g B (out L p) limit (.int .i64 (gone L p)) (.returned (.int .i64 (wrap64 ((n : Int) - (q : Int))))) wr) := by
        have e : gone L p = wrap64 ((n : Int) - (q : Int)) := by unfold gone wrap64; rw [← HN.out, ← hq]; omega
        rw [e]
        exact ⟨rfl, T4, HI.out.fr⟩
      clear hl0 hc0 hrg T4 hle hmx hq
      go_wp2
      go_ret
      exact HE.out
    · intro m kl yd yp w1 cnt1 hkey hlk hv hat hrg1 hlt hg1 hs1 hen
      obtain ⟨hok, rfl⟩ := key_ok hkey
      obtain ⟨nb, nf, nm⟩ := HI.out.next HRD.out hrg (Nat.le_refl _) HS.out hok hat hg1
      have hbs1 : base ≤ w1.heap.size := by have h1 := HS.out; have h2 := HI.out.fr.size; omega
      have b2 : Below w1.heap.size w1 (w1.alloc (.cells #[.string m.k, .int .i64 m.s, .int .i64 m.r] 48)) := (Below.refl _ _).alloc (Nat.le_refl _) _
      have CT := Lib.hid (HT.out m _ (nf.trans (Fr.of_below b2 hbs1)))
      have NB := Lib.hid nb
      have NF := Lib.hid nf
      have OK := Lib.hid hok
      have RG := Lib.hid hrg1
      have BS := Lib.hid hbs1
      have B2 := Lib.hid b2
      have LT := Lib.hid hlt
      clear hkey hok hlk hv hat hrg1 hlt hg1 hrg nb nf nm b2 hbs1
      go_wp2_with fail
      refine CT.out.mono ?_
      rintro x w3 ⟨rfl, b3⟩
      have X3 : w3.heap[w1.heap.size]? = some (.cells #[.string m.k, .int .i64 m.s, .int .i64 m.r] 48 (0, 0)) := (b3.block _ (by simp)).trans (heap_new _ _)
      rw [hs1] at X3
      have B3 := Lib.hid (B2.out.trans (b3.mono B2.out.size))
      obtain ⟨d0, d1, d2⟩ := mk_cells X3
      have d3 := (NB.out.below B3.out).c1
      clear b3 X3 hs1 hen CT
      by_cases hp : p m = true
      · obtain ⟨w4, cnt4, hrun, hle, hT⟩ := TakI.goes NB.out NF.out RG.out HRD.out HC.out.ok HC.out.good.rs.nodup OK.out hp BS.out B3.out HC.out.bB
        have HTT := Lib.hid hT
        have HLE := Lib.hid hle
        rw [hp]
        clear hT hle hp
        go_wp2_with fail
        go_region
        all_goals
          go_wp2
          go_roundw
          case rel => exact ⟨_, _, HTT.out⟩
          case measure =>
            rw [HTT.out.left_eq, HM.out]
            have := HLE.out
            have := LT.out
            omega
      · have hp' : p m = false := by simpa using hp
        have HTT := Lib.hid (TakI.stay NB.out NF.out RG.out HRD.out HC.out.ok OK.out hp' BS.out B3.out)
        rw [hp']
        clear hp hp'
        go_wp2
        go_roundw
        case rel => exact ⟨_, _, HTT.out⟩
        case measure =>
          rw [HTT.out.left_eq, HM.out]
          have := LT.out
          omega
end Go.Proofs.Ytkonkldcallimaa
