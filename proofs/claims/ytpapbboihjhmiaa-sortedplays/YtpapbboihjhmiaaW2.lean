/-
  The contract of level. Its conditions: the trees lie in memory, and are no deeper than a bound.
-/
import Derived.Test.YtpapbboihjhmiaaW1
namespace Go.Proofs.Ytpapbboihjhmiaa
open Go.RowKit

/-- What a call in W leaves that makes a tree, seen from an elder w. -/
def MadeB (w W : World) (t : Tr) (e : Ending) (w' : World) : Prop := ∃ p, e = .returned (.pointer p) ∧ TrAt w' p t ∧ Below w.heap.size w w' ∧ Nodes W w'
theorem Made.from {w W : World} {t : Tr} {e : Ending} {w' : World} (h : Made W t e w') (hb : Below w.heap.size w W) : MadeB w W t e w' := by
  obtain ⟨p, h1, h2, h3⟩ := h
  exact ⟨p, h1, h2, hb.trans (h3.mono hb.size), Nodes.below h3⟩
theorem join_from {w W : World} (hb : Below w.heap.size w W) (m : Nat) (k : ByteArray) (v : Int) (pl pr : Option Addr) (l r : Tr) (hm : Mid w m k v) (hl : TrAt W pl l) (hr : TrAt W pr r) (h1 : l.ht ≤ 1000000) (h2 : r.ht ≤ 1000000) :
    Calls Try.prog 40 #[.pointer (some ⟨m, 0, none⟩), .pointer pl, .pointer pr] W (MadeB w W (.nd l k v r)) := by
  obtain ⟨a, b, c, hm⟩ := hm
  exact (join_any m k v pl pr l r W ⟨a, b, c, hm.keep (Nodes.below hb)⟩ hl hr h1 h2).mono fun _ _ h => h.from hb

theorem lev_a {k : ByteArray} {v : Int} {ll : Tr} {lk : ByteArray} {lv : Int} {lr r : Tr} (h : (Tr.nd ll lk lv lr).ht = r.ht + 2) (h2 : lr.ht ≤ ll.ht) : Tr.lev k v (.nd ll lk lv lr) r = .nd ll lk lv (.nd lr k v r) := by
  unfold Tr.lev
  rw [if_pos h]
  simp only [h2, if_true]
theorem lev_b {k : ByteArray} {v : Int} {ll : Tr} {lk : ByteArray} {lv : Int} {a : Tr} {ik : ByteArray} {iv : Int} {b r : Tr} (h : (Tr.nd ll lk lv (.nd a ik iv b)).ht = r.ht + 2) (h2 : ¬ (Tr.nd a ik iv b).ht ≤ ll.ht) :
    Tr.lev k v (.nd ll lk lv (.nd a ik iv b)) r = .nd (.nd ll lk lv a) ik iv (.nd b k v r) := by
  unfold Tr.lev
  rw [if_pos h]
  simp only [h2, if_false]
theorem lev_c {k : ByteArray} {v : Int} {rl : Tr} {rk : ByteArray} {rv : Int} {rr l : Tr} (h : (Tr.nd rl rk rv rr).ht = l.ht + 2) (h2 : rl.ht ≤ rr.ht) : Tr.lev k v l (.nd rl rk rv rr) = .nd (.nd l k v rl) rk rv rr := by
  unfold Tr.lev
  rw [if_neg (by omega), if_pos h]
  simp only [h2, if_true]
theorem lev_d {k : ByteArray} {v : Int} {a : Tr} {ik : ByteArray} {iv : Int} {b : Tr} {rk : ByteArray} {rv : Int} {rr l : Tr} (h : (Tr.nd (.nd a ik iv b) rk rv rr).ht = l.ht + 2) (h2 : ¬ (Tr.nd a ik iv b).ht ≤ rr.ht) :
    Tr.lev k v l (.nd (.nd a ik iv b) rk rv rr) = .nd (.nd l k v a) ik iv (.nd b rk rv rr) := by
  unfold Tr.lev
  rw [if_neg (by omega), if_pos h]
  simp only [h2, if_false]
theorem lev_e {k : ByteArray} {v : Int} {l r : Tr} (h : l.ht ≠ r.ht + 2) (h2 : r.ht ≠ l.ht + 2) : Tr.lev k v l r = .nd l k v r := by
  unfold Tr.lev
  rw [if_neg h, if_neg h2]

set_option maxRecDepth 100000 in
set_option maxHeartbeats 1000000 in
theorem level_e (m : Nat) (k : ByteArray) (v : Int) (pl pr : Option Addr) (l r : Tr) (w : World) (hm : Mid w m k v) (hl : TrAt w pl l) (hr : TrAt w pr r) (h1 : l.ht ≤ 900000) (h2 : r.ht ≤ 900000)
    (h3 : l.ht ≠ r.ht + 2) (h4 : r.ht ≠ l.ht + 2) : Calls Try.prog 36 #[.pointer (some ⟨m, 0, none⟩), .pointer pl, .pointer pr] w (Made w (.nd l k v r)) := by
  have JJ := Lib.hid (join_any m k v pl pr l r w hm hl hr (by omega) (by omega))
  have D1 := Lib.hid (depth_any pl l w hl)
  have D2 := Lib.hid (depth_any pr r w hr)
  obtain ⟨x, hx⟩ : ∃ x : Int, x = (l.ht : Int) := ⟨_, rfl⟩
  obtain ⟨y, hy⟩ : ∃ y : Int, y = (r.ht : Int) := ⟨_, rfl⟩
  have b1 : 0 ≤ x := by omega
  have b2 : x ≤ 900000 := by omega
  have b3 : 0 ≤ y := by omega
  have b4 : y ≤ 900000 := by omega
  have b5 : ¬ x - y = 2 := by omega
  have b6 : ¬ x - y = -2 := by omega
  rw [← hx] at D1
  rw [← hy] at D2
  clear hm hl hr hx hy h1 h2 h3 h4
  go_enter Try.func36, Try.ntmps36
  go_wp2_with fail
  refine D1.out.mono ?_
  rintro e w1 ⟨rfl, rfl⟩
  go_wp2_with fail
  refine D2.out.mono ?_
  rintro e w1 ⟨rfl, rfl⟩
  go_wp2_with fail
  refine JJ.out.mono ?_
  rintro e w1 ⟨p, rfl, t, b⟩
  have TT := Lib.hid t
  have BB := Lib.hid b
  clear t b
  go_wp2
  go_ret
  exact ⟨_, rfl, TT.out, BB.out⟩

set_option maxRecDepth 100000 in
set_option maxHeartbeats 1000000 in
theorem level_a (m : Nat) (k : ByteArray) (v : Int) (pl pr : Option Addr) (ll : Tr) (lk : ByteArray) (lv : Int) (lr r : Tr) (w : World) (hm : Mid w m k v) (hl : TrAt w pl (.nd ll lk lv lr)) (hr : TrAt w pr r) (h1 : (Tr.nd ll lk lv lr).ht ≤ 900000) (h2 : r.ht ≤ 900000)
    (h3 : (Tr.nd ll lk lv lr).ht = r.ht + 2) (h4 : lr.ht ≤ ll.ht) : Calls Try.prog 36 #[.pointer (some ⟨m, 0, none⟩), .pointer pl, .pointer pr] w (Made w (.nd ll lk lv (.nd lr k v r))) := by
  have D1 := Lib.hid (depth_any pl _ w hl)
  have D2 := Lib.hid (depth_any pr r w hr)
  obtain ⟨bl, pll, plr, rfl, hn, hll, hlr⟩ := hl
  have D3 := Lib.hid (depth_any pll ll w hll)
  have D4 := Lib.hid (depth_any plr lr w hlr)
  have c2 := hn.c2
  have c3 := hn.c3
  have e1 : (Tr.nd ll lk lv lr).ht = 1 + max ll.ht lr.ht := rfl
  have J1 : Hid (∀ W, Below w.heap.size w W → Calls Try.prog 40 #[.pointer (some ⟨m, 0, none⟩), .pointer plr, .pointer pr] W (MadeB w W (.nd lr k v r))) :=
    fun W hb => join_from hb m k v plr pr lr r hm (hlr.below hb) (hr.below hb) (by omega) (by omega)
  have J2 : Hid (∀ W q, Below w.heap.size w W → TrAt W q (.nd lr k v r) → Calls Try.prog 40 #[.pointer (some ⟨bl, 0, none⟩), .pointer pll, .pointer q] W (MadeB w W (.nd ll lk lv (.nd lr k v r)))) :=
    fun W q hb hq => join_from hb bl lk lv pll q ll _ ⟨_, _, _, hn⟩ (hll.below hb) hq (by omega) (by simp only [Tr.ht]; omega)
  have CC : Hid (∀ W, Below w.heap.size w W → W.cell? ⟨bl, 2, none⟩ = some (.pointer pll)) := fun W hb => (hn.keep (Nodes.below hb)).c2
  have GG : Hid (Below w.heap.size w w.drew) := (Below.refl _ _).drew
  obtain ⟨x, hx⟩ : ∃ x : Int, x = ((Tr.nd ll lk lv lr).ht : Int) := ⟨_, rfl⟩
  obtain ⟨y, hy⟩ : ∃ y : Int, y = (r.ht : Int) := ⟨_, rfl⟩
  obtain ⟨u, hu⟩ : ∃ x : Int, x = (ll.ht : Int) := ⟨_, rfl⟩
  obtain ⟨z, hz⟩ : ∃ y : Int, y = (lr.ht : Int) := ⟨_, rfl⟩
  have b1 : 0 ≤ x := by omega
  have b2 : x ≤ 900000 := by omega
  have b3 : 0 ≤ y := by omega
  have b4 : y ≤ 900000 := by omega
  have b5 : x - y = 2 := by omega
  have b6 : z ≤ u := by omega
  rw [← hx] at D1
  rw [← hy] at D2
  rw [← hu] at D3
  rw [← hz] at D4
  clear hm hn hll hlr hr hx hy hu hz h1 h2 h3 h4 e1
  go_enter Try.func36, Try.ntmps36
  go_wp2_with fail
  refine D1.out.mono ?_
  rintro e w1 ⟨rfl, rfl⟩
  go_wp2_with fail
  refine D2.out.mono ?_
  rintro e w1 ⟨rfl, rfl⟩
  go_wp2_with fail
  refine D3.out.mono ?_
  rintro e w1 ⟨rfl, rfl⟩
  go_wp2_with fail
  refine D4.out.mono ?_
  rintro e w1 ⟨rfl, rfl⟩
  go_wp2_with fail
  go_region_held3 (fun w' => w'.cell? ⟨bl, 2, none⟩ = some (.pointer pll)) (first | go_keep | assumption)
    (first
      | (go_at_call 40; (with_reducible refine (J1.out _ GG.out).mono ?_); rintro e wa ⟨pa, rfl, ta, ga, na⟩; have TA := Lib.hid ta; have GA := Lib.hid ga; have CA := CC.out _ ga; clear ta ga na)
      | (go_at_call 40; (with_reducible refine (J2.out _ _ GA.out TA.out).mono ?_); rintro e wb ⟨pb, rfl, tb, gb, nb⟩; have TB := Lib.hid tb; have GB := Lib.hid gb; have CB := CC.out _ gb; clear tb gb nb))
  go_wp2
  go_ret
  exact ⟨_, rfl, TB.out, GB.out⟩

set_option maxRecDepth 100000 in
set_option maxHeartbeats 1000000 in
theorem level_c (m : Nat) (k : ByteArray) (v : Int) (pl pr : Option Addr) (rl : Tr) (rk : ByteArray) (rv : Int) (rr l : Tr) (w : World) (hm : Mid w m k v) (hl : TrAt w pl l) (hr : TrAt w pr (.nd rl rk rv rr)) (h1 : l.ht ≤ 900000) (h2 : (Tr.nd rl rk rv rr).ht ≤ 900000)
    (h3 : (Tr.nd rl rk rv rr).ht = l.ht + 2) (h4 : rl.ht ≤ rr.ht) : Calls Try.prog 36 #[.pointer (some ⟨m, 0, none⟩), .pointer pl, .pointer pr] w (Made w (.nd (.nd l k v rl) rk rv rr)) := by
  have D1 := Lib.hid (depth_any pl _ w hl)
  have D2 := Lib.hid (depth_any pr _ w hr)
  obtain ⟨br, prl, prr, rfl, hn, hrl, hrr⟩ := hr
  have D3 := Lib.hid (depth_any prr rr w hrr)
  have D4 := Lib.hid (depth_any prl rl w hrl)
  have c2 := hn.c2
  have c3 := hn.c3
  have e1 : (Tr.nd rl rk rv rr).ht = 1 + max rl.ht rr.ht := rfl
  have J1 : Hid (∀ W, Below w.heap.size w W → Calls Try.prog 40 #[.pointer (some ⟨m, 0, none⟩), .pointer pl, .pointer prl] W (MadeB w W (.nd l k v rl))) :=
    fun W hb => join_from hb m k v pl prl l rl hm (hl.below hb) (hrl.below hb) (by omega) (by omega)
  have J2 : Hid (∀ W q, Below w.heap.size w W → TrAt W q (.nd l k v rl) → Calls Try.prog 40 #[.pointer (some ⟨br, 0, none⟩), .pointer q, .pointer prr] W (MadeB w W (.nd (.nd l k v rl) rk rv rr))) :=
    fun W q hb hq => join_from hb br rk rv q prr _ rr ⟨_, _, _, hn⟩ hq (hrr.below hb) (by simp only [Tr.ht]; omega) (by omega)
  have CC : Hid (∀ W, Below w.heap.size w W → W.cell? ⟨br, 3, none⟩ = some (.pointer prr)) := fun W hb => (hn.keep (Nodes.below hb)).c3
  have GG : Hid (Below w.heap.size w w.drew) := (Below.refl _ _).drew
  obtain ⟨x, hx⟩ : ∃ x : Int, x = (l.ht : Int) := ⟨_, rfl⟩
  obtain ⟨y, hy⟩ : ∃ y : Int, y = ((Tr.nd rl rk rv rr).ht : Int) := ⟨_, rfl⟩
  obtain ⟨u, hu⟩ : ∃ x : Int, x = (rr.ht : Int) := ⟨_, rfl⟩
  obtain ⟨z, hz⟩ : ∃ y : Int, y = (rl.ht : Int) := ⟨_, rfl⟩
  have b1 : 0 ≤ x := by omega
  have b2 : x ≤ 900000 := by omega
  have b3 : 0 ≤ y := by omega
  have b4 : y ≤ 900000 := by omega
  have b5 : x - y = -2 := by omega
  have b6 : z ≤ u := by omega
  rw [← hx] at D1
  rw [← hy] at D2
  rw [← hu] at D3
  rw [← hz] at D4
  clear hm hn hl hrl hrr hx hy hu hz h1 h2 h3 h4 e1
  go_enter Try.func36, Try.ntmps36
  go_wp2_with fail
  refine D1.out.mono ?_
  rintro e w1 ⟨rfl, rfl⟩
  go_wp2_with fail
  refine D2.out.mono ?_
  rintro e w1 ⟨rfl, rfl⟩
  go_wp2_with fail
  refine D3.out.mono ?_
  rintro e w1 ⟨rfl, rfl⟩
  go_wp2_with fail
  refine D4.out.mono ?_
  rintro e w1 ⟨rfl, rfl⟩
  go_wp2_with fail
  go_region_held3 (fun w' => w'.cell? ⟨br, 3, none⟩ = some (.pointer prr)) (first | go_keep | assumption)
    (first
      | (go_at_call 40; (with_reducible refine (J1.out _ GG.out).mono ?_); rintro e wa ⟨pa, rfl, ta, ga, na⟩; have TA := Lib.hid ta; have GA := Lib.hid ga; have CA := CC.out _ ga; clear ta ga na)
      | (go_at_call 40; (with_reducible refine (J2.out _ _ GA.out TA.out).mono ?_); rintro e wb ⟨pb, rfl, tb, gb, nb⟩; have TB := Lib.hid tb; have GB := Lib.hid gb; have CB := CC.out _ gb; clear tb gb nb))
  go_wp2
  go_ret
  exact ⟨_, rfl, TB.out, GB.out⟩

set_option maxRecDepth 100000 in
set_option maxHeartbeats 1000000 in
theorem level_b (m : Nat) (k : ByteArray) (v : Int) (pl pr : Option Addr) (ll : Tr) (lk : ByteArray) (lv : Int) (a : Tr) (ik : ByteArray) (iv : Int) (b r : Tr) (w : World) (hm : Mid w m k v) (hl : TrAt w pl (.nd ll lk lv (.nd a ik iv b))) (hr : TrAt w pr r) (h1 : (Tr.nd ll lk lv (.nd a ik iv b)).ht ≤ 900000) (h2 : r.ht ≤ 900000)
    (h3 : (Tr.nd ll lk lv (.nd a ik iv b)).ht = r.ht + 2) (h4 : ¬ (Tr.nd a ik iv b).ht ≤ ll.ht) : Calls Try.prog 36 #[.pointer (some ⟨m, 0, none⟩), .pointer pl, .pointer pr] w (Made w (.nd (.nd ll lk lv a) ik iv (.nd b k v r))) := by
  have D1 := Lib.hid (depth_any pl _ w hl)
  have D2 := Lib.hid (depth_any pr r w hr)
  obtain ⟨bl, pll, plr, rfl, hn, hll, hlr⟩ := hl
  have D3 := Lib.hid (depth_any pll ll w hll)
  have D4 := Lib.hid (depth_any plr _ w hlr)
  obtain ⟨bi, qa, qb, rfl, hi, ha, hb⟩ := hlr
  have c2 := hn.c2
  have c3 := hn.c3
  have d2 := hi.c2
  have d3 := hi.c3
  have e1 : (Tr.nd ll lk lv (.nd a ik iv b)).ht = 1 + max ll.ht (Tr.nd a ik iv b).ht := rfl
  have e2 : (Tr.nd a ik iv b).ht = 1 + max a.ht b.ht := rfl
  have J1 : Hid (∀ W, Below w.heap.size w W → Calls Try.prog 40 #[.pointer (some ⟨bl, 0, none⟩), .pointer pll, .pointer qa] W (MadeB w W (.nd ll lk lv a))) :=
    fun W h => join_from h bl lk lv pll qa ll a ⟨_, _, _, hn⟩ (hll.below h) (ha.below h) (by omega) (by omega)
  have J2 : Hid (∀ W, Below w.heap.size w W → Calls Try.prog 40 #[.pointer (some ⟨m, 0, none⟩), .pointer qb, .pointer pr] W (MadeB w W (.nd b k v r))) :=
    fun W h => join_from h m k v qb pr b r hm (hb.below h) (hr.below h) (by omega) (by omega)
  have J3 : Hid (∀ W p q, Below w.heap.size w W → TrAt W p (.nd ll lk lv a) → TrAt W q (.nd b k v r) → Calls Try.prog 40 #[.pointer (some ⟨bi, 0, none⟩), .pointer p, .pointer q] W (MadeB w W (.nd (.nd ll lk lv a) ik iv (.nd b k v r)))) :=
    fun W p q h hp hq => join_from h bi ik iv p q _ _ ⟨_, _, _, hi⟩ hp hq (by simp only [Tr.ht]; omega) (by simp only [Tr.ht]; omega)
  have CC : Hid (∀ W, Below w.heap.size w W → W.cell? ⟨bl, 2, none⟩ = some (.pointer pll) ∧ W.cell? ⟨bi, 2, none⟩ = some (.pointer qa) ∧ W.cell? ⟨bi, 3, none⟩ = some (.pointer qb)) :=
    fun W h => ⟨(hn.keep (Nodes.below h)).c2, (hi.keep (Nodes.below h)).c2, (hi.keep (Nodes.below h)).c3⟩
  have GG : Hid (Below w.heap.size w w.drew) := (Below.refl _ _).drew
  obtain ⟨x, hx⟩ : ∃ x : Int, x = ((Tr.nd ll lk lv (.nd a ik iv b)).ht : Int) := ⟨_, rfl⟩
  obtain ⟨y, hy⟩ : ∃ y : Int, y = (r.ht : Int) := ⟨_, rfl⟩
  obtain ⟨u, hu⟩ : ∃ x : Int, x = (ll.ht : Int) := ⟨_, rfl⟩
  obtain ⟨z, hz⟩ : ∃ y : Int, y = ((Tr.nd a ik iv b).ht : Int) := ⟨_, rfl⟩
  have b1 : 0 ≤ x := by omega
  have b2 : x ≤ 900000 := by omega
  have b3 : 0 ≤ y := by omega
  have b4 : y ≤ 900000 := by omega
  have b5 : x - y = 2 := by omega
  have b6 : ¬ z ≤ u := by omega
  rw [← hx] at D1
  rw [← hy] at D2
  rw [← hu] at D3
  rw [← hz] at D4
  clear hm hn hi hll ha hb hr hx hy hu hz h1 h2 h3 h4 e1 e2
  go_enter Try.func36, Try.ntmps36
  go_wp2_with fail
  refine D1.out.mono ?_
  rintro e w1 ⟨rfl, rfl⟩
  go_wp2_with fail
  refine D2.out.mono ?_
  rintro e w1 ⟨rfl, rfl⟩
  go_wp2_with fail
  refine D3.out.mono ?_
  rintro e w1 ⟨rfl, rfl⟩
  go_wp2_with fail
  refine D4.out.mono ?_
  rintro e w1 ⟨rfl, rfl⟩
  go_wp2_with fail
  go_region_held3 (fun w' => w'.cell? ⟨bl, 2, none⟩ = some (.pointer pll) ∧ w'.cell? ⟨bi, 2, none⟩ = some (.pointer qa) ∧ w'.cell? ⟨bi, 3, none⟩ = some (.pointer qb)) (first | go_keep | exact ⟨by assumption, by assumption, by assumption⟩)
    (first
      | (go_at_call 40; (with_reducible refine (J1.out _ ?hh).mono ?_); (case hh => first | exact GB.out | exact GG.out); rintro e wa ⟨pa, rfl, ta, ga, na⟩; have TA := Lib.hid ta; have GA := Lib.hid ga; have NA := Lib.hid na; obtain ⟨CA1, CA2, CA3⟩ := CC.out _ ga; clear ta ga na)
      | (go_at_call 40; (with_reducible refine (J2.out _ ?hh).mono ?_); (case hh => first | exact GA.out | exact GG.out); rintro e wb ⟨pb, rfl, tb, gb, nb⟩; have TB := Lib.hid tb; have GB := Lib.hid gb; have NB := Lib.hid nb; obtain ⟨CB1, CB2, CB3⟩ := CC.out _ gb; clear tb gb nb)
      | (go_at_call 40; (with_reducible refine (J3.out _ pa pb ?h1 ?h2 ?h3).mono ?_); (case h1 => first | exact GB.out | exact GA.out); (case h2 => first | exact TA.out | exact TA.out.keep NB.out); (case h3 => first | exact TB.out | exact TB.out.keep NA.out); rintro e wc ⟨pc, rfl, tc, gc, nc⟩; have TC := Lib.hid tc; have GC := Lib.hid gc; obtain ⟨CC1, CC2, CC3⟩ := CC.out _ gc; clear tc gc nc))
  all_goals
    go_wp2
    go_ret
    exact ⟨_, rfl, TC.out, GC.out⟩

set_option maxRecDepth 100000 in
set_option maxHeartbeats 1000000 in
theorem level_d (m : Nat) (k : ByteArray) (v : Int) (pl pr : Option Addr) (a : Tr) (ik : ByteArray) (iv : Int) (b : Tr) (rk : ByteArray) (rv : Int) (rr l : Tr) (w : World) (hm : Mid w m k v) (hl : TrAt w pl l) (hr : TrAt w pr (.nd (.nd a ik iv b) rk rv rr)) (h1 : l.ht ≤ 900000) (h2 : (Tr.nd (.nd a ik iv b) rk rv rr).ht ≤ 900000)
    (h3 : (Tr.nd (.nd a ik iv b) rk rv rr).ht = l.ht + 2) (h4 : ¬ (Tr.nd a ik iv b).ht ≤ rr.ht) : Calls Try.prog 36 #[.pointer (some ⟨m, 0, none⟩), .pointer pl, .pointer pr] w (Made w (.nd (.nd l k v a) ik iv (.nd b rk rv rr))) := by
  have D1 := Lib.hid (depth_any pl _ w hl)
  have D2 := Lib.hid (depth_any pr _ w hr)
  obtain ⟨br, prl, prr, rfl, hn, hrl, hrr⟩ := hr
  have D3 := Lib.hid (depth_any prr rr w hrr)
  have D4 := Lib.hid (depth_any prl _ w hrl)
  obtain ⟨bi, qa, qb, rfl, hi, ha, hb⟩ := hrl
  have c2 := hn.c2
  have c3 := hn.c3
  have d2 := hi.c2
  have d3 := hi.c3
  have e1 : (Tr.nd (.nd a ik iv b) rk rv rr).ht = 1 + max (Tr.nd a ik iv b).ht rr.ht := rfl
  have e2 : (Tr.nd a ik iv b).ht = 1 + max a.ht b.ht := rfl
  have J1 : Hid (∀ W, Below w.heap.size w W → Calls Try.prog 40 #[.pointer (some ⟨m, 0, none⟩), .pointer pl, .pointer qa] W (MadeB w W (.nd l k v a))) :=
    fun W h => join_from h m k v pl qa l a hm (hl.below h) (ha.below h) (by omega) (by omega)
  have J2 : Hid (∀ W, Below w.heap.size w W → Calls Try.prog 40 #[.pointer (some ⟨br, 0, none⟩), .pointer qb, .pointer prr] W (MadeB w W (.nd b rk rv rr))) :=
    fun W h => join_from h br rk rv qb prr b rr ⟨_, _, _, hn⟩ (hb.below h) (hrr.below h) (by omega) (by omega)
  have J3 : Hid (∀ W p q, Below w.heap.size w W → TrAt W p (.nd l k v a) → TrAt W q (.nd b rk rv rr) → Calls Try.prog 40 #[.pointer (some ⟨bi, 0, none⟩), .pointer p, .pointer q] W (MadeB w W (.nd (.nd l k v a) ik iv (.nd b rk rv rr)))) :=
    fun W p q h hp hq => join_from h bi ik iv p q _ _ ⟨_, _, _, hi⟩ hp hq (by simp only [Tr.ht]; omega) (by simp only [Tr.ht]; omega)
  have CC : Hid (∀ W, Below w.heap.size w W → W.cell? ⟨br, 3, none⟩ = some (.pointer prr) ∧ W.cell? ⟨bi, 2, none⟩ = some (.pointer qa) ∧ W.cell? ⟨bi, 3, none⟩ = some (.pointer qb)) :=
    fun W h => ⟨(hn.keep (Nodes.below h)).c3, (hi.keep (Nodes.below h)).c2, (hi.keep (Nodes.below h)).c3⟩
  have GG : Hid (Below w.heap.size w w.drew) := (Below.refl _ _).drew
  obtain ⟨x, hx⟩ : ∃ x : Int, x = (l.ht : Int) := ⟨_, rfl⟩
  obtain ⟨y, hy⟩ : ∃ y : Int, y = ((Tr.nd (.nd a ik iv b) rk rv rr).ht : Int) := ⟨_, rfl⟩
  obtain ⟨u, hu⟩ : ∃ x : Int, x = (rr.ht : Int) := ⟨_, rfl⟩
  obtain ⟨z, hz⟩ : ∃ y : Int, y = ((Tr.nd a ik iv b).ht : Int) := ⟨_, rfl⟩
  have b1 : 0 ≤ x := by omega
  have b2 : x ≤ 900000 := by omega
  have b3 : 0 ≤ y := by omega
  have b4 : y ≤ 900000 := by omega
  have b5 : x - y = -2 := by omega
  have b6 : ¬ z ≤ u := by omega
  rw [← hx] at D1
  rw [← hy] at D2
  rw [← hu] at D3
  rw [← hz] at D4
  clear hm hn hi hl ha hb hrr hx hy hu hz h1 h2 h3 h4 e1 e2
  go_enter Try.func36, Try.ntmps36
  go_wp2_with fail
  refine D1.out.mono ?_
  rintro e w1 ⟨rfl, rfl⟩
  go_wp2_with fail
  refine D2.out.mono ?_
  rintro e w1 ⟨rfl, rfl⟩
  go_wp2_with fail
  refine D3.out.mono ?_
  rintro e w1 ⟨rfl, rfl⟩
  go_wp2_with fail
  refine D4.out.mono ?_
  rintro e w1 ⟨rfl, rfl⟩
  go_wp2_with fail
  go_region_held3 (fun w' => w'.cell? ⟨br, 3, none⟩ = some (.pointer prr) ∧ w'.cell? ⟨bi, 2, none⟩ = some (.pointer qa) ∧ w'.cell? ⟨bi, 3, none⟩ = some (.pointer qb)) (first | go_keep | exact ⟨by assumption, by assumption, by assumption⟩)
    (first
      | (go_at_call 40; (with_reducible refine (J1.out _ ?hh).mono ?_); (case hh => first | exact GB.out | exact GG.out); rintro e wa ⟨pa, rfl, ta, ga, na⟩; have TA := Lib.hid ta; have GA := Lib.hid ga; have NA := Lib.hid na; obtain ⟨CA1, CA2, CA3⟩ := CC.out _ ga; clear ta ga na)
      | (go_at_call 40; (with_reducible refine (J2.out _ ?hh).mono ?_); (case hh => first | exact GA.out | exact GG.out); rintro e wb ⟨pb, rfl, tb, gb, nb⟩; have TB := Lib.hid tb; have GB := Lib.hid gb; have NB := Lib.hid nb; obtain ⟨CB1, CB2, CB3⟩ := CC.out _ gb; clear tb gb nb)
      | (go_at_call 40; (with_reducible refine (J3.out _ pa pb ?h1 ?h2 ?h3).mono ?_); (case h1 => first | exact GB.out | exact GA.out); (case h2 => first | exact TA.out | exact TA.out.keep NB.out); (case h3 => first | exact TB.out | exact TB.out.keep NA.out); rintro e wc ⟨pc, rfl, tc, gc, nc⟩; have TC := Lib.hid tc; have GC := Lib.hid gc; obtain ⟨CC1, CC2, CC3⟩ := CC.out _ gc; clear tc gc nc))
  all_goals
    go_wp2
    go_ret
    exact ⟨_, rfl, TC.out, GC.out⟩

theorem level_any (m : Nat) (k : ByteArray) (v : Int) (pl pr : Option Addr) (l r : Tr) (w : World) (hm : Mid w m k v) (hl : TrAt w pl l) (hr : TrAt w pr r) (h1 : l.ht ≤ 900000) (h2 : r.ht ≤ 900000) :
    Calls Try.prog 36 #[.pointer (some ⟨m, 0, none⟩), .pointer pl, .pointer pr] w (Made w (Tr.lev k v l r)) := by
  by_cases h3 : l.ht = r.ht + 2
  · cases l with
    | nil => simp [Tr.ht] at h3
    | nd ll lk lv lr =>
      by_cases h4 : lr.ht ≤ ll.ht
      · rw [lev_a h3 h4]
        exact level_a m k v pl pr ll lk lv lr r w hm hl hr h1 h2 h3 h4
      · cases lr with
        | nil => simp [Tr.ht] at h4
        | nd a ik iv b =>
          rw [lev_b h3 h4]
          exact level_b m k v pl pr ll lk lv a ik iv b r w hm hl hr h1 h2 h3 h4
  · by_cases h5 : r.ht = l.ht + 2
    · cases r with
      | nil => simp [Tr.ht] at h5
      | nd rl rk rv rr =>
        by_cases h4 : rl.ht ≤ rr.ht
        · rw [lev_c h5 h4]
          exact level_c m k v pl pr rl rk rv rr l w hm hl hr h1 h2 h5 h4
        · cases rl with
          | nil => simp [Tr.ht] at h4
          | nd a ik iv b =>
            rw [lev_d h5 h4]
            exact level_d m k v pl pr a ik iv b rk rv rr l w hm hl hr h1 h2 h5 h4
    · rw [lev_e h3 h5]
      exact level_e m k v pl pr l r w hm hl hr h1 h2 h3 h5
end Go.Proofs.Ytpapbboihjhmiaa
