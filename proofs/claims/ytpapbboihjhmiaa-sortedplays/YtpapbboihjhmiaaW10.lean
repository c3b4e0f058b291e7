/-
  The contract of All's function. Its conditions: the map lies in memory.
-/
import Derived.Test.YtpapbboihjhmiaaW11
namespace Go.Proofs.Ytpapbboihjhmiaa
open Go.RowKit Go.Shelf

attribute [local go_sem] Oper.semAt_some

/-- What a node holds. -/
def kvOf (x : Nd) : KV := x.2
theorem grown_drew (W : World) : W.grownBy W.drew none := ⟨rfl, rfl, rfl, Nat.le_refl _, fun _ _ _ => rfl⟩
theorem own_drew {β : Type} {B : Nat} {I : β → World → Prop} (h : OwnFrom B I) {s : β} {W : World} (hs : I s W) : I s W.drew := h s W _ none hs (grown_drew W) (fun r e => by cases e)
theorem keeps_drew {B : Nat} {W W' : World} (h : KeepsFrom B W.drew W') : KeepsFrom B W W' := ⟨h.size, fun k o hk h1 => h.same k o hk h1⟩

theorem round_in {m m' : Nat} {P : Program} {l l2 : Nat} {f : FuncId} {tmps : Array Value} {assign body : Code} {w : World} {R R' : Ending → World → Prop}
    (h : RoundIn Fence.wide m P l f tmps assign body w R) (hr : ∀ e w, R e w → R' e w) : RoundIn (Fence.wide.inRound l2) m' P l f tmps assign body w R' := by
  have h1 : RoundIn Fence.wide m' P l f tmps assign body w R' := (round_any h).mono hr
  exact h1
/-- How a round of the caller's ends. -/
def Round2 (J Jx : List KV → World → Prop) (n₀ B : Nat) (xs : List KV) (W : World) (e : Ending) (W' : World) : Prop :=
  ∃ ok : Bool, e = .returned (.bool ok) ∧ KeepsFrom B W W' ∧ (ok = true → J xs W' ∧ Kp n₀ W W') ∧ (ok = false → Jx xs W')
set_option maxRecDepth 100000 in
set_option maxHeartbeats 400000 in
theorem all1_tells (w0 w : World) (Bm g : Nat) (L : List KV) (hM : MapAt w0 g L) (hb : Below w0.heap.size w0 w) (hc : w.cell? ⟨Bm, 0, none⟩ = some (.pointer (some ⟨g, 0, none⟩))) (hBm : Bm < w.heap.size) :
    Tells Try.prog 33 #[.pointer (some ⟨Bm, 0, none⟩)] encP (Kp w0.heap.size) L w := by
  intro l J Jx W hW hJ hJx hY h0
  have hn0 : w0.heap.size ≤ W.heap.size := Nat.le_trans hb.size hW.size
  have hbW : Below w0.heap.size w0 W := hb.trans (hW.mono hb.size)
  obtain ⟨root, t, hbox, ht, rfl, hr, hbal⟩ := hM
  have cg : W.cell? ⟨g, 0, none⟩ = some (.pointer root) := (hbox.keep (hbW.block g hbox.lt)).c0
  have hcW : W.cell? ⟨Bm, 0, none⟩ = some (.pointer (some ⟨g, 0, none⟩)) := (hW.cell (p := ⟨Bm, 0, none⟩) hBm).trans hc
  have hBmW : Bm < W.heap.size := Nat.lt_of_lt_of_le hBm hW.size
  have hgW : g < W.heap.size := Nat.lt_of_lt_of_le hbox.lt hn0
  obtain ⟨xs, hN⟩ := NdL.some ht
  obtain ⟨hkv, hmid⟩ := hN.kvs
  have hdd : ∀ k : Nat, (Fence.wide.depth.isSome = true → 1 ≤ k) := fun k h => by cases h
  have hmx : Try.prog.follows .mixedOrders = true := by kernel_rfl
  have h33 : Fence.wide.fn 33 := trivial
  have h34 : Fence.wide.fn 34 := trivial
  have h38 : Fence.wide.fn 38 := trivial
  refine callsIn_of_wp_marks Try.func33 rfl trivial ?_ rfl
  simp only [Try.ntmps33, List.size_toArray, List.length_cons, List.length_nil, Nat.reduceAdd, Nat.reduceSub, Array.replicate_succ, Array.replicate_zero, List.push_toArray, List.append_toArray, List.nil_append, List.cons_append]
  gi_wp2_with ((try refine ⟨hdd _, ?_⟩); gi_at_call 34; refine (callsIn_wide.2 (nodes_any _ _)).mono ?_; rintro e w' ⟨rfl, rfl⟩)
  have hB2 : Below w0.heap.size w0 ((W.alloc (.cells #[.func (.yield l) #[] #[]] 32)).alloc (.cells #[.pointer root] 57)) := (hbW.alloc hn0 _).alloc (by simp; omega) _
  have bY := (Boxed.new W 32 (.func (.yield l) #[] #[])).alloc (.cells #[.pointer root] 57)
  have bR := Boxed.new (W.alloc (.cells #[.func (.yield l) #[] #[]] 32)) 57 (.pointer root)
  rw [World.size_alloc] at bR
  have hs2 : ((W.alloc (.cells #[.func (.yield l) #[] #[]] 32)).alloc (.cells #[.pointer root] 57)).heap.size = W.heap.size + 2 := by simp
  have hj2 : J [] ((W.alloc (.cells #[.func (.yield l) #[] #[]] 32)).alloc (.cells #[.pointer root] 57)) := hJ.alloc _ (hJ.alloc _ h0)
  generalize (W.alloc (.cells #[.func (.yield l) #[] #[]] 32)).alloc (.cells #[.pointer root] 57) = W2 at hB2 bY bR hs2 hj2 ⊢
  clear cg hcW hBmW hgW hbox hr hbal hc hBm ht h0 hb hW
  refine range_tells (gf := 38) (lb := #[.pointer (some ⟨W.heap.size + 1, 0, none⟩)]) rfl (enters_of Try.func38 (by kernel_rfl) rfl)
    (nodes1_tells w0 W2 (W.heap.size + 1) root t xs hN hB2 bR.cell (by omega)) belowK_t (fun W' l' o o' hl h ho => below_put _ h (by omega)) (Below.refl _ _) (fun _ => rfl)
    (fun pre W' => J (pre.map kvOf) W' ∧ Boxed W' W.heap.size 32 (.func (.yield l) #[] #[]) ∧ Below w0.heap.size w0 W')
    (fun c pre W' => c = .ret ∧ Jx (pre.map kvOf) W')
    (OwnFrom.and (fun s A B row hs hg hr => ownFrom_mono hJ (by omega) (s.map kvOf) A B row hs hg hr) (OwnFrom.and (Own.from (boxed_own W.heap.size 32 (fun _ => .func (.yield l) #[] #[])) _) (ownFrom_below (Nat.le_refl _) (by omega))))
    (fun c s A B row hs hg hr => ⟨hs.1, ownFrom_mono hJx (by omega) (s.map kvOf) A B row hs.2 hg hr⟩)
    ⟨hj2, bY, hB2⟩
    (fun x => { tmps := #[.func (.yield l) #[] #[], .pointer (some ⟨Bm, 0, none⟩), .pointer (some ⟨W.heap.size, 0, none⟩), .pointer (some ⟨x.1, 0, none⟩), .pointer (some ⟨g, 0, none⟩), .bool false, .pointer (some ⟨g, 0, none⟩), .pointer (some ⟨g, 0, none⟩), .pointer (some ⟨g, 0, none⟩), .pointer root, .func (.func 38) #[] #[.pointer (some ⟨W.heap.size + 1, 0, none⟩)], .pointer (some ⟨x.1, 0, none⟩), undef, undef, undef, undef, undef, undef, undef, undef, undef, undef, undef], defers := [] }) ?assign ?body ?done ?stop
  case assign =>
    intro l x W K hK
    simp only [encN]
    gi_wp2
    exact hK
  case body =>
    rintro l2 pre x W' ⟨hj, hbx, hB⟩ hpre
    obtain ⟨b, k, v⟩ := x
    have hx : (b, k, v) ∈ xs := hpre.subset (by simp)
    obtain ⟨pl, pr, d, hn⟩ := hmid _ hx
    have hn' := hn.keep (Nodes.below hB)
    have c0 := hn'.c0
    have c1 := hn'.c1
    have cy := hbx.cell
    obtain ⟨fn, tmps, assign, body, hy, hR⟩ := hY (pre.map kvOf) (k, v) W'.drew (own_drew hJ hj) (by rw [← hkv]; have := hpre.map kvOf; rw [show (fun x : Nd => x.2) = kvOf from rfl]; rw [List.map_append] at this; exact this)
    have hR' : RoundIn Fence.wide 8 Try.prog l fn tmps assign body W'.drew (Round2 J Jx w0.heap.size W.heap.size (pre.map kvOf ++ [(k, v)]) W'.drew) := (round_any hR).mono fun e W3 h => by
      rcases h with ⟨h1, h2, h3, h4⟩ | ⟨h1, h2, h3⟩
      · exact ⟨true, h1, h4, (fun _ => ⟨h2, h3⟩), fun h => by cases h⟩
      · exact ⟨false, h1, h3, (fun h => by cases h), fun _ => h2⟩
    dsimp only [encP] at hy
    have bodyT : ∀ W3 : World, (KeepsFrom W.heap.size W'.drew W3 ∧ (true = true → J (pre.map kvOf ++ [(k, v)]) W3 ∧ Kp w0.heap.size W'.drew W3) ∧ (true = false → Jx (pre.map kvOf ++ [(k, v)]) W3)) →
        KeepsFrom (W.heap.size + 2) W' W3 ∧ Below w0.heap.size W' W3 ∧ J ((pre ++ [(b, k, v)]).map kvOf) W3 ∧ Boxed W3 W.heap.size 32 (.func (.yield l) #[] #[]) ∧ Below w0.heap.size w0 W3 := by
      intro W3 h
      obtain ⟨h1, h2, _⟩ := h
      obtain ⟨h3, h4, h5⟩ := h2 rfl
      have hbel : Below w0.heap.size W' W3 := ((Below.refl _ W').drew).trans h4
      exact ⟨keepsFrom_mono (keeps_drew h1) (by omega), hbel, by rw [List.map_append]; exact h3, (h5 _ _ hbx).trans hbx, hB.trans hbel⟩
    have bodyF : ∀ W3 : World, (KeepsFrom W.heap.size W'.drew W3 ∧ (false = true → J (pre.map kvOf ++ [(k, v)]) W3 ∧ Kp w0.heap.size W'.drew W3) ∧ (false = false → Jx (pre.map kvOf ++ [(k, v)]) W3)) →
        KeepsFrom (W.heap.size + 2) W' W3 ∧ Jx ((pre ++ [(b, k, v)]).map kvOf) W3 := by
      intro W3 h
      obtain ⟨h1, _, h2⟩ := h
      exact ⟨keepsFrom_mono (keeps_drew h1) (by omega), by rw [List.map_append]; exact h2 rfl⟩
    have HT := Lib.hid bodyT
    have HF := Lib.hid bodyF
    have HY := Lib.hid hY
    have HN := Lib.hid hN
    have HM := Lib.hid hmid
    have HK := Lib.hid hkv
    clear hR hY hN hmid hkv hn hn' bodyT bodyF
    gi_wp2
    refine region_round rfl hmx (by kernel_rfl) ?_
    refine wpAnyIn_take (i := 1) (v := (.pointer (some ⟨b, 0, none⟩))) rfl rfl (by kernel_rfl) (by kernel_rfl) (by kernel_rfl) (fun _ _ _ h => h) ⟨Or.inl ⟨by rfl, by intro w; go_simp⟩, fun _ => rfl⟩ ?_
    refine wpAnyIn_take (i := 2) (v := (.pointer (some ⟨b, 0, none⟩))) rfl rfl (by kernel_rfl) (by kernel_rfl) (by kernel_rfl) (fun _ _ _ h => h) ⟨Or.inl ⟨by rfl, by intro w; go_simp⟩, fun _ => rfl⟩ ?_
    refine wpAnyIn_take (i := 3) (v := (.pointer (some ⟨b, 0, none⟩))) rfl rfl (by kernel_rfl) (by kernel_rfl) (by kernel_rfl) (fun _ _ _ h => h) ⟨Or.inl ⟨by rfl, by intro w; go_simp⟩, fun _ => rfl⟩ ?_
    refine wpAnyIn_take (i := 5) (v := (.pointer (some ⟨b, 0, none⟩))) rfl rfl (by kernel_rfl) (by kernel_rfl) (by kernel_rfl) (fun _ _ _ h => h) ⟨Or.inl ⟨by rfl, by intro w; go_simp⟩, fun _ => rfl⟩ ?_
    refine wpAnyIn_take (i := 6) (v := (.pointer (some ⟨b, 0, none⟩))) rfl rfl (by kernel_rfl) (by kernel_rfl) (by kernel_rfl) (fun _ _ _ h => h) ⟨Or.inl ⟨by rfl, by intro w; go_simp⟩, fun _ => rfl⟩ ?_
    refine wpAnyIn_take (i := 7) (v := (.pointer (some ⟨b, 1, none⟩))) rfl rfl (by kernel_rfl) (by kernel_rfl) (by kernel_rfl) (fun _ _ _ h => h) ⟨Or.inl ⟨by rfl, by intro w; go_simp⟩, fun _ => rfl⟩ ?_
    refine wpAnyIn_ready (rs := [0, 4, 8]) (by kernel_rfl) (by simp) ?_
    refine AllReadyIn.cons rfl (fun K hK => ?_) ?_
    · go_simp
      refine hK _ _ ?_
      clear hK K
      refine wpAnyIn_ready (rs := [4, 8]) (by kernel_rfl) (by simp) ?_
      refine AllReadyIn.cons rfl (fun K hK => ?_) ?_
      · go_simp
        refine hK _ _ ?_
        clear hK K
        refine wpAnyIn_ready (rs := [8]) (by kernel_rfl) (by simp) ?_
        refine AllReadyIn.cons rfl (fun K hK => ?_) ?_
        · go_simp
          refine hK _ _ ?_
          clear hK K
          refine wpAnyIn_ready (rs := [9]) (by kernel_rfl) (by simp) ?_
          refine AllReadyIn.cons rfl (fun K hK => ?_) AllReadyIn.nil
          go_simp
          refine hR'.mono ?_
          rintro e W3 ⟨ok, rfl, hQ⟩
          have HQ := Lib.hid hQ
          clear hQ
          refine hK _ _ ?_
          clear hK K
          refine wpAnyIn_ready (rs := [10]) (by kernel_rfl) (by simp) ?_
          refine AllReadyIn.cons rfl (fun K hK => ?_) AllReadyIn.nil
          go_simp
          refine hK _ _ ?_
          clear hK K
          refine wpAnyIn_done (by kernel_rfl) ?_ _
          cases ok with
          | true =>
            gi_wp2
            exact HT.out _ HQ.out
          | false =>
            gi_wp2
            exact ⟨(HF.out _ HQ.out).1, rfl, (HF.out _ HQ.out).2⟩
        exact AllReadyIn.nil
      refine AllReadyIn.cons rfl (fun K hK => ?_) ?_
      · go_simp
        refine hK _ _ ?_
        clear hK K
        refine wpAnyIn_ready (rs := [4]) (by kernel_rfl) (by simp) ?_
        refine AllReadyIn.cons rfl (fun K hK => ?_) ?_
        · go_simp
          refine hK _ _ ?_
          clear hK K
          refine wpAnyIn_ready (rs := [9]) (by kernel_rfl) (by simp) ?_
          refine AllReadyIn.cons rfl (fun K hK => ?_) AllReadyIn.nil
          go_simp
          refine hR'.mono ?_
          rintro e W3 ⟨ok, rfl, hQ⟩
          have HQ := Lib.hid hQ
          clear hQ
          refine hK _ _ ?_
          clear hK K
          refine wpAnyIn_ready (rs := [10]) (by kernel_rfl) (by simp) ?_
          refine AllReadyIn.cons rfl (fun K hK => ?_) AllReadyIn.nil
          go_simp
          refine hK _ _ ?_
          clear hK K
          refine wpAnyIn_done (by kernel_rfl) ?_ _
          cases ok with
          | true =>
            gi_wp2
            exact HT.out _ HQ.out
          | false =>
            gi_wp2
            exact ⟨(HF.out _ HQ.out).1, rfl, (HF.out _ HQ.out).2⟩
        exact AllReadyIn.nil
      exact AllReadyIn.nil
    refine AllReadyIn.cons rfl (fun K hK => ?_) ?_
    · go_simp
      refine hK _ _ ?_
      clear hK K
      refine wpAnyIn_ready (rs := [0, 8]) (by kernel_rfl) (by simp) ?_
      refine AllReadyIn.cons rfl (fun K hK => ?_) ?_
      · go_simp
        refine hK _ _ ?_
        clear hK K
        refine wpAnyIn_ready (rs := [8]) (by kernel_rfl) (by simp) ?_
        refine AllReadyIn.cons rfl (fun K hK => ?_) ?_
        · go_simp
          refine hK _ _ ?_
          clear hK K
          refine wpAnyIn_ready (rs := [9]) (by kernel_rfl) (by simp) ?_
          refine AllReadyIn.cons rfl (fun K hK => ?_) AllReadyIn.nil
          go_simp
          refine hR'.mono ?_
          rintro e W3 ⟨ok, rfl, hQ⟩
          have HQ := Lib.hid hQ
          clear hQ
          refine hK _ _ ?_
          clear hK K
          refine wpAnyIn_ready (rs := [10]) (by kernel_rfl) (by simp) ?_
          refine AllReadyIn.cons rfl (fun K hK => ?_) AllReadyIn.nil
          go_simp
          refine hK _ _ ?_
          clear hK K
          refine wpAnyIn_done (by kernel_rfl) ?_ _
          cases ok with
          | true =>
            gi_wp2
            exact HT.out _ HQ.out
          | false =>
            gi_wp2
            exact ⟨(HF.out _ HQ.out).1, rfl, (HF.out _ HQ.out).2⟩
        exact AllReadyIn.nil
      refine AllReadyIn.cons rfl (fun K hK => ?_) ?_
      · go_simp
        refine hK _ _ ?_
        clear hK K
        refine wpAnyIn_ready (rs := [0]) (by kernel_rfl) (by simp) ?_
        refine AllReadyIn.cons rfl (fun K hK => ?_) ?_
        · go_simp
          refine hK _ _ ?_
          clear hK K
          refine wpAnyIn_ready (rs := [9]) (by kernel_rfl) (by simp) ?_
          refine AllReadyIn.cons rfl (fun K hK => ?_) AllReadyIn.nil
          go_simp
          refine hR'.mono ?_
          rintro e W3 ⟨ok, rfl, hQ⟩
          have HQ := Lib.hid hQ
          clear hQ
          refine hK _ _ ?_
          clear hK K
          refine wpAnyIn_ready (rs := [10]) (by kernel_rfl) (by simp) ?_
          refine AllReadyIn.cons rfl (fun K hK => ?_) AllReadyIn.nil
          go_simp
          refine hK _ _ ?_
          clear hK K
          refine wpAnyIn_done (by kernel_rfl) ?_ _
          cases ok with
          | true =>
            gi_wp2
            exact HT.out _ HQ.out
          | false =>
            gi_wp2
            exact ⟨(HF.out _ HQ.out).1, rfl, (HF.out _ HQ.out).2⟩
        exact AllReadyIn.nil
      exact AllReadyIn.nil
    refine AllReadyIn.cons rfl (fun K hK => ?_) ?_
    · go_simp
      refine hK _ _ ?_
      clear hK K
      refine wpAnyIn_ready (rs := [0, 4]) (by kernel_rfl) (by simp) ?_
      refine AllReadyIn.cons rfl (fun K hK => ?_) ?_
      · go_simp
        refine hK _ _ ?_
        clear hK K
        refine wpAnyIn_ready (rs := [4]) (by kernel_rfl) (by simp) ?_
        refine AllReadyIn.cons rfl (fun K hK => ?_) ?_
        · go_simp
          refine hK _ _ ?_
          clear hK K
          refine wpAnyIn_ready (rs := [9]) (by kernel_rfl) (by simp) ?_
          refine AllReadyIn.cons rfl (fun K hK => ?_) AllReadyIn.nil
          go_simp
          refine hR'.mono ?_
          rintro e W3 ⟨ok, rfl, hQ⟩
          have HQ := Lib.hid hQ
          clear hQ
          refine hK _ _ ?_
          clear hK K
          refine wpAnyIn_ready (rs := [10]) (by kernel_rfl) (by simp) ?_
          refine AllReadyIn.cons rfl (fun K hK => ?_) AllReadyIn.nil
          go_simp
          refine hK _ _ ?_
          clear hK K
          refine wpAnyIn_done (by kernel_rfl) ?_ _
          cases ok with
          | true =>
            gi_wp2
            exact HT.out _ HQ.out
          | false =>
            gi_wp2
            exact ⟨(HF.out _ HQ.out).1, rfl, (HF.out _ HQ.out).2⟩
        exact AllReadyIn.nil
      refine AllReadyIn.cons rfl (fun K hK => ?_) ?_
      · go_simp
        refine hK _ _ ?_
        clear hK K
        refine wpAnyIn_ready (rs := [0]) (by kernel_rfl) (by simp) ?_
        refine AllReadyIn.cons rfl (fun K hK => ?_) ?_
        · go_simp
          refine hK _ _ ?_
          clear hK K
          refine wpAnyIn_ready (rs := [9]) (by kernel_rfl) (by simp) ?_
          refine AllReadyIn.cons rfl (fun K hK => ?_) AllReadyIn.nil
          go_simp
          refine hR'.mono ?_
          rintro e W3 ⟨ok, rfl, hQ⟩
          have HQ := Lib.hid hQ
          clear hQ
          refine hK _ _ ?_
          clear hK K
          refine wpAnyIn_ready (rs := [10]) (by kernel_rfl) (by simp) ?_
          refine AllReadyIn.cons rfl (fun K hK => ?_) AllReadyIn.nil
          go_simp
          refine hK _ _ ?_
          clear hK K
          refine wpAnyIn_done (by kernel_rfl) ?_ _
          cases ok with
          | true =>
            gi_wp2
            exact HT.out _ HQ.out
          | false =>
            gi_wp2
            exact ⟨(HF.out _ HQ.out).1, rfl, (HF.out _ HQ.out).2⟩
        exact AllReadyIn.nil
      exact AllReadyIn.nil
    exact AllReadyIn.nil
  case done =>
    rintro D W3 hD ⟨hj, _, _⟩ hK
    gi_wp2
    refine ⟨by simp, .inl ⟨_, _, rfl, run_takeDeferred hK, ?_⟩⟩
    exact ⟨_, results_none rfl _ _ _, ⟨_, rfl⟩, .inl (hJ.putObj _ (by rw [← hkv]; exact hj) (by omega) hK rfl)⟩
  case stop =>
    rintro D c pre W3 hD hpre ⟨rfl, hx⟩ hK
    gi_wp2
    refine ⟨by simp, .inl ⟨_, _, rfl, run_takeDeferred hK, ?_⟩⟩
    exact ⟨_, results_none rfl _ _ _, ⟨_, rfl⟩, .inr ⟨pre.map kvOf, by rw [← hkv]; exact hpre.map kvOf, hJx.putObj _ hx (by omega) hK rfl⟩⟩
end Go.Proofs.Ytpapbboihjhmiaa
