/-
  The walk of SortedAll. Its conditions: the slices read as texts.
-/
import Derived.Test.YtpapbboihjhmiaaW16
namespace Go.Proofs.Ytpapbboihjhmiaa
open Go.RowKit Go.Shelf

attribute [local go_sem] Oper.semAt_some

/-- What SortedAll has: its result's cell, its map's cell, its map. -/
structure AllSt (w : World) (r bm g : Nat) (L : List KV) (W : World) : Prop where
  map : MapAt W g L
  res : Boxed W r 4 (.bool false)
  box : Boxed W bm 24 (.pointer (some ⟨g, 0, none⟩))
  bel : Below w.heap.size w W
theorem AllSt.below {w : World} {r bm g : Nat} {L : List KV} {W W' : World} (h : AllSt w r bm g L W) (hb : Below W.heap.size W W') : AllSt w r bm g L W' :=
  ⟨h.map.below hb, (hb.block r h.res.lt).trans h.res, (hb.block bm h.box.lt).trans h.box, h.bel.trans (hb.mono h.bel.size)⟩
theorem AllSt.only {w : World} {r bm g : Nat} {L L' : List KV} {W W' : World} (h : AllSt w r bm g L W) (ho : Only g W W') (hm : MapAt W' g L') (h1 : r ≠ g) (h2 : bm ≠ g) (h3 : w.heap.size ≤ g) : AllSt w r bm g L' W' :=
  ⟨hm, (ho.block r h.res.lt h1).trans h.res, (ho.block bm h.box.lt h2).trans h.box, h.bel.trans (ho.below h.bel.size h3)⟩
def AllRel (b p : Nat) (w : World) (r bm g : Nat) (s : Value) (wr : World) : Prop := ∃ (k : Nat) (L : List KV), k ≤ p ∧ s = .int .i64 (k : Int) ∧ L.length ≤ b + k ∧ AllSt w r bm g L wr
def AllRelD (b p : Nat) (w : World) (r bm g : Nat) (s : Value) (wr : World) : Prop := ∃ (k : Nat) (L : List KV), k ≤ p ∧ s = .int .i64 (k : Int) ∧ L.length ≤ b ∧ AllSt w r bm g L wr

theorem MapAt.own {g : Nat} {L : List KV} {X Y : World} {row : Option Nat} (h : MapAt X g L) (hg : X.grownBy Y row) (hr : ∀ r, row = some r → ∃ o : Obj, X.heap[r]? = some o ∧ o.isCells = false) : MapAt Y g L := by
  have key : ∀ (b : Nat) (cs : Array Value) (t : TypeId), X.heap[b]? = some (.cells cs t (0, 0)) → Y.heap[b]? = X.heap[b]? := fun b cs t hb => hg.block b (Array.getElem?_eq_some_iff.mp hb).1 (fun e => by
    obtain ⟨o, ho, hc⟩ := hr b e.symm
    rw [hb] at ho
    cases ho
    cases hc)
  obtain ⟨root, t, hbox, rest⟩ := h
  exact MapAt.keep ⟨root, t, hbox, rest⟩ (fun b cs hb => key b cs 66 hb) (key g _ 59 hbox)
theorem AllSt.own {β : Type} {w : World} {r bm g : Nat} {L : List KV} {B : Nat} (hB : w.heap.size ≤ B) : OwnFrom B (fun (_ : β) W => AllSt w r bm g L W) := fun s X Y row hs hg hr =>
  ⟨hs.map.own hg (fun q e => (hr q e).2), Own.from (boxed_own r 4 (fun _ : β => .bool false)) B s X Y row hs.res hg hr, Own.from (boxed_own bm 24 (fun _ : β => .pointer (some ⟨g, 0, none⟩))) B s X Y row hs.box hg hr,
    ownFrom_below (Nat.le_refl _) hB s X Y row hs.bel hg hr⟩
theorem keep_set {W : World} {b : Nat} {t u : TypeId} {v : Value} (h : Boxed W b t v) (htu : t ≠ u) (x : Value) : Keep u W (W.setCell ⟨b, 0, none⟩ x) := fun c cs hc => by
  refine Below.heap_setCell _ _ _ _ ?_
  rintro rfl
  rw [show W.heap[c]? = _ from h] at hc
  injection hc with hc
  injection hc with _ h2
  exact htu h2
theorem AllSt.set {w : World} {r bm g : Nat} {L : List KV} {W : World} {b : Nat} {t : TypeId} {v : Value} (h : AllSt w r bm g L W) (hb : Boxed W b t v) (hw : w.heap.size ≤ b) (h4 : t ≠ 4) (h24 : t ≠ 24) (h59 : t ≠ 59) (h66 : t ≠ 66) (x : Value) :
    AllSt w r bm g L (W.setCell ⟨b, 0, none⟩ x) := by
  obtain ⟨⟨root, tr, hbox, rest⟩, h2, h3, h5⟩ := h
  exact ⟨MapAt.keep ⟨root, tr, hbox, rest⟩ (keep_set hb h66 x) (keep_set hb h59 x _ _ hbox), (keep_set hb h4 x _ _ h2).trans h2, (keep_set hb h24 x _ _ h3).trans h3, h5.setCell (p := ⟨b, 0, none⟩) hw x⟩
theorem AllSt.drew {w : World} {r bm g : Nat} {L : List KV} {W : World} (h : AllSt w r bm g L W) : AllSt w r bm g L W.drew := h.below (Below.refl _ _).drew
/-- The last key of those that have come. -/
def lastK (pre : List KV) : ByteArray := match pre.getLast? with | some p => p.1 | none => ⟨#[]⟩
theorem lastK_snoc (pre : List KV) (p : KV) : lastK (pre ++ [p]) = p.1 := by simp [lastK]
theorem lastK_lt {pre : List KV} {p : KV} {L : List KV} (hr : Rises L) (h : pre ++ [p] <+: L) (hp : pre ≠ []) : lt (lastK pre) p.1 = true := by
  obtain ⟨q, hq⟩ : ∃ q, pre.getLast? = some q := by
    cases hh : pre.getLast? with
    | none => exact absurd (List.getLast?_eq_none_iff.mp hh) hp
    | some q => exact ⟨q, rfl⟩
  have hm : q ∈ pre := List.mem_of_getLast? hq
  obtain ⟨t, rfl⟩ := h
  have := (rises_append.mp (rises_append.mp hr).1).2.2 q hm p (by simp)
  simpa [lastK, hq] using this
theorem from_own {L : List KV} (hr : Rises L) {p : KV} (h : p ∈ L) : lfrom L p.1 = some p := by
  have hg : lget L p.1 = some p.2 := (lget_some hr).mpr h
  rw [get_from hr] at hg
  cases hf : lfrom L p.1 with
  | none => rw [hf] at hg; cases hg
  | some q =>
    rw [hf] at hg
    by_cases e : q.1 = p.1
    · simp only [e, if_true] at hg
      injection hg with hg
      congr 1
      exact Prod.ext e hg
    · simp only [e, if_false] at hg
      cases hg
/-- A loop over an iterator, where the loop's variables are put into the frame. -/
theorem range_upd {α : Type} {P : Program} {g : Operand} {ps : Array Tmp} {assign body : Code} {Q : Exit → Act → World → Prop} {T : Array Value} {w : World} {gf : Nat} {lb : Array Value} (U : Array Value → α → Array Value)
    (hg : ({ tmps := T, defers := [] } : Act).eval g = .func (.func gf) #[] lb) (eg : ∀ args w, (callFunc gf args).run P w = .ok (.enter gf args) w)
    {encs : α → Array Value} {Kp : World → World → Prop} {L : List α} {w0 : World} (hseq : Tells P gf lb encs Kp L w0) (hKt : ∀ {A B C : World}, Kp A B → Kp B C → Kp A C)
    (hKb : ∀ (W : World) (l : Nat) (o o' : Obj), w.heap.size ≤ l → W.heap[l]? = some o → o.isCells = false → Kp W (W.putObj l o')) (hb0 : Below w0.heap.size w0 w) (hps : ∀ x, (encs x).size = ps.size)
    (I : List α → World → Prop) (Ix : Code → List α → World → Prop) (hI : OwnFrom w.heap.size I) (hIx : ∀ c, OwnFrom w.heap.size (Ix c)) (h0 : I [] w)
    (hassign : ∀ (l : Nat) (x : α) (W : World) (K : Act → World → Prop), K { tmps := U T x, defers := [] } W →
      assign.wpIn (Fence.wide.inRound l) 9 P (Exit.then K (fun _ _ _ => False)) { tmps := (ps.zip (encs x)).foldl (fun t (p, v) => t.setIfInBounds p v) T, defers := [] } W)
    (hbody : ∀ (l : Nat) (pre : List α) (x : α) (W : World), I pre W → pre ++ [x] <+: L → body.wpIn (Fence.wide.inRound l) 9 P (ownPostG w.heap.size Kp I Ix (pre ++ [x]) W) { tmps := U T x, defers := [] } W)
    (hdone : ∀ (D : Nat) (W : World), w.heap.size ≤ D → I L W → W.heap[D]? = some (.deferred (some [])) → Q .normal { tmps := T, defers := [{ target := .collected D, args := #[] }] } W)
    (hstop : ∀ (D : Nat) (c : Code) (pre : List α) (W : World), w.heap.size ≤ D → pre <+: L → Ix c pre W → W.heap[D]? = some (.deferred (some [])) → c.wpIn Fence.wide 9 P Q { tmps := T, defers := [{ target := .collected D, args := #[] }] } W) :
    (Code.rangeFunc g ps assign body).wpIn Fence.wide 9 P Q { tmps := T, defers := [] } w :=
  range_tells hg eg hseq hKt hKb hb0 hps I Ix hI hIx h0 (fun x => { tmps := U T x, defers := [] }) hassign hbody hdone hstop
/-- The loop's two variables. -/
def updA (t : Array Value) (x : KV) : Array Value := (((t.setIfInBounds 55 (.string x.1)).setIfInBounds 56 (.int .i64 x.2)).setIfInBounds 10 (.string x.1)).setIfInBounds 11 (.int .i64 x.2)
theorem np_le {Q : Exit → Act → World → Prop} : ∀ e a w, NoPanic Q e a w → Q e a w := fun e a w h => by cases e <;> first | exact h | exact h.elim
set_option maxRecDepth 100000 in
set_option maxHeartbeats 1000000 in
theorem allL_walk (l m : List ByteArray) (A B : Option Addr) (n n' c c' : Nat) (w : World) (h : Strs w A l) (h' : Strs w B m) (hn : l.length = n) (hn' : m.length = n') :
    Calls Try.prog 4 #[.slice A n c, .slice B n' c'] w fun e w' => e = .returned (.bool true) ∧ Below w.heap.size w w' := by
  have H := Lib.hid h
  have H' := Lib.hid h'
  have HN := Lib.hid hn
  have HN' := Lib.hid hn'
  clear h h' hn hn'
  refine (callsIn_wide (n := 9)).1 ?_
  have hdd : ∀ k : Nat, (Fence.wide.depth.isSome = true → 1 ≤ k) := fun k h => by cases h
  have hmx : Try.prog.follows .mixedOrders = true := by kernel_rfl
  have h9 : Fence.wide.fn 9 := trivial
  have h10 : Fence.wide.fn 10 := trivial
  have h11 : Fence.wide.fn 11 := trivial
  have h13 : Fence.wide.fn 13 := trivial
  have h20 : Fence.wide.fn 20 := trivial
  have h23 : Fence.wide.fn 23 := trivial
  have h33 : Fence.wide.fn 33 := trivial
  refine callsIn_of_wp_marks Try.func4 rfl trivial ?_ rfl
  simp only [Try.ntmps4, List.size_toArray, List.length_cons, List.length_nil, Nat.reduceAdd, Nat.reduceSub, Array.replicate_succ, Array.replicate_zero, List.push_toArray, List.append_toArray, List.nil_append, List.cons_append]
  gi_wp2_with fail
  refine (callsIn_wide.2 (awake_any _)).mono ?_
  rintro e w1 ⟨rfl, b1⟩
  have R1 := Lib.hid ((b1.block w.heap.size (by simp)).trans (Boxed.new w 4 (.bool false)))
  have B1 := Lib.hid (((Below.refl _ w).alloc (Nat.le_refl _) (.cells #[.bool false] 4)).trans (b1.mono (by simp)))
  have Z1 : Hid (w.heap.size < w1.heap.size) := by show _ < _; have := b1.size; simp at this; omega
  clear b1
  gi_wp2_with fail
  refine (callsIn_wide.2 (new_any _)).mono ?_
  rintro e w2 ⟨rfl, m2, b2, s2⟩
  gi_wp2
  have hst : AllSt w w.heap.size (w1.heap.size + 1) w1.heap.size [] (w2.alloc (.cells #[.pointer (some ⟨w1.heap.size, 0, none⟩)] 24)) := by
    have hb : Below w2.heap.size w2 (w2.alloc (.cells #[.pointer (some ⟨w1.heap.size, 0, none⟩)] 24)) := (Below.refl _ w2).alloc (Nat.le_refl _) _
    have hr2 : Boxed w2 w.heap.size 4 (.bool false) := (b2.block _ Z1.out).trans R1.out
    exact ⟨m2.below hb, (hb.block _ hr2.lt).trans hr2, by rw [← s2]; exact Boxed.new w2 24 _, (B1.out.trans (b2.mono B1.out.size)).trans (hb.mono (Nat.le_trans B1.out.size b2.size))⟩
  have HST := Lib.hid hst
  clear hst m2 b2 s2 R1 B1
  generalize w2.alloc (.cells #[.pointer (some ⟨w1.heap.size, 0, none⟩)] 24) = W0 at HST ⊢
  generalize w1.heap.size = g at HST Z1 ⊢
  have hrg : w.heap.size ≠ g := Nat.ne_of_lt Z1.out
  have NRG := Lib.hid hrg
  have G : Hid (w.heap.size ≤ g) := Nat.le_of_lt Z1.out
  clear hrg
  gi_loopw [6] (AllRel 0 500 w w.heap.size (g + 1) g) (fun i _ => 500 - (intOf i).toNat)
  case atStart => exact ⟨0, [], Nat.zero_le _, rfl, Nat.le_refl _, HST.out⟩
  case round =>
    clear HST
    obtain ⟨k, L, hk, rfl, hlen, hst⟩ := hrel
    have HS := Lib.hid hst
    have cb := hst.box.cell
    clear hst
    by_cases hlt : k < n ∧ k < 500
    · obtain ⟨hlt1, hlt2⟩ := hlt
      have hkl : k < l.length := by have := HN.out; omega
      obtain ⟨b, off, rfl, hbs, c0⟩ := (H.out.below (Nat.le_refl _) HS.out.bel).at_ hkl
      have HLE := Lib.hid (len_set_le L l[k] (k : Int) HS.out.map.rises)
      have CS := Lib.hid (set_any g L l[k] (k : Int) wr.drew (HS.out.map.below (Below.refl _ _).drew) (by omega))
      generalize l[k] = x at c0 CS HLE
      clear hkl
      have hlti : (k : Int) < (n : Int) := by omega
      have hlti2 : (k : Int) < 500 := by omega
      gi_wp2_with fail
      refine Code.wpIn_mono np_le ?_
      gi_region_with_o ((try refine ⟨hdd _, ?_⟩); gi_at_call 11; (with_reducible refine (callsIn_wide.2 CS.out).mono ?_); rintro e w3 ⟨rfl, m3, o3⟩; have M3 := Lib.hid m3; have O3 := Lib.hid o3; clear m3 o3)
      all_goals
        simp only [NoPanic]
        gi_wp2
        go_roundw
        case rel => exact ⟨k + 1, _, by omega, by go_num, by have := HLE.out; omega, (HS.out.below (Below.refl _ _).drew).only O3.out M3.out NRG.out (by omega) G.out⟩
        case measure => simp [intOf]; omega
    · have LK : Hid (L.length ≤ 500) := by show _ ≤ _; omega
      rcases (show (¬ (k : Int) < (n : Int)) ∨ ((k : Int) < (n : Int) ∧ ¬ (k : Int) < 500) by omega) with hlti | ⟨hlti, hlti2⟩
      all_goals
        clear hlt hlen
        gi_wp2
        clear hlti hk
        gi_loopw [7] (AllRelD 500 500 w w.heap.size (g + 1) g) (fun i _ => 500 - (intOf i).toNat)
        case atStart => exact ⟨0, L, Nat.zero_le _, rfl, LK.out, HS.out⟩
        case round =>
          clear HS LK cb
          obtain ⟨k, L, hk, rfl, hlen, hst⟩ := hrel
          have HS := Lib.hid hst
          have cb := hst.box.cell
          have hbl := hst.box.lt
          clear hst
          by_cases hlt : k < n' ∧ k < 500
          · obtain ⟨hlt1, hlt2⟩ := hlt
            have hkl : k < m.length := by have := HN'.out; omega
            obtain ⟨b, off, rfl, hbs, c0⟩ := (H'.out.below (Nat.le_refl _) HS.out.bel).at_ hkl
            have HLE := Lib.hid (len_del_le L m[k])
            have CS := Lib.hid (del_any g L m[k] wr.drew (HS.out.map.below (Below.refl _ _).drew) (by omega))
            generalize m[k] = x at c0 CS HLE
            clear hkl
            have hlti : (k : Int) < (n' : Int) := by omega
            have hlti2 : (k : Int) < 500 := by omega
            gi_wp2_with fail
            refine Code.wpIn_mono np_le ?_
            gi_region_with_o ((try refine ⟨hdd _, ?_⟩); gi_at_call 13; (with_reducible refine (callsIn_wide.2 CS.out).mono ?_); rintro e w3 ⟨rfl, m3, o3⟩; have M3 := Lib.hid m3; have O3 := Lib.hid o3; clear m3 o3)
            all_goals
              simp only [NoPanic]
              gi_wp2
              go_roundw
              case rel => exact ⟨k + 1, _, by omega, by go_num, by have := HLE.out; omega, (HS.out.below (Below.refl _ _).drew).only O3.out M3.out NRG.out (by omega) G.out⟩
              case measure => simp [intOf]; omega
          · have LK : Hid (L.length ≤ 500) := hlen
            rcases (show (¬ (k : Int) < (n' : Int)) ∨ ((k : Int) < (n' : Int) ∧ ¬ (k : Int) < 500) by omega) with hlti | ⟨hlti, hlti2⟩
            all_goals
              clear hlt hlen
              have hcb : ((wr.alloc (.cells #[.string ⟨#[]⟩] 9)).alloc (.cells #[.int .i64 0] 3)).cell? ⟨g + 1, 0, none⟩ = some (.pointer (some ⟨g, 0, none⟩)) := ((HS.out.box.alloc _).alloc _).cell
              gi_wp2_with ((try refine ⟨hdd _, ?_⟩); gi_at_call 23; refine (callsIn_wide.2 (all_any _ _)).mono ?_; rintro e w' ⟨rfl, rfl⟩)
              clear hlti hk cb hcb
              have hB0 : Below wr.heap.size wr (((wr.alloc (.cells #[.string ⟨#[]⟩] 9)).alloc (.cells #[.int .i64 0] 3)).alloc (.cells #[.pointer (some ⟨g, 0, none⟩)] 24)) := (((Below.refl _ wr).alloc (Nat.le_refl _) _).alloc (by simp) _).alloc (by simp; omega) _
              have bL := ((Boxed.new wr 9 (.string ⟨#[]⟩)).alloc (.cells #[.int .i64 0] 3)).alloc (.cells #[.pointer (some ⟨g, 0, none⟩)] 24)
              have bN := (Boxed.new (wr.alloc (.cells #[.string ⟨#[]⟩] 9)) 3 (.int .i64 0)).alloc (.cells #[.pointer (some ⟨g, 0, none⟩)] 24)
              have bM := Boxed.new ((wr.alloc (.cells #[.string ⟨#[]⟩] 9)).alloc (.cells #[.int .i64 0] 3)) 24 (.pointer (some ⟨g, 0, none⟩))
              rw [World.size_alloc] at bN bM
              rw [World.size_alloc] at bM
              have hst2 := HS.out.below hB0
              have hs3 : wr.heap.size + 3 = (((wr.alloc (.cells #[.string ⟨#[]⟩] 9)).alloc (.cells #[.int .i64 0] 3)).alloc (.cells #[.pointer (some ⟨g, 0, none⟩)] 24)).heap.size := by simp
              generalize ((wr.alloc (.cells #[.string ⟨#[]⟩] 9)).alloc (.cells #[.int .i64 0] 3)).alloc (.cells #[.pointer (some ⟨g, 0, none⟩)] 24) = W2 at hB0 bL bN bM hst2 hs3 ⊢
              have HST0 : Hid (w.heap.size ≤ W2.heap.size) := hst2.bel.size
              have HWR : Hid (w.heap.size ≤ wr.heap.size) := HS.out.bel.size
              refine range_upd updA (gf := 33) (lb := #[.pointer (some ⟨wr.heap.size + 1 + 1, 0, none⟩)]) rfl (enters_of Try.func33 (by kernel_rfl) rfl)
                (all1_tells wr W2 (wr.heap.size + 1 + 1) g L HS.out.map hB0 bM.cell (by omega)) Kp.t (Kp.b (by omega)) (Below.refl _ _) (fun _ => rfl)
                (fun pre W => Boxed W wr.heap.size 9 (.string (lastK pre)) ∧ Boxed W (wr.heap.size + 1) 3 (.int .i64 (pre.length : Int)) ∧ AllSt w w.heap.size (g + 1) g L W)
                (fun _ _ _ => False)
                (OwnFrom.and (Own.from (boxed_own wr.heap.size 9 (fun pre => .string (lastK pre))) _) (OwnFrom.and (Own.from (boxed_own (wr.heap.size + 1) 3 (fun pre : List KV => .int .i64 (pre.length : Int))) _) (AllSt.own (by have := hst2.bel.size; omega))))
                (fun _ _ _ _ _ hs _ _ => hs)
                ⟨bL, bN, hst2⟩ ?assign ?body ?done ?stop
              case assign =>
                intro l x W K hK
                simp only [encP]
                gi_wp2
                simpa [updA] using hK
              case body =>
                rintro l2 pre ⟨k, v⟩ W ⟨hbl, hbn, hst⟩ hpre
                simp only [updA, List.setIfInBounds_toArray, List.set_cons_succ, List.set_cons_zero]
                have h16 : Fence.wide.fn 16 := trivial
                have h18 : Fence.wide.fn 18 := trivial
                have hmem : (k, v) ∈ L := hpre.subset (by simp)
                have hr := hst.map.rises
                have CG := Lib.hid (get_any g L k W hst.map)
                rw [(lget_some hr).mpr hmem] at CG
                have CF : Hid (∀ W3, Below W.heap.size W W3 → Calls Try.prog 18 #[.pointer (some ⟨g, 0, none⟩), .string k] W3 fun e w' => e = .returned (fromV (some (k, v))) ∧ Below W3.heap.size W3 w') := fun W3 h => by
                  have := from_any g L k W3 (hst.map.below h)
                  rwa [from_own hr hmem] at this
                have CB : Hid (∀ W3, Below W.heap.size W W3 → Boxed W3 (g + 1) 24 (.pointer (some ⟨g, 0, none⟩)) ∧ Boxed W3 wr.heap.size 9 (.string (lastK pre)) ∧ Boxed W3 (wr.heap.size + 1) 3 (.int .i64 (pre.length : Int))) := fun W3 h =>
                  ⟨(h.block _ hst.box.lt).trans hst.box, (h.block _ hbl.lt).trans hbl, (h.block _ hbn.lt).trans hbn⟩
                have cb0 := hst.box.cell
                have hlp : pre.length ≤ 500 := by have := hpre.length_le; have := LK.out; simp at *; omega
                have HST := Lib.hid hst
                have hasc : pre = [] ∨ (pre ≠ [] ∧ lt (lastK pre) k = true) := by
                  by_cases hp : pre = []
                  · exact .inl hp
                  · exact .inr ⟨hp, lastK_lt hr hpre hp⟩
                have BT : Hid (∀ W4 W5, Below W.heap.size W W4 → W5 = ((W4.setCell ⟨wr.heap.size, 0, none⟩ (.string k)).setCell ⟨wr.heap.size + 1, 0, none⟩ (.int .i64 ((pre.length : Int) + 1))).drew →
                    KeepsFrom W2.heap.size W W5 ∧ Kp wr.heap.size W W5 ∧ Boxed W5 wr.heap.size 9 (.string (lastK (pre ++ [(k, v)]))) ∧ Boxed W5 (wr.heap.size + 1) 3 (.int .i64 ((pre ++ [(k, v)]).length : Int)) ∧ AllSt w w.heap.size (g + 1) g L W5) := by
                  rintro W4 W5 h4 rfl
                  have b9 : Boxed W4 wr.heap.size 9 (.string (lastK pre)) := (h4.block _ hbl.lt).trans hbl
                  have b3 : Boxed W4 (wr.heap.size + 1) 3 (.int .i64 (pre.length : Int)) := (h4.block _ hbn.lt).trans hbn
                  have b3' := Boxed.other (B' := wr.heap.size) b3 (by omega) (.string k)
                  have s4 := ((hst.below h4).set b9 HWR.out (by decide) (by decide) (by decide) (by decide) (.string k)).set b3' (Nat.le_trans HWR.out (Nat.le_succ _)) (by decide) (by decide) (by decide) (by decide) (.int .i64 ((pre.length : Int) + 1))
                  have hb5 : Below wr.heap.size W ((W4.setCell ⟨wr.heap.size, 0, none⟩ (.string k)).setCell ⟨wr.heap.size + 1, 0, none⟩ (.int .i64 ((pre.length : Int) + 1))) :=
                    ((h4.mono (Nat.le_of_lt hbl.lt)).setCell (p := ⟨wr.heap.size, 0, none⟩) (Nat.le_refl _) _).setCell (p := ⟨wr.heap.size + 1, 0, none⟩) (Nat.le_succ _) _
                  refine ⟨((keeps_below h4).trans (((KeepsOthers.setCell _ _ _).trans (KeepsOthers.setCell _ _ _)).from _)).trans ((KeepsOthers.drew _).from _), ⟨hb5.drew, ?_⟩, ?_, ?_, s4.drew⟩
                  · exact ((Keep.below h4).trans (keep_set b9 (by decide) _)).trans ((keep_set b3' (by decide) _).trans (Keep.below (Below.refl _ _).drew))
                  · rw [lastK_snoc]
                    exact Boxed.other (b9.set (.string k)) (by omega) _
                  · rw [show ((pre ++ [(k, v)]).length : Int) = (pre.length : Int) + 1 by simp]
                    exact b3'.set _
                obtain ⟨lk, hlk⟩ : ∃ lk, lastK pre = lk := ⟨_, rfl⟩
                obtain ⟨N, hN⟩ : ∃ N : Nat, pre.length = N := ⟨_, rfl⟩
                have hasc' : (¬ (0 : Int) < (N : Int)) ∨ ((0 : Int) < (N : Int) ∧ Op.bytesLess k.toList lk.toList = false ∧ (k.toList == lk.toList) = false) := by
                  rcases hasc with h | ⟨hp, hlt⟩
                  · left
                    rw [← hN, h]
                    simp
                  · rw [hlk] at hlt
                    exact .inr ⟨by have := List.length_pos_iff.mpr hp; omega, lt_asymm hlt, toList_ne (lt_ne hlt).symm⟩
                rw [hlk, hN] at CB
                rw [hN] at BT
                have hN0 : (0 : Int) ≤ (N : Int) := by omega
                have hN5 : (N : Int) ≤ 500 := by omega
                clear hst hbl hbn hr hmem hpre LK hlk hN hlp hasc HST
                rcases hasc' with hz | ⟨hpos, hA, hE⟩
                all_goals
                  gi_wp2_with fail
                  refine (CallsIn.inRound l2 (callsIn_wide.2 CG.out)).mono ?_
                  rintro e W3 ⟨rfl, b3⟩
                  simp only [getV]
                  have F3 := Lib.hid (CF.out _ b3)
                  obtain ⟨x1, x2, x3⟩ := CB.out _ b3
                  have cb1 := x1.cell
                  have B3 := Lib.hid b3
                  clear b3 x1 x2 x3 CG
                  gi_wp2_with fail
                  refine (CallsIn.inRound l2 (callsIn_wide.2 F3.out)).mono ?_
                  rintro e W4 ⟨rfl, b4⟩
                  simp only [fromV]
                  have B4 := Lib.hid (B3.out.trans (b4.mono B3.out.size))
                  obtain ⟨x1, x2, x3⟩ := CB.out _ B4.out
                  have cb4 := x1.cell
                  have cl4 := x2.cell
                  have fl4 := x2.frozen
                  have cn4 := x3.cell
                  have fn4 := x3.frozen
                  clear b4 x1 x2 x3 F3
                  gi_wp2
                  refine region_round rfl hmx (by kernel_rfl) ?_
                  refine wpAnyIn_take (i := 0) (v := (.string k)) rfl rfl (by kernel_rfl) (by kernel_rfl) (by kernel_rfl) (fun _ _ _ h => h) ⟨Or.inl ⟨by rfl, by intro w; go_simp⟩, fun _ => rfl⟩ ?_
                  refine wpAnyIn_ready (rs := [1, 3]) (by kernel_rfl) (by simp) ?_
                  refine AllReadyIn.cons rfl (fun K hK => ?_) ?_
                  · go_simp
                    refine hK _ _ ?_
                    clear hK K
                    refine wpAnyIn_take (i := 2) (v := (.int .i64 ((N : Int) + 1))) rfl rfl (by kernel_rfl) (by kernel_rfl) (by kernel_rfl) (fun _ _ _ h => h) ⟨Or.inl ⟨by rfl, by intro w; go_simp; exact IntWalk.i64_in _ (by omega)⟩, fun _ => rfl⟩ ?_
                    refine wpAnyIn_ready (rs := [3]) (by kernel_rfl) (by simp) ?_
                    refine AllReadyIn.cons rfl (fun K hK => ?_) AllReadyIn.nil
                    go_simp
                    refine hK _ _ ?_
                    clear hK K
                    refine wpAnyIn_ready (rs := [4]) (by kernel_rfl) (by simp) ?_
                    refine AllReadyIn.cons rfl (fun K hK => ?_) AllReadyIn.nil
                    go_simp
                    refine hK _ _ ?_
                    clear hK K
                    refine wpAnyIn_done (by kernel_rfl) ?_ _
                    gi_wp2
                    exact BT.out W4 _ B4.out rfl
                  refine AllReadyIn.cons rfl (fun K hK => ?_) AllReadyIn.nil
                  go_simp
                  refine hK _ _ ?_
                  clear hK K
                  refine wpAnyIn_ready (rs := [1]) (by kernel_rfl) (by simp) ?_
                  refine AllReadyIn.cons rfl (fun K hK => ?_) AllReadyIn.nil
                  go_simp
                  refine hK _ _ ?_
                  clear hK K
                  refine wpAnyIn_take (i := 2) (v := (.int .i64 ((N : Int) + 1))) rfl rfl (by kernel_rfl) (by kernel_rfl) (by kernel_rfl) (fun _ _ _ h => h) ⟨Or.inl ⟨by rfl, by intro w; go_simp; exact IntWalk.i64_in _ (by omega)⟩, fun _ => rfl⟩ ?_
                  refine wpAnyIn_ready (rs := [4]) (by kernel_rfl) (by simp) ?_
                  refine AllReadyIn.cons rfl (fun K hK => ?_) AllReadyIn.nil
                  go_simp
                  refine hK _ _ ?_
                  clear hK K
                  refine wpAnyIn_done (by kernel_rfl) ?_ _
                  gi_wp2
                  exact BT.out W4 _ B4.out rfl
              case done =>
                rintro D W hD ⟨hbl, hbn, hst⟩ hK
                have cn := hbn.cell
                have cb0 := hst.box.cell
                have cr := hst.res.cell
                have fr := hst.res.frozen
                have CL := Lib.hid (len_any g L W.drew (hst.map.below (Below.refl _ _).drew))
                have HBL := Lib.hid hst.bel
                clear hbl hbn hst
                gi_wp2
                refine Code.wpIn_mono np_le ?_
                gi_region_with_o ((try refine ⟨hdd _, ?_⟩); gi_at_call 20; (with_reducible refine (callsIn_wide.2 CL.out).mono ?_); rintro e w3 ⟨rfl, rfl⟩)
                all_goals
                  simp only [NoPanic]
                  gi_wp2
                  have hK' : (W.setCell ⟨w.heap.size, 0, none⟩ (.bool true)).drew.heap[D]? = some (.deferred (some [])) := (KeepsOthers.setCell W ⟨w.heap.size, 0, none⟩ (.bool true)).same D _ hK rfl
                  refine ⟨by simp, .inl ⟨_, _, rfl, run_takeDeferred hK', ?_⟩⟩
                  have hc5 := cell_kept (W := (W.setCell ⟨w.heap.size, 0, none⟩ (.bool true)).drew) (World.cell?_setCell_same' W ⟨w.heap.size, 0, none⟩ (.bool true) (by rw [cr]; rfl)) (grownBy_putObj' _ D (.deferred none)) (fun r e => by cases e; exact ⟨_, hK', rfl⟩)
                  refine ⟨.bool true, ?_, rfl, ((HBL.out.setCell (p := ⟨w.heap.size, 0, none⟩) (Nat.le_refl _) _).drew).trans (below_put _ hK' (by have := HST0.out; omega))⟩
                  simp [results, Try.f4, go_sem, hc5]
              case stop =>
                rintro D c pre W _ _ h _
                exact h.elim
end Go.Proofs.Ytpapbboihjhmiaa
