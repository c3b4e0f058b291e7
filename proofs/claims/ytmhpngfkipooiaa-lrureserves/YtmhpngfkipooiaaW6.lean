/-
  The contracts of makeWay, Put, Reserve. Their conditions: the cache lies in memory, and has no more things than a bound.
-/
import Derived.Test.YtmhpngfkipooiaaW5
namespace Go.Proofs.Ytmhpngfkipooiaa
open Go.RowKit Go.Maps

/-- Can way be made for n bytes? -/
def wayOk (room kept n : Int) : Bool := decide (0 ≤ n ∧ n ≤ room - kept)
/-- What stays, and what goes. -/
def wL (room kept n : Int) (L : List Th) : List Th := if wayOk room kept n then L.take (way (room - kept - n) L) else L
def wG (room kept n : Int) (L : List Th) : List ByteArray := if wayOk room kept n then gone L (way (room - kept - n) L) else []
theorem Fr.late {l : List Nat} {base : Nat} {w a b : World} (h : Fr l base w a) (hb : Below w.heap.size a b) (hs : base ≤ w.heap.size) : Fr l base w b :=
  ⟨h.below.trans (hb.mono hs), fun i o hi ho => by
    rw [hb.block i (Array.getElem?_eq_some_iff.mp hi).1]
    exact h.keep i o hi ho⟩
theorem Core.last {w : World} {base g e B : Nat} {A : List Nd} {x : Nd} {nw ol : Nat → Nat} {sz room kept : Int} (h : Core w base g e B (A ++ x :: []) nw ol sz room kept) : nw e = x.1 := by
  have hs := h.sg
  rw [List.map_append, List.map_cons] at hs
  exact (seg_append.mp hs).2.2
def WayPost (w : World) (base g : Nat) (L : List Th) (room kept : Int) (ok : Bool) (l : List ByteArray) (r : Ending) (w' : World) : Prop :=
  ∃ v, r = .returned (.tuple #[v, .bool ok]) ∧ Row w' w.heap.size v l ∧ CacheAt w' base g L room kept ∧ Fr cK base w w'
def WayRel (w : World) (base g : Nat) (L : List Th) (room kept b : Int) (s6 : Value) (wr : World) : Prop :=
  ∃ (j : Nat) (A : Option Addr) (c : Nat), j ≤ L.length ∧ s6 = .slice A (L.length - j) c ∧ wayN b L j = way b L ∧ Row wr w.heap.size s6 (gone L j) ∧ CacheAt wr base g (L.take j) room kept ∧ Fr cK base w wr
theorem gone_len (L : List Th) (j : Nat) : (gone L j).length = L.length - j := by simp [gone, keys]
theorem gone_step {L : List Th} {j : Nat} (h : j < L.length) : gone L j = gone L (j + 1) ++ [L[j].k] := by
  unfold gone
  rw [List.drop_eq_getElem_cons h]
  simp only [keys, List.map_cons, List.reverse_cons]
theorem below_drewN (w : World) (n : Nat) : Below w.heap.size w (w.drewN n) := ⟨rfl, rfl, rfl, Nat.le_refl _, fun _ _ => rfl⟩
theorem gone_none (L : List Th) : gone L L.length = [] := by simp [gone, keys]
theorem length_way (L : List Th) (j : Nat) : (L.take j).length ≤ L.length := by simp; omega

set_option maxHeartbeats 2000000 in
theorem makeway_any (base g : Nat) (L : List Th) (room kept n : Int) (w : World) (h : CacheAt w base g L room kept) (hbs : base ≤ w.heap.size) (hl : L.length ≤ 100000) :
    Calls Try.prog 30 #[.pointer (some ⟨g, 0, none⟩), .int .i64 n] w (WayPost w base g (wL room kept n L) room kept (wayOk room kept n) (wG room kept n L)) := by
  have h0 := h.good.kept0
  have h1 := h.good.fits
  have h2 := h.good.top
  have h3 := h.good.tot0
  obtain ⟨e, B, hb⟩ := h.box
  have c3 := hb.c3
  have c4 := hb.c4
  have H := Lib.hid h
  have hwk : IntKind.i64.wrap (room - kept) = room - kept := IntWalk.i64_in _ (by omega)
  by_cases hn : n < 0
  · have e1 : wayOk room kept n = false := by simp [wayOk]; omega
    have HW : Hid (∀ w', Below w.heap.size w w' → WayPost w base g (wL room kept n L) room kept false (wG room kept n L) (.returned (.tuple #[.slice none 0 0, .bool false])) w') := fun w' hb' => by
      simp only [wL, wG, e1]
      exact ⟨_, rfl, Row.nil _ _, H.out.below hb', Fr.of_below hb' hbs⟩
    rw [e1]
    clear h h0 h1 h2 h3 hb hl e1 hbs
    go_enter Try.func30, Try.ntmps30
    go_wp2_with fail
    go_quiet (fail)
    go_wp2
    go_ret2
    exact HW.out _ (below_drewN _ _)
  · by_cases hm : n > room - kept
    · have e1 : wayOk room kept n = false := by simp [wayOk]; omega
      have HW : Hid (∀ w', Below w.heap.size w w' → WayPost w base g (wL room kept n L) room kept false (wG room kept n L) (.returned (.tuple #[.slice none 0 0, .bool false])) w') := fun w' hb' => by
        simp only [wL, wG, e1]
        exact ⟨_, rfl, Row.nil _ _, H.out.below hb', Fr.of_below hb' hbs⟩
      rw [e1]
      clear h h0 h1 h2 h3 hb hl e1 hbs
      go_enter Try.func30, Try.ntmps30
      go_wp2_with fail
      go_quiet (fail)
      go_wp2
      go_ret2
      exact HW.out _ (below_drewN _ _)
    · have e1 : wayOk room kept n = true := by simp [wayOk]; omega
      have hwn : IntKind.i64.wrap (room - n) = room - n := IntWalk.i64_in _ (by omega)
      obtain ⟨b, hbd⟩ : ∃ b, b = room - kept - n := ⟨_, rfl⟩
      simp only [wL, wG, e1, if_true, ← hbd]
      have HB0 : Hid (0 ≤ b) := by show 0 ≤ b; omega
      have HBD := Lib.hid hbd
      have HS := Lib.hid hbs
      have HLL := Lib.hid hl
      have H0 := Lib.hid h0
      have H2 := Lib.hid h2
      clear h h0 h1 h2 h3 hb hl e1 hbs hbd
      go_enter Try.func30, Try.ntmps30
      go_wp2_with fail
      go_quiet (fail)
      go_wp2
      go_loopw [6] (WayRel w base g L room kept b) (fun s _ => L.length - lenOf s)
      case atStart =>
        refine ⟨L.length, none, 0, Nat.le_refl _, by simp, rfl, ?_, by rw [List.take_length]; exact H.out.below (below_drewN _ _), Fr.of_below (below_drewN _ _) HS.out⟩
        rw [gone_none]
        exact Row.nil _ _
      case round =>
        obtain ⟨j, A, c, hj, rfl, hwj, ho, hc, hf⟩ := hrel
        have hg := hc.good
        have CU : Hid (∀ W, W = wr.drew → Calls Try.prog 24 #[.pointer (some ⟨g, 0, none⟩)] W fun r w' => r = .returned (.int .i64 (tot (L.take j) + kept)) ∧ w' = W.drew) :=
          fun W hW => used_any base g (L.take j) room kept W (by rw [hW]; exact hc.below (Below.refl _ _).drew)
        obtain ⟨e', B', hb'⟩ := hc.box
        have d3 := hb'.c3
        have HW := Lib.hid hwj
        have HO := Lib.hid ho
        have HC := Lib.hid hc
        have HF := Lib.hid hf
        have HJ := Lib.hid hj
        by_cases hgt : tot (L.take j) ≤ b
        · have hwy : wayN b L j = j := wayN_here hgt
          have hcmp : ¬ tot (L.take j) + kept > room - n := by have := HBD.out; omega
          rw [hwj] at hwy
          have HEQ := Lib.hid hwy
          generalize tot (L.take j) + kept = us at CU hcmp
          clear hg hb' hwj ho hc hf hj hgt hwy
          go_wp2_with fail
          go_region_held3 (fun w' => w'.cell? ⟨g, 3, none⟩ = some (.int .i64 room)) (first | go_keep | assumption)
            (first | (go_at_call 24; (with_reducible refine (CU.out _ ?hh).mono ?_); (case hh => exact rfl); rintro r w2 ⟨rfl, rfl⟩))
          go_wp2
          go_ret2
          refine ⟨_, rfl, ?_, ?_, HF.out.drew.drew⟩
          · rw [HEQ.out]
            exact (HO.out.below (Below.refl _ _).drew.drew)
          · rw [HEQ.out]
            exact HC.out.below (Below.refl _ _).drew.drew
        · have hj0 : 0 < j := by
            cases j with
            | zero => exact absurd HB0.out (by simpa [tot] using hgt)
            | succ j => omega
          obtain ⟨i, rfl⟩ : ∃ i, j = i + 1 := ⟨j - 1, by omega⟩
          have hwi := wayN_on hgt
          have hi : i < L.length := by omega
          have hcmp : tot (L.take (i + 1)) + kept > room - n := by have := HBD.out; omega
          have htk : L.take (i + 1) = L.take i ++ [L[i]] := List.take_succ_eq_append_getElem hi
          have HTT : Hid (tot (L.take (i + 1)) = tot (L.take i) + L[i].s) := by
            show _ = _
            rw [htk, tot_append]
            simp [tot]
          have HG := Lib.hid (hg.sub (M := L.take i) (by rw [htk]; exact List.sublist_append_left _ _))
          obtain ⟨e2, B2, N, nw, ol, hcore, hNL, _⟩ := hc
          rw [htk] at hNL
          obtain ⟨P, X, rfl, hP, hX⟩ := List.map_eq_append_iff.mp hNL
          obtain ⟨x, rfl, hx⟩ : ∃ x, X = [x] ∧ x.2 = L[i] := by
            obtain ⟨x, X', rfl, h1, h2⟩ := List.map_eq_cons_iff.mp hX
            exact ⟨x, by rw [List.map_eq_nil_iff.mp h2], h1⟩
          have hcW : Core wr.drew.drew base g e2 B2 (P ++ x :: []) nw ol (tot (L.take (i + 1))) room kept := hcore.keep (l := []) (base' := 0) (Fr.refl _ _ _).drew.drew (by simp)
          have hlast := hcW.last
          have hle := hcW.ln (e2, th0) (by simp)
          simp only [hlast] at hle
          have CL := Lib.hid (last_any g e2 x.1 th0 wr.drew.drew hcW.box.c0 hle)
          have t1 := HTT.out
          have t2 := HG.out.tot0
          have t3 := HG.out.fits
          have t4 := HG.out.kept0
          have t5 := HG.out.top
          have hxs : x.2.s = L[i].s := by rw [hx]
          have CR := Lib.hid (remove_any base g e2 B2 P [] x nw ol _ room kept wr.drew.drew hcW (by omega) (by omega))
          have HX : Hid (gone L i = gone L (i + 1) ++ [x.2.k]) := by show _ = _; rw [gone_step hi, hx]
          have HP : Hid (∀ w' nw' ol', Core w' base g e2 B2 (P ++ []) nw' ol' (tot (L.take (i + 1)) - x.2.s) room kept → CacheAt w' base g (L.take i) room kept) := fun w' nw' ol' hc' =>
            ⟨e2, B2, P ++ [], nw', ol', by rw [show tot (L.take i) = tot (L.take (i + 1)) - x.2.s by omega]; exact hc', by rw [List.append_nil]; exact hP, HG.out⟩
          have HI := Lib.hid hi
          have HWI : Hid (wayN b L i = way b L) := by show _ = _; rw [← hwi]; exact hwj
          obtain ⟨m, hm'⟩ : ∃ m, m = L.length - (i + 1) := ⟨_, rfl⟩
          rw [← hm'] at HO ho ⊢
          have HM := Lib.hid hm'
          generalize tot (L.take (i + 1)) + kept = us at CU hcmp
          clear hg hb' hwj ho hcore hf hj hgt hwi htk hNL hP hX hx hcW hlast hle t1 t2 t3 t4 t5 hxs hi hj0 HTT hm'
          go_wp2_with fail
          go_region_held3 (fun w' => w'.cell? ⟨g, 3, none⟩ = some (.int .i64 room)) (first | go_keep | assumption)
            (first | (go_at_call 24; (with_reducible refine (CU.out _ ?hh).mono ?_); (case hh => exact rfl); rintro r w2 ⟨rfl, rfl⟩))
          go_wp2_with fail
          refine CL.out.mono ?_
          rintro r w2 ⟨rfl, rfl⟩
          go_wp2_with fail
          refine CR.out.mono ?_
          rintro r w3 ⟨rfl, ⟨nw', ol', hc3⟩, ⟨p, q, hx3⟩, f3⟩
          have hca := HP.out _ _ _ hc3
          have o3 : Row w3 w.heap.size (.slice A m c) (gone L (i + 1)) := HO.out.fr ((Fr.refl cK base wr).drew.drew.trans f3) (by simp [cK])
          have hs3 : w.heap.size ≤ w3.heap.size := Nat.le_trans HF.out.size f3.size
          have hml : (gone L (i + 1)).length = m := by rw [gone_len, HM.out]
          obtain ⟨A', c', w4, hr4, o4, f4⟩ := o3.append (x.2.k) hs3 (by rw [hml]; have := HM.out; have := HLL.out; omega)
          rw [hml] at hr4 o4
          have e0 := hx3.c0
          have O4 : Hid (Row w4 w.heap.size (.slice A' (m + 1) c') (gone L i)) := by
            show Row _ _ _ _
            rw [HX.out]
            exact o4
          have C4 := Lib.hid (hca.keep f4 (by simp [cK]))
          have F4 := Lib.hid ((HF.out.drew.drew.trans f3).late f4.below HS.out)
          have R4 := Lib.hid hr4
          generalize x.2.k = kk at e0 R4
          clear hca o3 hs3 hml o4 f4 hr4 hc3 hx3 f3
          go_wp2_with (at_builtin; refine wpList_append_run rfl _ _ 32 32 rfl _ _ rfl rfl _ w4 R4.out ?_)
          have hm1 : m + 1 = L.length - i := by have := HM.out; have := HI.out; omega
          go_roundw
          case rel => exact ⟨i, A', c', by have := HI.out; omega, by rw [hm1], HWI.out, O4.out, C4.out, F4.out⟩
          case measure => simp [lenOf]; have := HM.out; have := HI.out; omega
theorem wayOk_iff {room kept n : Int} : wayOk room kept n = true ↔ 0 ≤ n ∧ n ≤ room - kept := by simp [wayOk]
theorem Good.wl {L : List Th} {room kept : Int} (h : Good L room kept) (n : Int) : Good (wL room kept n L) room kept := by
  unfold wL
  split
  · exact h.sub (List.take_sublist _ _)
  · exact h
theorem wl_len (room kept n : Int) (L : List Th) : (wL room kept n L).length ≤ L.length := by
  unfold wL
  split
  · exact length_way _ _
  · exact Nat.le_refl _
theorem wl_fit {L : List Th} {room kept n : Int} (h : wayOk room kept n = true) : tot (wL room kept n L) ≤ room - kept - n := by
  obtain ⟨h1, h2⟩ := wayOk_iff.mp h
  simp only [wL, h, if_true]
  exact way_fit (by omega) L
theorem wl_sub (room kept n : Int) (L : List Th) : (wL room kept n L).Sublist L := by
  unfold wL
  split
  · exact List.take_sublist _ _
  · exact List.Sublist.refl _

/-- What Put leaves. -/
def putL (room kept : Int) (L : List Th) (t : Th) : List Th := if wayOk room kept t.s then t :: wL room kept t.s (drp L t.k) else drp L t.k
theorem putL_len (room kept : Int) (L : List Th) (t : Th) : (putL room kept L t).length ≤ L.length + 1 := by
  have h1 := wl_len room kept t.s (drp L t.k)
  have h2 : (drp L t.k).length ≤ L.length := List.length_filter_le _ _
  unfold putL
  split
  · simp; omega
  · omega
theorem Good.putL {L : List Th} {room kept : Int} (h : Good L room kept) (t : Th) : Good (putL room kept L t) room kept := by
  unfold Ytmhpngfkipooiaa.putL
  have hd := h.sub (drp_sub L t.k)
  split
  · rename_i hok
    have hf := wl_fit (L := drp L t.k) hok
    have hw := hd.wl t.s
    exact hw.put (fun hx => not_in_drp L t.k ((keys_sub (wl_sub room kept t.s (drp L t.k))).subset hx)) (wayOk_iff.mp hok).1 (by omega)
  · exact hd
set_option maxHeartbeats 2000000 in
theorem put_any (base g : Nat) (L : List Th) (room kept : Int) (t : Th) (w : World) (h : CacheAt w base g L room kept) (hbs : base ≤ w.heap.size) (hl : L.length ≤ 99999) (hk : t.k.size ≤ maxLen) :
    Calls Try.prog 11 #[.pointer (some ⟨g, 0, none⟩), .string t.k, .int .i64 t.s, .int .i64 t.n] w (WayPost w base g (putL room kept L t) room kept (wayOk room kept t.s) (wG room kept t.s (drp L t.k))) := by
  have C1 := Lib.hid (drop_any base g L room kept t.k w h hk)
  have hdl : (drp L t.k).length ≤ L.length := List.length_filter_le _ _
  have C2 : Hid (∀ w1, CacheAt w1 base g (drp L t.k) room kept → base ≤ w1.heap.size → Calls Try.prog 30 #[.pointer (some ⟨g, 0, none⟩), .int .i64 t.s] w1 (WayPost w1 base g (wL room kept t.s (drp L t.k)) room kept (wayOk room kept t.s) (wG room kept t.s (drp L t.k)))) :=
    fun w1 h1 h2 => makeway_any base g _ room kept t.s w1 h1 h2 (by omega)
  have HB := Lib.hid hbs
  cases hok : wayOk room kept t.s with
  | false =>
    have e1 : putL room kept L t = drp L t.k := by simp [putL, hok]
    have e2 : wL room kept t.s (drp L t.k) = drp L t.k := by simp [wL, hok]
    rw [hok, e2] at C2
    rw [e1]
    clear e1 e2 hok h hbs hl hk hdl
    go_enter Try.func11, Try.ntmps11
    go_wp2_with fail
    refine C1.out.mono ?_
    rintro r w1 ⟨rfl, c1, f1⟩
    have C3 := Lib.hid (C2.out w1 c1 (Nat.le_trans HB.out f1.size))
    have F1 := Lib.hid f1
    clear c1 f1 C1 C2
    go_wp2_with fail
    refine C3.out.mono ?_
    rintro r w2 ⟨v, rfl, o2, c2, f2⟩
    have O2 := Lib.hid o2
    have C2 := Lib.hid c2
    have F2 := Lib.hid f2
    clear o2 c2 f2
    go_wp2
    go_ret2
    exact ⟨_, rfl, O2.out.down F1.out.size, C2.out, F1.out.trans F2.out⟩
  | true =>
    have e1 : putL room kept L t = t :: wL room kept t.s (drp L t.k) := by simp [putL, hok]
    have hgp := h.good.putL t
    rw [e1] at hgp
    have hwl := wl_len room kept t.s (drp L t.k)
    have hnk : t.k ∉ keys (wL room kept t.s (drp L t.k)) := fun hx => not_in_drp L t.k ((keys_sub (wl_sub room kept t.s (drp L t.k))).subset hx)
    rw [hok] at C2
    rw [e1]
    generalize wL room kept t.s (drp L t.k) = M at C2 hgp hwl hnk
    have CA : Hid (∀ w2, CacheAt w2 base g M room kept → base ≤ w2.heap.size → Calls Try.prog 31 #[.pointer (some ⟨g, 0, none⟩), .string t.k, .int .i64 t.s, .int .i64 t.n] w2 (fun r w3 => r = .returned (.tuple #[]) ∧ CacheAt w3 base g (t :: M) room kept ∧ Fr cK base w2 w3)) := by
      rintro w2 ⟨e, B, N, nw, ol, hc, rfl, hg⟩ hb2
      have q1 := hgp.fits
      have q2 := hgp.kept0
      have q3 := hgp.top
      have q4 := hg.tot0
      have q5 := hgp.pos t (by simp)
      simp only [tot] at q1
      refine (add_any base g e B N t nw ol _ room kept w2 hc hb2 hk hnk (by simp at hwl; omega) (by omega) (by omega)).mono ?_
      rintro r w3 ⟨rfl, ⟨b, nw', ol', hc'⟩, f3⟩
      refine ⟨rfl, ⟨e, B, (b, t) :: N, nw', ol', ?_, rfl, hgp⟩, f3⟩
      rw [show tot (t :: N.map (·.2)) = tot (N.map (·.2)) + t.s by simp only [tot]; omega]
      exact hc'
    clear e1 hok h hbs hl hk hdl hgp hwl hnk
    go_enter Try.func11, Try.ntmps11
    go_wp2_with fail
    refine C1.out.mono ?_
    rintro r w1 ⟨rfl, c1, f1⟩
    have C3 := Lib.hid (C2.out w1 c1 (Nat.le_trans HB.out f1.size))
    have F1 := Lib.hid f1
    clear c1 f1 C1 C2
    go_wp2_with fail
    refine C3.out.mono ?_
    rintro r w2 ⟨v, rfl, o2, c2, f2⟩
    have O2 := Lib.hid o2
    have F2 := Lib.hid f2
    have C4 := Lib.hid (CA.out w2 c2 (Nat.le_trans HB.out (Nat.le_trans F1.out.size f2.size)))
    clear o2 c2 f2 C3 CA
    go_wp2_with fail
    refine C4.out.mono ?_
    rintro r w3 ⟨rfl, c3, f3⟩
    have C5 := Lib.hid c3
    have F3 := Lib.hid f3
    clear c3 f3 C4
    go_wp2
    go_ret2
    exact ⟨_, rfl, (O2.out.down F1.out.size).fr F3.out (by simp [cK]), C5.out, (F1.out.trans F2.out).trans F3.out⟩
/-- What is reserved behind Reserve. -/
def resK (room kept n : Int) : Int := if wayOk room kept n then kept + n else kept
set_option maxHeartbeats 2000000 in
theorem reserve_any (base g : Nat) (L : List Th) (room kept n : Int) (w : World) (h : CacheAt w base g L room kept) (hbs : base ≤ w.heap.size) (hl : L.length ≤ 100000) :
    Calls Try.prog 19 #[.pointer (some ⟨g, 0, none⟩), .int .i64 n] w (WayPost w base g (wL room kept n L) room (resK room kept n) (wayOk room kept n) (wG room kept n L)) := by
  have C1 := Lib.hid (makeway_any base g L room kept n w h hbs hl)
  cases hok : wayOk room kept n with
  | false =>
    have e1 : resK room kept n = kept := by simp [resK, hok]
    rw [hok] at C1
    rw [e1]
    clear e1 hok h hbs hl
    go_enter Try.func19, Try.ntmps19
    go_wp2_with fail
    refine C1.out.mono ?_
    rintro r w2 ⟨v, rfl, o2, c2, f2⟩
    have O2 := Lib.hid o2
    have C2 := Lib.hid c2
    have F2 := Lib.hid f2
    clear o2 c2 f2
    go_wp2
    go_ret2
    exact ⟨_, rfl, O2.out, C2.out, F2.out⟩
  | true =>
    have e1 : resK room kept n = kept + n := by simp [resK, hok]
    have hft := wl_fit (L := L) hok
    obtain ⟨n0, n1⟩ := wayOk_iff.mp hok
    have q1 := h.good.kept0
    have q2 := h.good.top
    have hw : IntKind.i64.wrap (kept + n) = kept + n := IntWalk.i64_in _ (by have := h.good.fits; have := h.good.tot0; omega)
    rw [hok] at C1
    rw [e1]
    have HO : Hid (∀ w2, CacheAt w2 base g (wL room kept n L) room kept → CacheAt (w2.setCell ⟨g, 4, none⟩ (.int .i64 (kept + n))) base g (wL room kept n L) room (kept + n) ∧ Fr cK base w2 (w2.setCell ⟨g, 4, none⟩ (.int .i64 (kept + n)))) :=
      fun w2 h2 => h2.kept (by omega) (by omega)
    clear e1 hok h hbs hl hft n0 n1 q1 q2
    go_enter Try.func19, Try.ntmps19
    go_wp2_with fail
    refine C1.out.mono ?_
    rintro r w2 ⟨v, rfl, o2, c2, f2⟩
    obtain ⟨e, B, hb⟩ := c2.box
    have d4 := hb.c4
    have f4 := hb.frozen 4
    have O2 := Lib.hid o2
    have C2 := Lib.hid (HO.out _ c2)
    have F2 := Lib.hid f2
    clear o2 c2 f2 hb
    go_wp2
    go_ret2
    exact ⟨_, rfl, O2.out.fr C2.out.2 (by simp [cK]), C2.out.1, F2.out.trans C2.out.2⟩
theorem makeway_nil (n : Int) (w : World) : Calls Try.prog 30 #[.pointer none, .int .i64 n] w fun r w' => r = .returned (.tuple #[.slice none 0 0, .bool false]) ∧ Below w.heap.size w w' := by
  go_enter Try.func30, Try.ntmps30
  go_wp2_with fail
  go_quiet (fail)
  go_wp2
  go_ret2
  exact ⟨rfl, below_drewN _ _⟩
theorem put_nil (k : ByteArray) (s n : Int) (w : World) : Calls Try.prog 11 #[.pointer none, .string k, .int .i64 s, .int .i64 n] w fun r w' => r = .returned (.tuple #[.slice none 0 0, .bool false]) ∧ Below w.heap.size w w' := by
  go_enter Try.func11, Try.ntmps11
  go_wp2_with fail
  refine (drop_nil k w).mono ?_
  rintro r w1 ⟨rfl, rfl⟩
  go_wp2_with fail
  refine (makeway_nil s w).mono ?_
  rintro r w1 ⟨rfl, b1⟩
  have B1 := Lib.hid b1
  clear b1
  go_wp2
  go_ret2
  exact ⟨rfl, B1.out⟩
theorem reserve_nil (n : Int) (w : World) : Calls Try.prog 19 #[.pointer none, .int .i64 n] w fun r w' => r = .returned (.tuple #[.slice none 0 0, .bool false]) ∧ Below w.heap.size w w' := by
  go_enter Try.func19, Try.ntmps19
  go_wp2_with fail
  refine (makeway_nil n w).mono ?_
  rintro r w1 ⟨rfl, b1⟩
  have B1 := Lib.hid b1
  clear b1
  go_wp2
  go_ret2
  exact ⟨rfl, B1.out⟩
end Go.Proofs.Ytmhpngfkipooiaa
