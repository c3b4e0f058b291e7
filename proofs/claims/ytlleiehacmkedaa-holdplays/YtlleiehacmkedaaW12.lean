/-
  The contract of the document's Note. Its conditions: the table lies in memory, its tombstones rise.
-/
import Derived.Test.YtlleiehacmkedaaW11
import Derived.Deep.CutBlock
namespace Go.Proofs.Ytlleiehacmkedaa
open Go.RowKit Go.Maps Go.ChangeMaps
open Go.Sort (grow)

/-- What Note makes where the key is new. -/
structure NoteUp (w : World) (base h : Nat) (L' : List Tm) (floor limit : Int) (t : Tm) (A A' : Option Addr) (n j c m c' : Nat) (w1 w2 w3 : World) (v1 v2 : Value) (B3 : Option Addr) (l3 c3 : Nat) : Prop where
  r1 : (Builtin.append_ #[27, 27] 27 #[.slice (some ⟨w.heap.size, 0, none⟩) 0 0, .slice A j c]).run Try.prog (w.alloc (.cells #[] 50)) = .ok v1 w1
  r2 : (Builtin.append_ #[27, 27] 27 #[v1, .slice (some ⟨w1.heap.size, 0, none⟩) 1 1]).run Try.prog (w1.alloc (.cells #[.string t.k, .int .i64 t.n] 50)) = .ok v2 w2
  r3 : (Builtin.append_ #[27, 27] 27 #[v2, .slice A' m c']).run Try.prog w2 = .ok (.slice B3 l3 c3) w3
  d0 : (w.alloc (.cells #[] 50)).cell? ⟨h, 0, none⟩ = some (.slice A n c)
  d2 : w2.cell? ⟨h, 0, none⟩ = some (.slice A n c)
  d3 : w3.cell? ⟨h, 0, none⟩ = some (.slice A n c)
  f3 : w3.frozen? ⟨h, 0, none⟩ = false
  out : RefAt (w3.setCell ⟨h, 0, none⟩ (.slice B3 l3 c3)) base h L' floor limit ∧ Fr rK [] base w (w3.setCell ⟨h, 0, none⟩ (.slice B3 l3 c3))
theorem note_up {base h : Nat} {L : List Tm} {floor limit : Int} {t : Tm} {w : World} {A A' : Option Addr} {n j c c' m : Nat} (hr : RefAt w base h L floor limit) (hbs : base ≤ w.heap.size) (hl : n < 100000) (hbox : RBox w h (.slice A n c) floor limit) (hp : Sl eTm w A L) (hA : A = none → c = 0) (hn : L.length = n) (hj : j ≤ n)
    (hp' : Sl eTm w A' (L.drop j)) (hA' : A' = none → c' = 0) (hm : n - j = m) : ∃ w1 w2 w3 v1 v2 B3 l3 c3, NoteUp w base h (L.take j ++ t :: L.drop j) floor limit t A A' n j c m c' w1 w2 w3 v1 v2 B3 l3 c3 := by
  have b0 : Below w.heap.size w (w.alloc (.cells #[] 50)) := (Below.refl _ _).alloc (Nat.le_refl _) _
  obtain ⟨v1, w1, r1, o1, b1⟩ := RowT.grow el27 (w := w) rfl (RowT.empty (E := eTm) w) b0 (n := j) (c := c) ((hp.take j).below (Nat.le_refl _) b0) (by rw [List.length_take]; omega) hA (by simp; omega)
  have b1' : Below w.heap.size w (w1.alloc (.cells #[.string t.k, .int .i64 t.n] 50)) := b1.alloc b1.size _
  obtain ⟨v2, w2, r2, o2, b2⟩ := RowT.grow el27 (w := w) rfl (o1.below ((Below.refl _ _).alloc (Nat.le_refl _) (.cells #[.string t.k, .int .i64 t.n] 50))) b1' (n := 1) (c := 1) (sl_one (E := eTm) w1 t 50) rfl (by simp) (by simp; omega)
  obtain ⟨v3, w3, r3, o3, b3⟩ := RowT.grow el27 (w := w) rfl o2 b2 (n := m) (c := c') (hp'.below (Nat.le_refl _) b2) (by rw [List.length_drop]; omega) hA' (by simp; omega)
  simp only [List.nil_append, List.append_assoc, List.cons_append] at o3
  obtain ⟨B3, c3, rfl, _⟩ := o3.form
  have hlt := hbox.lt
  exact ⟨w1, w2, w3, v1, v2, B3, _, c3, r1, r2, r3, (b0.cell (p := ⟨h, 0, none⟩) hlt).trans hbox.c0, (b2.cell (p := ⟨h, 0, none⟩) hlt).trans hbox.c0, (b3.cell (p := ⟨h, 0, none⟩) hlt).trans hbox.c0, RBox.frozen (hbox.below b3) 0,
    ref_store hr hbs b3 o3 (by simp; omega)⟩
theorem RefAt.spot {w : World} {base h : Nat} {L : List Tm} {floor limit : Int} (r : RefAt w base h L floor limit) {A : Option Addr} {n c : Nat} (hb : RBox w h (.slice A n c) floor limit) {ad : Addr} (hA : A = some ad) : ∃ g off, ad = ⟨g, off, none⟩ := by
  obtain ⟨_, _, v, h3, h4⟩ := r
  unfold RBox at h3 hb
  rw [hb] at h3
  simp at h3
  subst h3
  rcases h4.2 with ⟨e, _⟩ | ⟨g, cap, cur, e, _⟩
  · cases e
    cases hA
  · cases e
    cases hA
    exact ⟨g, 0, rfl⟩
def RnRel (L : List Tm) (key : ByteArray) (w : World) (s6 : Value) (wr : World) : Prop := ∃ k : Nat, k ≤ L.length ∧ s6 = .int .i64 (k : Int) ∧ (∀ x ∈ L.take k, lt x.k key = true) ∧ wr = w
def RnCut (L : List Tm) (key : ByteArray) (w : World) (s6 : Value) (wc : World) : Prop := ∃ k : Nat, s6 = .int .i64 (k : Int) ∧ Plc L key k ∧ w = wc
set_option maxRecDepth 100000 in
set_option maxHeartbeats 8000000 in
theorem refnote_any (base h : Nat) (L : List Tm) (floor limit : Int) (key : ByteArray) (x : Int) (w : World) (hr : RefAt w base h L floor limit) (hbs : base ≤ w.heap.size) (hrs : Rises L) (hl : L.length < 100000) :
    Calls Try.prog 11 #[.pointer (some ⟨h, 0, none⟩), .string key, .int .i64 x] w (RefPost w base h (noteL L key x limit) (noteF L floor key x limit) limit (.tuple #[])) := by
  obtain ⟨n, hn⟩ : ∃ n, n = L.length := ⟨_, rfl⟩
  obtain ⟨A, c, hbox, hrow, htg, hnc, hA, _⟩ := hr.parts
  rw [← hn] at hbox hrow hnc
  have c0 := hbox.c0
  have c1 := hbox.c1
  have c2 := hbox.c2
  have HBX := Lib.hid hbox
  have HROW := Lib.hid hrow
  have HTG := Lib.hid htg
  have HNC : Hid (n ≤ c ∧ (A = none → c = 0)) := ⟨hnc, hA⟩
  have HN := Lib.hid hn
  have HR := Lib.hid hr
  have HS := Lib.hid hbs
  have HRS := Lib.hid hrs
  have hn2 : (n : Int) < 100000 := by omega
  clear hn hr hbs hrs hl hbox hrow htg hnc hA
  by_cases hx1 : x < 1
  · have HE : Hid (RefPost w base h (noteL L key x limit) (noteF L floor key x limit) limit (.tuple #[]) (.returned (.tuple #[])) w) := by
      show RefPost _ _ _ _ _ _ _ _ _
      simp only [noteL, noteF, hx1, if_true]
      exact ⟨rfl, HR.out, Fr.refl _ _ _ _⟩
    go_enter Try.func11, Try.ntmps11
    go_wp2
    refine bodyPost_ret (results_none rfl _ _ _) rfl ?_
    exact HE.out
  · have HX1 : Hid (¬ x < 1) := hx1
    go_enter Try.func11, Try.ntmps11
    go_upto_block 0 with fail
    go_cut [6] from 10 to 30 (RnCut L key w)
    case first =>
      go_wp2
      go_loopw [6] (RnRel L key w) (fun i _ => n - (intOf i).toNat)
      case atStart => exact ⟨0, Nat.zero_le _, rfl, by simp, rfl⟩
      case round =>
        obtain ⟨k, hk, rfl, hah, rfl⟩ := hrel
        have HAH := Lib.hid hah
        clear hah
        by_cases hkn : k < n
        · have hkl : k < L.length := by have := HN.out; omega
          obtain ⟨b, off, rfl, hbl, x0, x1⟩ := at_tm HTG.out hkl
          have HXK := Lib.hid (List.getElem?_eq_getElem hkl)
          have HTK := Lib.hid (List.take_succ_eq_append_getElem hkl)
          generalize L[k] = y at x0 x1 HXK HTK
          have hki : (k : Int) < (n : Int) := by omega
          have hk0 : (0 : Int) ≤ (k : Int) := by omega
          have HKL : Hid (k + 1 ≤ L.length) := hkl
          clear hkl hk
          cases hlt : lt y.k key with
          | true =>
            have HST : Hid (∀ z ∈ L.take (k + 1), lt z.k key = true) := by
              intro z hz
              rw [HTK.out] at hz
              rcases List.mem_append.mp hz with hz | hz
              · exact HAH.out z hz
              · rw [List.mem_singleton] at hz
                rw [hz]
                exact hlt
            have hlt2 : Op.bytesLess y.k.toList key.toList = true := hlt
            clear hlt
            go_wp2
            go_roundw
            case rel => exact ⟨k + 1, HKL.out, by go_num, HST.out, rfl⟩
            case measure => simp [intOf]; omega
          | false =>
            have hlt2 : Op.bytesLess y.k.toList key.toList = false := hlt
            have PL : Hid (Plc L key k) := ⟨by have := HKL.out; omega, HAH.out, fun z hz => by rw [HXK.out] at hz; cases hz; exact hlt⟩
            clear hlt
            go_wp2
            go_meet
            case rel => exact ⟨k, rfl, PL.out, rfl⟩
        · have hke : n = k := by have := HN.out; omega
          have hki : ¬ (k : Int) < (n : Int) := by omega
          have PL : Hid (Plc L key k) := ⟨hk, HAH.out, fun y hy => by have := (List.getElem?_eq_some_iff.mp hy).1; have := HN.out; omega⟩
          clear hk hkn hke
          go_wp2
          go_meet
          case rel => exact ⟨k, rfl, PL.out, rfl⟩
    case rest =>
      obtain ⟨k, rfl, hpl, rfl⟩ := hcut
      have PL := Lib.hid hpl
      have hkn1 : k ≤ n := by have := hpl.le; have := HN.out; omega
      obtain ⟨fd, hfd⟩ : ∃ fd, fd = has L key := ⟨_, rfl⟩
      have HFD := Lib.hid hfd
      clear hpl hfd
      go_upto_region 4 with fail
      go_cut [49] from 31 to 48 (fun s49 wx => s49 = .bool fd ∧ wx = w)
      case first =>
        by_cases hkn : k < n
        · have hkl : k < L.length := by have := HN.out; omega
          obtain ⟨b, off, rfl, hbl, x0, x1⟩ := at_tm HTG.out hkl
          have HXK := Lib.hid (List.getElem?_eq_getElem hkl)
          have HM := Lib.hid (List.mem_map_of_mem (f := fun t : Tm => t.k) (List.getElem_mem hkl))
          generalize L[k] = y at x0 x1 HXK HM
          have hki : (k : Int) < (n : Int) := by omega
          have hk0 : (0 : Int) ≤ (k : Int) := by omega
          clear hkl
          by_cases hyk : y.k = key
          · have hyk2 : (y.k.toList == key.toList) = true := by rw [hyk]; simp
            have HF : Hid (fd = true) := by
              show _ = _
              rw [HFD.out]
              refine has_iff.mpr ?_
              rw [← hyk]
              exact HM.out
            clear hyk
            go_wp2
            go_meet
            case rel => exact ⟨by rw [HF.out], rfl⟩
          · have hyk2 : (y.k.toList == key.toList) = false := toList_ne hyk
            have HF : Hid (fd = false) := by
              show _ = _
              rw [HFD.out]
              refine has_no.mpr fun hm => ?_
              obtain ⟨z, hz, e⟩ := PL.out.old HRS.out hm
              rw [HXK.out] at hz
              cases hz
              exact hyk e
            clear hyk
            go_wp2
            go_meet
            case rel => exact ⟨by rw [HF.out], rfl⟩
        · have hki : ¬ (k : Int) < (n : Int) := by omega
          have HF : Hid (fd = false) := by
            show _ = _
            rw [HFD.out]
            refine has_no.mpr fun hm => ?_
            obtain ⟨z, hz, e⟩ := PL.out.old HRS.out hm
            have := (List.getElem?_eq_some_iff.mp hz).1
            have := HN.out
            omega
          clear hkn
          go_wp2
          go_meet
          case rel => exact ⟨by rw [HF.out], rfl⟩
      case rest =>
        obtain ⟨rfl, rfl⟩ := hcut
        cases fd with
        | true =>
          have hmem : key ∈ keys L := has_iff.mp HFD.out.symm
          obtain ⟨y, hy, hyk⟩ := PL.out.old HRS.out hmem
          obtain ⟨hkl, hye⟩ := List.getElem?_eq_some_iff.mp hy
          obtain ⟨b, off, rfl, hbl, x0, x1⟩ := at_tm HTG.out hkl
          have HSET := Lib.hid (fun m => set_ins HRS.out hkl m)
          have HSAME := Lib.hid (set_same hkl)
          have HVAL := Lib.hid (val_mem HRS.out (List.getElem_mem hkl))
          have HHAS : Hid (has L L[k].k = true) := has_iff.mpr (List.mem_map_of_mem (List.getElem_mem hkl))
          have HRSET := Lib.hid (fun m => ref_set (n := m) HR.out (by rw [← HN.out]; exact HBX.out) (by rw [← HN.out]; exact HROW.out) hkl)
          rw [hye] at x0 x1 HSET HSAME HVAL HHAS HRSET
          have hki : (k : Int) < (n : Int) := by have := HN.out; omega
          have hk0 : (0 : Int) ≤ (k : Int) := by omega
          have HYK := Lib.hid hyk
          clear hkl hmem hy hye hyk hkn1 hbl
          by_cases hgt : x > y.n
          · have hgt2 : decide (x > y.n) = true := decide_eq_true hgt
            have hfz := (HRSET.out x).2.2
            have HE : Hid (RefPost wc base h (noteL L key x limit) (noteF L floor key x limit) limit (.tuple #[]) (.returned (.tuple #[])) (wc.setCell ⟨b, off + k * 2 + 1, none⟩ (.int .i64 x))) := by
              obtain ⟨q1, q2, _⟩ := HRSET.out x
              have hx1 : ¬ x < 1 := by have := HX1.out; omega
              have ht : takes L key limit = true := by unfold takes; rw [← HYK.out, HHAS.out]; rfl
              have hm : max (val L key) x = x := by rw [← HYK.out, HVAL.out]; omega
              show RefPost _ _ _ _ _ _ _ _ _
              simp only [noteL, noteF, hx1, ht, if_true, if_false]
              rw [hm, ← HYK.out, ← HSET.out x]
              exact ⟨rfl, q1, q2⟩
            clear hgt
            go_wp2
            refine bodyPost_ret (results_none rfl _ _ _) rfl ?_
            exact HE.out
          · have hgt2 : decide (x > y.n) = false := decide_eq_false hgt
            have HE : Hid (RefPost wc base h (noteL L key x limit) (noteF L floor key x limit) limit (.tuple #[]) (.returned (.tuple #[])) wc) := by
              have hx1 : ¬ x < 1 := by have := HX1.out; omega
              have ht : takes L key limit = true := by unfold takes; rw [← HYK.out, HHAS.out]; rfl
              have hm : max (val L key) x = y.n := by rw [← HYK.out, HVAL.out]; omega
              show RefPost _ _ _ _ _ _ _ _ _
              simp only [noteL, noteF, hx1, ht, if_true, if_false]
              rw [hm, ← HYK.out, ← HSET.out y.n, HSAME.out]
              exact ⟨rfl, HR.out, Fr.refl _ _ _ _⟩
            go_wp2
            refine bodyPost_ret (results_none rfl _ _ _) rfl ?_
            exact HE.out
        | false =>
          have HNI : Hid (key ∉ keys L) := has_no.mp HFD.out.symm
          by_cases hroom : (n : Int) < limit
          · go_wp2_with fail
            go_quiet (fail)
            have B6 : Hid (Below wc.heap.size wc (wc.drewN nq)) := below_drewN wc nq
            generalize wc.drewN nq = w6 at B6 ⊢
            have HLS : Hid (noteL L key x limit = L.take k ++ ⟨key, x⟩ :: L.drop k ∧ noteF L floor key x limit = floor) := by
              have hx1 : ¬ x < 1 := by have := HX1.out; omega
              have ht : takes L key limit = true := by unfold takes; rw [has_no.mpr HNI.out, ← HN.out, decide_eq_true hroom]; rfl
              have hv : val L key = 0 := by unfold val; rw [fnd_none.mpr HNI.out]
              have hm : max (val L key) x = x := by rw [hv]; omega
              show _ ∧ _
              simp only [noteL, noteF, hx1, ht, if_true, if_false]
              rw [hm]
              exact ⟨(Plc.new (t := ⟨key, x⟩) PL.out HRS.out HNI.out).symm, trivial⟩
            have f0 : w6.cell? ⟨h, 0, none⟩ = some (.slice A n c) := (HBX.out.below B6.out).c0
            have hne : ¬ h = w6.heap.size := by have := (HBX.out.below B6.out).lt; omega
            have hk0 : (0 : Int) ≤ (k : Int) := by omega
            have hkci : (k : Int) ≤ (c : Int) := by have := HNC.out.1; omega
            have hkni : (k : Int) ≤ (n : Int) := by omega
            by_cases hck : c = k
            · have hnk : n = k := by have := HNC.out.1; omega
              subst hck
              subst hnk
              obtain ⟨w7, w8, w9, v1, v2, B9, l9, c9, U⟩ := note_up (t := ⟨key, x⟩) (j := n) (A' := A) (c' := 0) (m := 0) (HR.out.below B6.out) (Nat.le_trans HS.out B6.out.size) (by omega) (HBX.out.below B6.out) (HTG.out.below (Nat.le_refl _) B6.out) HNC.out.2 HN.out.symm (Nat.le_refl _) (sl_end A (by have := HN.out; omega)) (fun _ => rfl) (by omega)
              obtain ⟨r1, r2, r3, d0, d2, d3, f3, hout⟩ := U
              have HOUT : Hid (RefPost wc base h (noteL L key x limit) (noteF L floor key x limit) limit (.tuple #[]) (.returned (.tuple #[])) (w9.setCell ⟨h, 0, none⟩ (.slice B9 l9 c9))) := by
                show RefPost _ _ _ _ _ _ _ _ _
                rw [HLS.out.1, HLS.out.2]
                exact ⟨rfl, hout.1, (Fr.of_below B6.out HS.out).trans hout.2⟩
              simp only at r2
              have R1 := Lib.hid r1
              have R2 := Lib.hid r2
              have R3 := Lib.hid r3
              clear r1 r2 r3 hout hn2 hroom c0 c1 c2
              go_wp2_with (first | (at_builtin; refine wpList_append_run rfl _ _ 27 27 rfl _ _ rfl rfl _ w7 R1.out ?_) | (at_builtin; refine wpList_append_run rfl _ _ 27 27 rfl _ _ rfl rfl _ w8 R2.out ?_) | (at_builtin; refine wpList_append_run rfl _ _ 27 27 rfl _ _ rfl rfl _ w9 R3.out ?_))
              refine bodyPost_ret (results_none rfl _ _ _) rfl ?_
              exact HOUT.out
            · cases A with
              | none => exact absurd (HNC.out.2 rfl) (by have := HNC.out.1; omega)
              | some ad =>
                obtain ⟨b, off, rfl⟩ := HR.out.spot HBX.out rfl
                obtain ⟨w7, w8, w9, v1, v2, B9, l9, c9, U⟩ := note_up (t := ⟨key, x⟩) (j := k) (A' := some ⟨b, off + k * 2, none⟩) (c' := c - k) (m := n - k) (HR.out.below B6.out) (Nat.le_trans HS.out B6.out.size) (by omega) (HBX.out.below B6.out) (HTG.out.below (Nat.le_refl _) B6.out) (by simp) HN.out.symm hkn1 ((HTG.out.below (Nat.le_refl _) B6.out).drop k) (by simp) rfl
                obtain ⟨r1, r2, r3, d0, d2, d3, f3, hout⟩ := U
                have HOUT : Hid (RefPost wc base h (noteL L key x limit) (noteF L floor key x limit) limit (.tuple #[]) (.returned (.tuple #[])) (w9.setCell ⟨h, 0, none⟩ (.slice B9 l9 c9))) := by
                  show RefPost _ _ _ _ _ _ _ _ _
                  rw [HLS.out.1, HLS.out.2]
                  exact ⟨rfl, hout.1, (Fr.of_below B6.out HS.out).trans hout.2⟩
                simp only at r2
                have R1 := Lib.hid r1
                have R2 := Lib.hid r2
                have R3 := Lib.hid r3
                clear r1 r2 r3 hout hn2 hroom c0 c1 c2 hkn1
                go_wp2_with (first | (at_builtin; refine wpList_append_run rfl _ _ 27 27 rfl _ _ rfl rfl _ w7 R1.out ?_) | (at_builtin; refine wpList_append_run rfl _ _ 27 27 rfl _ _ rfl rfl _ w8 R2.out ?_) | (at_builtin; refine wpList_append_run rfl _ _ 27 27 rfl _ _ rfl rfl _ w9 R3.out ?_))
                refine bodyPost_ret (results_none rfl _ _ _) rfl ?_
                exact HOUT.out
          · have hrd : decide ((n : Int) < limit) = false := decide_eq_false hroom
            go_wp2_with fail
            go_quiet (fail)
            have B6 : Hid (Below wc.heap.size wc (wc.drewN nq)) := below_drewN wc nq
            generalize wc.drewN nq = w6 at B6 ⊢
            have f2 := (HBX.out.below B6.out).c2
            have fz := (HBX.out.below B6.out).frozen 2
            have HLS : Hid (noteL L key x limit = L ∧ noteF L floor key x limit = max floor x) := by
              have hx1 : ¬ x < 1 := by have := HX1.out; omega
              have ht : takes L key limit = false := by unfold takes; rw [has_no.mpr HNI.out, ← HN.out, decide_eq_false (by omega : ¬ (n : Int) < limit)]; rfl
              show _ ∧ _
              simp only [noteL, noteF, hx1, ht, if_false, Bool.false_eq_true]
              exact ⟨trivial, trivial⟩
            clear c0 c1 c2 hroom
            by_cases hgt : x > floor
            · have hgt2 : decide (x > floor) = true := decide_eq_true hgt
              have HE : Hid (RefPost wc base h (noteL L key x limit) (noteF L floor key x limit) limit (.tuple #[]) (.returned (.tuple #[])) (w6.setCell ⟨h, 2, none⟩ (.int .i64 x))) := by
                obtain ⟨q1, q2⟩ := ref_floor (HR.out.below B6.out) x
                show RefPost _ _ _ _ _ _ _ _ _
                rw [HLS.out.1, HLS.out.2, show max floor x = x by omega]
                exact ⟨rfl, q1, (Fr.of_below B6.out HS.out).trans q2⟩
              clear hgt
              go_wp2
              go_end0
              exact HE.out
            · have hgt2 : decide (x > floor) = false := decide_eq_false hgt
              have HE : Hid (RefPost wc base h (noteL L key x limit) (noteF L floor key x limit) limit (.tuple #[]) (.returned (.tuple #[])) w6) := by
                show RefPost _ _ _ _ _ _ _ _ _
                rw [HLS.out.1, HLS.out.2, show max floor x = floor by omega]
                exact ⟨rfl, HR.out.below B6.out, Fr.of_below B6.out HS.out⟩
              go_wp2
              go_end0
              exact HE.out
end Go.Proofs.Ytlleiehacmkedaa
