/-
  The contract of the document's New. Its conditions: the nodes lie in memory, and are no more than a bound.
-/
import Derived.Test.YtdmgmbjdocechaaW11
import Derived.Deep.CutBlock
namespace Go.Proofs.Ytdmgmbjdocechaa
open Go.RowKit Go.Maps Go.ChangeMaps
open Go.Sort (grow)

theorem RefAt.down {w : World} {base base' h : Nat} {L : List Tm} {pat now ch : Int} (r : RefAt w base h L pat now ch) (hb : base' ≤ base) : RefAt w base' h L pat now ch := by
  obtain ⟨a1, a2, v, h3, h4⟩ := r
  exact ⟨Nat.le_trans hb a1, a2, v, h3, h4.down hb⟩
theorem ins_same {L : List Tm} {k : ByteArray} (h : Rises L) (h0 : ∀ x ∈ L, x.n = 0) (hk : has L k = true) : ins L ⟨k, 0⟩ = L := by
  obtain ⟨x, hx, rfl⟩ := List.mem_map.mp (has_iff.mp hk)
  have e : (⟨x.k, 0⟩ : Tm) = x := Tm.ext' rfl (h0 x hx).symm
  conv => rhs; rw [split_mem h hx]
  rw [e]
  rfl
/-- What New makes where the node is new. -/
structure NodeUp (w : World) (base h : Nat) (L' : List Tm) (pat now ch : Int) (t : Tm) (A A' : Option Addr) (n j c m c' : Nat) (w1 w2 w3 : World) (v1 v2 : Value) (B3 : Option Addr) (l3 c3 : Nat) : Prop where
  r1 : (Builtin.append_ #[36, 36] 36 #[.slice (some ⟨w.heap.size, 0, none⟩) 0 0, .slice A j c]).run Try.prog (w.alloc (.cells #[] 55)) = .ok v1 w1
  r2 : (Builtin.append_ #[36, 36] 36 #[v1, .slice (some ⟨w1.heap.size, 0, none⟩) 1 1]).run Try.prog (w1.alloc (.cells #[.string t.k, .int .i64 t.n] 55)) = .ok v2 w2
  r3 : (Builtin.append_ #[36, 36] 36 #[v2, .slice A' m c']).run Try.prog w2 = .ok (.slice B3 l3 c3) w3
  b1 : Below w.heap.size w w1
  d0 : (w.alloc (.cells #[] 55)).cell? ⟨h, 0, none⟩ = some (.slice A n c)
  d2 : w2.cell? ⟨h, 0, none⟩ = some (.slice A n c)
  d3 : w3.cell? ⟨h, 0, none⟩ = some (.slice A n c)
  f3 : w3.frozen? ⟨h, 0, none⟩ = false
  out : RefAt (w3.setCell ⟨h, 0, none⟩ (.slice B3 l3 c3)) base h L' pat now ch ∧ Fr rK [] base w (w3.setCell ⟨h, 0, none⟩ (.slice B3 l3 c3))
theorem node_up {base h : Nat} {L : List Tm} {pat now ch : Int} {t : Tm} {w : World} {A A' : Option Addr} {n j c c' m : Nat} (hr : RefAt w base h L pat now ch) (hbs : base ≤ w.heap.size) (hl : n < 100000) (hbox : RBox w h (.slice A n c) pat now ch) (hp : Sl eTm w A L) (hA : A = none → c = 0) (hn : L.length = n) (hj : j ≤ n)
    (hp' : Sl eTm w A' (L.drop j)) (hA' : A' = none → c' = 0) (hm : n - j = m) : ∃ w1 w2 w3 v1 v2 B3 l3 c3, NodeUp w base h (L.take j ++ t :: L.drop j) pat now ch t A A' n j c m c' w1 w2 w3 v1 v2 B3 l3 c3 := by
  have b0 : Below w.heap.size w (w.alloc (.cells #[] 55)) := (Below.refl _ _).alloc (Nat.le_refl _) _
  obtain ⟨v1, w1, r1, o1, b1⟩ := RowT.grow el36 (w := w) rfl (RowT.empty (E := eTm) w) b0 (n := j) (c := c) ((hp.take j).below (Nat.le_refl _) b0) (by rw [List.length_take]; omega) hA (by simp; omega)
  have b1' : Below w.heap.size w (w1.alloc (.cells #[.string t.k, .int .i64 t.n] 55)) := b1.alloc b1.size _
  obtain ⟨v2, w2, r2, o2, b2⟩ := RowT.grow el36 (w := w) rfl (o1.below ((Below.refl _ _).alloc (Nat.le_refl _) (.cells #[.string t.k, .int .i64 t.n] 55))) b1' (n := 1) (c := 1) (sl_one (E := eTm) w1 t 55) rfl (by simp) (by simp; omega)
  obtain ⟨v3, w3, r3, o3, b3⟩ := RowT.grow el36 (w := w) rfl o2 b2 (n := m) (c := c') (hp'.below (Nat.le_refl _) b2) (by rw [List.length_drop]; omega) hA' (by simp; omega)
  simp only [List.nil_append, List.append_assoc, List.cons_append] at o3
  obtain ⟨B3, c3, rfl, _⟩ := o3.form
  have hlt := hbox.lt
  exact ⟨w1, w2, w3, v1, v2, B3, _, c3, r1, r2, r3, b1, (b0.cell (p := ⟨h, 0, none⟩) hlt).trans hbox.c0, (b2.cell (p := ⟨h, 0, none⟩) hlt).trans hbox.c0, (b3.cell (p := ⟨h, 0, none⟩) hlt).trans hbox.c0, RBox.frozen (hbox.below b3) 0,
    ref_store hr hbs b3 o3 (by simp; omega)⟩
theorem RefAt.spot {w : World} {base h : Nat} {L : List Tm} {pat now ch : Int} (r : RefAt w base h L pat now ch) {A : Option Addr} {n c : Nat} (hb : RBox w h (.slice A n c) pat now ch) {ad : Addr} (hA : A = some ad) : ∃ g off, ad = ⟨g, off, none⟩ := by
  obtain ⟨_, _, v, h3, h4⟩ := r
  unfold RBox at h3 hb
  rw [hb] at h3
  simp at h3
  subst h3
  rcases h4.2 with ⟨e, _⟩ | ⟨g, cap, cur, e, _⟩
  · cases e
    cases hA
  · cases e
    cases hA
    exact ⟨g, 0, rfl⟩
def RnRel (L : List Tm) (key : ByteArray) (w0 : World) (s7 : Value) (wr : World) : Prop := ∃ k : Nat, k ≤ L.length ∧ s7 = .int .i64 (k : Int) ∧ (∀ x ∈ L.take k, lt x.k key = true) ∧ Below w0.heap.size w0 wr
def RnCut (L : List Tm) (key : ByteArray) (w0 : World) (s7 : Value) (wc : World) : Prop := ∃ k : Nat, s7 = .int .i64 (k : Int) ∧ Plc L key k ∧ Below w0.heap.size w0 wc
def RnOut (l : List ByteArray) (n h : Nat) (pat : Int) (w : World) (s6 : Value) (wr : World) : Prop := ∃ i : Nat, i ≤ n ∧ s6 = .int .i64 (i : Int) ∧ RefAt wr w.heap.size h (newL (l.take i)) pat 0 0 ∧ Below w.heap.size w wr
set_option maxRecDepth 100000 in
set_option maxHeartbeats 8000000 in
theorem refnew_any (p : Int) (l : List ByteArray) (A0 : Option Addr) (n0 c0 : Nat) (w : World) (hs : Sl eKy w A0 l) (hn : l.length = n0) (h1 : n0 ≤ 1000) :
    Calls Try.prog 9 #[.int .i64 p, .slice A0 n0 c0] w fun r w' => ∃ h, r = .returned (.pointer (some ⟨h, 0, none⟩)) ∧ RefAt w' w.heap.size h (newL l) (max p 1) 0 0 ∧ Below w.heap.size w w' := by
  obtain ⟨pat, hpat⟩ : ∃ pat, pat = max p 1 := ⟨_, rfl⟩
  rw [← hpat]
  have H := Lib.hid hs
  have HE := Lib.hid hn
  have HP := Lib.hid hpat
  have hn1000 : (n0 : Int) ≤ 1000 := by omega
  clear hs hn h1 hpat
  go_enter Try.func9, Try.ntmps9
  go_upto_if 10 with fail
  go_cut [0] from 9 (fun s0 wc => s0 = .int .i64 pat ∧ w = wc)
  case first =>
    by_cases hp : p < 1
    · have e : Hid (pat = 1) := by show _ = _; rw [HP.out]; omega
      go_wp2
      go_meet
      case rel => exact ⟨by rw [e.out], rfl⟩
    · have e : Hid (pat = p) := by show _ = _; rw [HP.out]; omega
      go_wp2
      go_meet
      case rel => exact ⟨by rw [e.out], rfl⟩
  case rest =>
    obtain ⟨rfl, rfl⟩ := hcut
    obtain ⟨h, hh⟩ : ∃ h, h = w.heap.size := ⟨_, rfl⟩
    have b0 : Below w.heap.size w (w.alloc (.cells #[.slice none 0 0, .int .i64 pat, .int .i64 0, .int .i64 0] 38)) := (Below.refl _ _).alloc (Nat.le_refl _) _
    have R0 : Hid (RnOut l n0 h pat w (.int .i64 0) (w.alloc (.cells #[.slice none 0 0, .int .i64 pat, .int .i64 0, .int .i64 0] 38))) :=
      ⟨0, Nat.zero_le _, rfl, ⟨by omega, by simp [newL], _, by rw [hh]; exact heap_new _ _, RowT.nil _⟩, b0⟩
    have HH := Lib.hid hh
    clear b0 hh
    go_wp2_with fail
    rw [← HH.out]
    go_loopw [6] (RnOut l n0 h pat w) (fun i _ => n0 - (intOf i).toNat)
    case atStart => exact R0.out
    case round =>
      obtain ⟨i, hi, rfl, hr, hb⟩ := hrel
      have HR := Lib.hid hr
      have HB := Lib.hid hb
      clear hr hb R0
      by_cases hlt : i < n0
      · have hkl : i < l.length := by rw [HE.out]; exact hlt
        obtain ⟨bn, on, rfl, -, -⟩ := at_ky (H.out.below (Nat.le_refl _) HB.out) hkl
        have FY := Lib.hid (fun (W : World) (hW : Below w.heap.size w W) => at_ky2 (H.out.below (Nat.le_refl _) hW) hkl)
        have HT := Lib.hid (newL_take hkl)
        have HLL : Hid ((newL (l.take i)).length ≤ 1000) := by
          have := newL_length (l.take i)
          rw [List.length_take] at this
          show _ ≤ _
          omega
        have HRS := Lib.hid (newL_rises (l.take i))
        have HZ0 := Lib.hid (newL_zero (l.take i))
        have hlti : (i : Int) < (n0 : Int) := by omega
        have hi0 : (0 : Int) ≤ (i : Int) := by omega
        have HK : Hid (i + 1 ≤ n0) := hlt
        generalize l[i] = key at FY HT
        generalize newL (l.take i) = L at HR HT HLL HRS HZ0
        clear hkl hi hlt
        obtain ⟨W0, rfl⟩ : ∃ W0, W0 = wr := ⟨wr, rfl⟩
        obtain ⟨A, c, hbox, hrow, htg, hnc, hA, _⟩ := HR.out.parts
        obtain ⟨n, hn⟩ : ∃ n, n = L.length := ⟨_, rfl⟩
        rw [← hn] at hbox hrow hnc
        have HBX := Lib.hid hbox
        have HTG := Lib.hid htg
        have HNC : Hid (n ≤ c ∧ (A = none → c = 0)) := ⟨hnc, hA⟩
        have HN := Lib.hid hn
        have hn2 : (n : Int) ≤ 1000 := by have := HLL.out; omega
        clear hn hbox hrow htg hnc hA
        go_upto_block 2 with fail
        go_cut [7] from 20 to 43 (RnCut L key W0)
        case first =>
          go_wp2
          go_loopw [7] (RnRel L key W0) (fun k _ => n - (intOf k).toNat)
          case atStart => exact ⟨0, Nat.zero_le _, rfl, by simp, Below.refl _ _⟩
          case round =>
            obtain ⟨k, hk, rfl, hah, hb2⟩ := hrel
            have HAH := Lib.hid hah
            have HB2 := Lib.hid hb2
            have d0 := (HBX.out.below hb2).c0
            have f1 := FY.out wr (HB.out.trans (hb2.mono HB.out.size))
            clear hah
            by_cases hkn : k < n
            · have hkl : k < L.length := by have := HN.out; omega
              obtain ⟨b, off, rfl, -, x0, -⟩ := at_tm (HTG.out.below (Nat.le_refl _) hb2) hkl
              have HXK := Lib.hid (List.getElem?_eq_getElem hkl)
              have HTK := Lib.hid (List.take_succ_eq_append_getElem hkl)
              generalize L[k] = y at x0 HXK HTK
              have hki : (k : Int) < (n : Int) := by omega
              have hk0 : (0 : Int) ≤ (k : Int) := by omega
              have HKL : Hid (k + 1 ≤ L.length) := hkl
              clear hkl hk hb2
              cases hlt : lt y.k key with
              | true =>
                have HST : Hid (∀ z ∈ L.take (k + 1), lt z.k key = true) := by
                  intro z hz
                  rw [HTK.out] at hz
                  rcases List.mem_append.mp hz with hz | hz
                  · exact HAH.out z hz
                  · rw [List.mem_singleton] at hz
                    rw [hz]
                    exact hlt
                have hlt2 : Op.bytesLess y.k.toList key.toList = true := hlt
                clear hlt
                go_wp2_with fail
                go_quiet (fail)
                have HB3 := Lib.hid (HB2.out.trans ((below_drewN wr nq).mono HB2.out.size))
                generalize wr.drewN nq = W9 at HB3 ⊢
                go_wp2
                go_roundw
                case rel => exact ⟨k + 1, HKL.out, by go_num, HST.out, HB3.out⟩
                case measure => simp [intOf]; omega
              | false =>
                have hlt2 : Op.bytesLess y.k.toList key.toList = false := hlt
                have PL : Hid (Plc L key k) := ⟨by have := HKL.out; omega, HAH.out, fun z hz => by rw [HXK.out] at hz; cases hz; exact hlt⟩
                clear hlt
                go_wp2_with fail
                go_quiet (fail)
                have HB3 := Lib.hid (HB2.out.trans ((below_drewN wr nq).mono HB2.out.size))
                generalize wr.drewN nq = W9 at HB3 ⊢
                go_wp2
                go_meet
                case rel => exact ⟨k, rfl, PL.out, HB3.out⟩
            · have hke : n = k := by have := HN.out; omega
              have hki : ¬ (k : Int) < (n : Int) := by omega
              have PL : Hid (Plc L key k) := ⟨hk, HAH.out, fun y hy => by have := (List.getElem?_eq_some_iff.mp hy).1; have := HN.out; omega⟩
              have hkd : decide (k < n) = false := decide_eq_false hkn
              clear hk hkn hke hb2
              go_wp2_with fail
              go_quiet (fail)
              have HB3 := Lib.hid (HB2.out.trans ((below_drewN wr nq).mono HB2.out.size))
              generalize wr.drewN nq = W9 at HB3 ⊢
              go_wp2
              go_meet
              case rel => exact ⟨k, rfl, PL.out, HB3.out⟩
        case rest =>
          obtain ⟨k, rfl, hpl, hbc⟩ := hcut
          have PL := Lib.hid hpl
          have HC := Lib.hid hbc
          have hkn1 : k ≤ n := by have := hpl.le; have := HN.out; omega
          obtain ⟨fd, hfd⟩ : ∃ fd, fd = has L key := ⟨_, rfl⟩
          have HFD := Lib.hid hfd
          clear hpl hfd hbc
          obtain ⟨W1, rfl⟩ : ∃ W1, W1 = wc := ⟨wc, rfl⟩
          have d0 := (HBX.out.below HC.out).c0
          have f1 := FY.out W1 (HB.out.trans (HC.out.mono HB.out.size))
          go_upto_region 10 with fail
          go_cut [65] from 44 to 64 (fun s65 wx => s65 = .bool fd ∧ Below W1.heap.size W1 wx)
          case first =>
            by_cases hkn : k < n
            · have hkl : k < L.length := by have := HN.out; omega
              obtain ⟨b, off, rfl, -, x0, -⟩ := at_tm (HTG.out.below (Nat.le_refl _) HC.out) hkl
              have HXK := Lib.hid (List.getElem?_eq_getElem hkl)
              have HM := Lib.hid (List.mem_map_of_mem (f := fun t : Tm => t.k) (List.getElem_mem hkl))
              generalize L[k] = y at x0 HXK HM
              have hki : (k : Int) < (n : Int) := by omega
              have hk0 : (0 : Int) ≤ (k : Int) := by omega
              clear hkl
              by_cases hyk : y.k = key
              · have hyk2 : (y.k.toList == key.toList) = true := by rw [hyk]; simp
                have HF : Hid (fd = true) := by
                  show _ = _
                  rw [HFD.out]
                  refine has_iff.mpr ?_
                  rw [← hyk]
                  exact HM.out
                clear hyk
                go_wp2_with fail
                go_quiet (fail)
                go_wp2
                go_meet
                case rel => exact ⟨by rw [HF.out], below_drewN _ _⟩
              · have hyk2 : (y.k.toList == key.toList) = false := toList_ne hyk
                have HF : Hid (fd = false) := by
                  show _ = _
                  rw [HFD.out]
                  refine has_no.mpr fun hm => ?_
                  obtain ⟨z, hz, e⟩ := PL.out.old HRS.out hm
                  rw [HXK.out] at hz
                  cases hz
                  exact hyk e
                clear hyk
                go_wp2_with fail
                go_quiet (fail)
                go_wp2
                go_meet
                case rel => exact ⟨by rw [HF.out], below_drewN _ _⟩
            · have hki : ¬ (k : Int) < (n : Int) := by omega
              have hkd : decide (k < n) = false := decide_eq_false hkn
              have HF : Hid (fd = false) := by
                show _ = _
                rw [HFD.out]
                refine has_no.mpr fun hm => ?_
                obtain ⟨z, hz, e⟩ := PL.out.old HRS.out hm
                have := (List.getElem?_eq_some_iff.mp hz).1
                have := HN.out
                omega
              clear hkn
              go_wp2_with fail
              go_quiet (fail)
              go_wp2
              go_meet
              case rel => exact ⟨by rw [HF.out], below_drewN _ _⟩
          case rest =>
            obtain ⟨rfl, hb6⟩ := hcut
            have B6 : Hid (Below W0.heap.size W0 wc) := HC.out.trans (hb6.mono HC.out.size)
            have HBW : Hid (Below w.heap.size w wc) := HB.out.trans (B6.out.mono HB.out.size)
            have HR6 := Lib.hid (HR.out.below B6.out)
            clear hb6 d0 f1
            cases fd with
            | true =>
              have HE6 : Hid (RnOut l n0 h pat w (.int .i64 ((i : Int) + 1)) wc) := ⟨i + 1, HK.out, by rw [Int.natCast_add]; rfl, by
                rw [HT.out, ins_same HRS.out HZ0.out HFD.out.symm]
                exact HR6.out, HBW.out⟩
              go_wp2
              go_roundw
              case rel => exact HE6.out
              case measure => simp [intOf]; omega
            | false =>
              have HNI : Hid (key ∉ keys L) := has_no.mp HFD.out.symm
              have HLS : Hid (newL (l.take (i + 1)) = L.take k ++ ⟨key, 0⟩ :: L.drop k) := by
                show _ = _
                rw [HT.out, Plc.new (t := ⟨key, 0⟩) PL.out HRS.out HNI.out]
              have hne : ¬ h = wc.heap.size := by have := (HBX.out.below B6.out).lt; omega
              have hk0 : (0 : Int) ≤ (k : Int) := by omega
              have hkci : (k : Int) ≤ (c : Int) := by have := HNC.out.1; omega
              have hkni : (k : Int) ≤ (n : Int) := by omega
              have HNX : Hid (∀ W : World, RefAt W w.heap.size h (L.take k ++ ⟨key, 0⟩ :: L.drop k) pat 0 0 → Fr rK [] w.heap.size wc W → RnOut l n0 h pat w (.int .i64 ((i : Int) + 1)) W) := fun W h1 h2 => ⟨i + 1, HK.out, by rw [Int.natCast_add]; rfl, by rw [HLS.out]; exact h1, HBW.out.trans h2.below⟩
              by_cases hck : c = k
              · have hnk : n = k := by have := HNC.out.1; omega
                subst hck
                subst hnk
                obtain ⟨w7, w8, w9, v1, v2, B9, l9, c9, U⟩ := node_up (t := ⟨key, 0⟩) (j := n) (A' := A) (c' := 0) (m := 0) HR6.out HBW.out.size (by omega) (HBX.out.below B6.out) (HTG.out.below (Nat.le_refl _) B6.out) HNC.out.2 HN.out.symm (Nat.le_refl _) (sl_end A (by have := HN.out; omega)) (fun _ => rfl) (by omega)
                obtain ⟨r1, r2, r3, b1, d0, d2, d3, f3, hout⟩ := U
                have HOUT := Lib.hid (HNX.out _ hout.1 hout.2)
                have f7 := FY.out w7 (HBW.out.trans (b1.mono HBW.out.size))
                simp only at r2
                have R1 := Lib.hid r1
                have R2 := Lib.hid r2
                have R3 := Lib.hid r3
                clear r1 r2 r3 hout hn2 b1
                go_wp2_with (first | (at_builtin; refine wpList_append_run rfl _ _ 36 36 rfl _ _ rfl rfl _ w7 R1.out ?_) | (at_builtin; refine wpList_append_run rfl _ _ 36 36 rfl _ _ rfl rfl _ w8 R2.out ?_) | (at_builtin; refine wpList_append_run rfl _ _ 36 36 rfl _ _ rfl rfl _ w9 R3.out ?_))
                go_roundw
                case rel => exact HOUT.out
                case measure => simp [intOf]; omega
              · cases A with
                | none => exact absurd (HNC.out.2 rfl) (by have := HNC.out.1; omega)
                | some ad =>
                  obtain ⟨b, off, rfl⟩ := HR6.out.spot (HBX.out.below B6.out) rfl
                  obtain ⟨w7, w8, w9, v1, v2, B9, l9, c9, U⟩ := node_up (t := ⟨key, 0⟩) (j := k) (A' := some ⟨b, off + k * 2, none⟩) (c' := c - k) (m := n - k) HR6.out HBW.out.size (by omega) (HBX.out.below B6.out) (HTG.out.below (Nat.le_refl _) B6.out) (by simp) HN.out.symm hkn1 ((HTG.out.below (Nat.le_refl _) B6.out).drop k) (by simp) rfl
                  obtain ⟨r1, r2, r3, b1, d0, d2, d3, f3, hout⟩ := U
                  have HOUT := Lib.hid (HNX.out _ hout.1 hout.2)
                  have f7 := FY.out w7 (HBW.out.trans (b1.mono HBW.out.size))
                  simp only at r2
                  have R1 := Lib.hid r1
                  have R2 := Lib.hid r2
                  have R3 := Lib.hid r3
                  clear r1 r2 r3 hout hn2 b1 hkn1
                  go_wp2_with (first | (at_builtin; refine wpList_append_run rfl _ _ 36 36 rfl _ _ rfl rfl _ w7 R1.out ?_) | (at_builtin; refine wpList_append_run rfl _ _ 36 36 rfl _ _ rfl rfl _ w8 R2.out ?_) | (at_builtin; refine wpList_append_run rfl _ _ 36 36 rfl _ _ rfl rfl _ w9 R3.out ?_))
                  go_roundw
                  case rel => exact HOUT.out
                  case measure => simp [intOf]; omega
      · have hlti : ¬ (i : Int) < (n0 : Int) := by omega
        have HE2 : Hid (RefAt wr w.heap.size h (newL l) pat 0 0) := by
          have := HR.out
          rw [List.take_of_length_le (by rw [HE.out]; omega)] at this
          exact this
        clear hi hlt HR
        go_wp2
        go_ret
        exact ⟨h, rfl, HE2.out, HB.out⟩
end Go.Proofs.Ytdmgmbjdocechaa
