/-
  JournalWrites's walk. Its conditions: the argument reads as steps.
-/
import Derived.Test.YtppdckncnfffcaaN8
import Derived.Deep.CutBlock
import Derived.StillTailTactics
namespace Go.Proofs.Ytppdckncnfffcaa
open Go.RowKit
open Go.Sort (grow)
set_option maxRecDepth 100000

/-- Ahead of a round. -/
structure WtS (w W : World) (g dg qw : Nat) (j : Jn) (d : Dk) (N n i : Nat) (st : Bool) (a m : Nat) (H : Int) (lap : Nat) : Prop where
  run : Run w W g dg j d
  box : ∃ u, RefB W qw u H lap
  lo : w.heap.size ≤ qw
  wt : Wt d j N n i st a m H lap
/-- Behind a round's step. -/
def CutW (w : World) (dg qw q : Nat) (x : OpX) (N n i : Nat) (v : Value) (s8 s12 s13 s14 : Value) (wx : World) : Prop :=
  ∃ (g : Nat) (j : Jn) (d : Dk) (st : Bool) (a m : Nat) (H : Int) (lap : Nat) (u : Value), s8 = .pointer (some ⟨g, 0, none⟩) ∧ s12 = .bool st ∧ s13 = .int .i64 (a : Int) ∧ s14 = .int .i64 (m : Int) ∧ Wst w wx g dg qw q x j d u H lap v d.K ∧ Wt d j N n i st a m H lap
/-- Ahead of the step that opens anew. -/
def CutM (w : World) (g dg qw q : Nat) (x : OpX) (j : Jn) (N i : Nat) (u : Value) (H : Int) (lap : Nat) (v : Value) (wx : World) : Prop :=
  ∃ d : Dk, Wst w wx g dg qw q x j d u H lap v d.K ∧ Qt d ∧ d.K.length = N ∧ d.steps ≤ 200 * (i : Int) + 100
theorem new_opened (N n : Nat) (h4 : 4 ≤ N) (hn : n = N / 2) : Wt (newD N) (lookJ (newD N).K (j0 n)) N n 0 false 0 0 (openO (newD N).K n).H (openO (newD N).K n).lap :=
  Wt.opened (Qt.new N) (by simp [newD]) (by omega) (by omega) (by show (0 : Int) ≤ 200 * ((0 : Nat) : Int); omega)
theorem gth_count (l : List Pt) : ∀ G : Gt, (l.foldl gth G).rs.length ≤ G.rs.length + l.length := by
  induction l with
  | nil => intro G; exact Nat.le_refl _
  | cons p t ih =>
    intro G
    rw [List.foldl_cons]
    have h1 := ih (gth G p)
    have h2 : (gth G p).rs.length ≤ G.rs.length + 1 := by
      unfold gth
      split
      · simp
      · simp
    simp only [List.length_cons]
    omega
theorem walk_count (h : List Sec) : ∀ p : Pt, (walk p h).length ≤ h.length := by
  induction h with
  | nil => intro p; exact Nat.le_refl _
  | cons s r ih =>
    intro p
    rw [walk]
    split
    · simp only [List.length_cons]
      have := ih (nextP p s)
      omega
    · simp
theorem found_count (h : List Sec) : (foundL h).length ≤ h.length := by
  unfold foundL gathered partsL
  split
  · simp
  · have h1 := gth_count (walk (p0 (lapF (at_ h 0))) h) ⟨[], [], 0⟩
    have h2 := walk_count h (p0 (lapF (at_ h 0)))
    simp only [List.length_nil] at h1
    omega
theorem found_few (K : List Sec) (n : Nat) : (lookL K n).length ≤ n := by
  have h : ∀ f, (foundL (halfL K f n)).length ≤ n := fun f => by
    have h1 := found_count (halfL K f n)
    have h2 : (halfL K f n).length ≤ n := by unfold halfL; rw [List.length_take]; omega
    omega
  unfold lookL
  split <;> exact h _
theorem row_ans {f : Nat} {args : Array Value} {W : World} {B k : Nat} {l : List ByteArray} (h : Calls Try.prog f args W fun e w' => ∃ v, e = .returned v ∧ RowT eKy 9 w' B v l ∧ Below W.heap.size W w') (hk : l.length = k) :
    Calls Try.prog f args W fun e w' => ∃ A c, e = .returned (.slice A k c) ∧ RowT eKy 9 w' B (.slice A k c) l ∧ Below W.heap.size W w' := by
  refine h.mono ?_
  rintro e w' ⟨v, h1, h2, h3⟩
  obtain ⟨A, c, hv, _⟩ := h2.form
  rw [hk] at hv
  subst hv
  exact ⟨A, c, h1, h2, h3⟩
theorem by_ans {f : Nat} {args : Array Value} {W : World} {B k : Nat} {l : List UInt8} (h : Calls Try.prog f args W fun e w' => ∃ v, e = .returned v ∧ RowT eBy 5 w' B v l ∧ Below W.heap.size W w') (hk : l.length = k) :
    Calls Try.prog f args W fun e w' => ∃ A c, e = .returned (.slice A k c) ∧ RowT eBy 5 w' B (.slice A k c) l ∧ Below W.heap.size W w' := by
  refine h.mono ?_
  rintro e w' ⟨v, h1, h2, h3⟩
  obtain ⟨A, c, hv, _⟩ := h2.form
  rw [hk] at hv
  subst hv
  exact ⟨A, c, h1, h2, h3⟩
/-- A byte turned is a byte. -/
theorem xor_byte (y : UInt8) (n : Nat) : ∃ z : UInt8, bits .xor .u8 (y.toNat : Int) ((n : Int) % 256) = (z.toNat : Int) := by
  have h : ∀ x : Int, ∃ z : UInt8, IntKind.u8.wrap x = (z.toNat : Int) := fun x => by
    refine ⟨UInt8.ofNat (x % 256).toNat, ?_⟩
    show x % 256 = _
    have : (UInt8.ofNat (x % 256).toNat).toNat = (x % 256).toNat := by
      simp
      omega
    rw [this]
    omega
  exact h _
theorem Wst.fr5 {w W W' : World} {g dg qw q : Nat} {x : OpX} {j : Jn} {d : Dk} {u : Value} {H : Int} {lap : Nat} {v : Value} {L : List Sec} (h : Wst w W g dg qw q x j d u H lap v L) (hf : Fr [5] [] w.heap.size W W') : Wst w W' g dg qw q x j d u H lap v L :=
  ⟨⟨h.run.jb.fr hf (by simp) (by simp), h.run.dk.keep hf (by simp) (by simp) (by simp) (by simp), h.run.bel.trans hf.below, h.run.ge⟩, hf.keep qw _ h.box (by simp [kd]) (by simp), hf.keep q _ h.ob (by simp [kd]) (by simp), h.row.fr hf (by simp) (by simp), h.lo⟩
set_option maxHeartbeats 16000000 in
theorem writes_walk (a0 : Int) (A : Option Addr) (n0 c : Nat) (l : List OpX) (w : World) (ho : Ops w A l) (hm : l.length = n0) : Calls Try.prog 3 #[.int .i64 a0, .slice A n0 c] w fun e w' => e = .returned (.bool true) ∧ Below w.heap.size w w' := by
  have HO := Lib.hid ho
  have HM := Lib.hid hm
  have CA := Lib.hid (awake_any w)
  obtain ⟨N, hN4, hN35, CZ0⟩ := size_any a0
  have CZ := Lib.hid CZ0
  obtain ⟨n, hH⟩ : ∃ n, n = N / 2 := ⟨_, rfl⟩
  have hw3 : (N : Int) / 2 = (n : Int) := by omega
  have hw2 : (N : Int).tdiv 2 = (n : Int) := by rw [Int.tdiv_eq_ediv_of_nonneg (by omega)]; omega
  have HNB : Hid (4 ≤ N ∧ N ≤ 35 ∧ 2 ≤ n ∧ n ≤ 17 ∧ n = N / 2) := ⟨hN4, hN35, by omega, by omega, hH⟩
  have hn17 : (n : Int) ≤ 17 := by omega
  have hn2 : (2 : Int) ≤ (n : Int) := by omega
  have hN35i : (N : Int) ≤ 35 := by omega
  clear ho hm CZ0 hN4 hN35 hH
  go_enter Try.func3, Try.ntmps3
  go_upto_region 3 with (go_at_call 8; refine CA.out.mono ?_; rintro e w1 ⟨rfl, b1⟩)
  have CN := Lib.hid (st_new (w0 := w) (W := w1) N (by have := HNB.out; omega) (by have := HNB.out; omega) b1)
  clear CA b1
  go_wp2_with fail
  refine (CZ.out _).mono ?_
  rintro e wz ⟨rfl, rfl⟩
  go_upto_region 4 with (go_at_call 9; refine CN.out.mono ?_; rintro e w2 ⟨dg, rfl, s2, _⟩)
  have HS2 := Lib.hid s2
  clear CN s2
  go_wp2_with fail
  refine (CZ.out _).mono ?_
  rintro e wz ⟨rfl, rfl⟩
  clear CZ
  have CO := run_open HS2.out (by rfl) (by simp [newD]; have := HNB.out; omega)
  unfold OPost at CO
  have e0 : seen (newD N).K (newD N).ps = (newD N).K := rfl
  have e1 : (newD N).K.length / 2 = n := by simp [newD]; have := HNB.out; omega
  rw [e0, e1] at CO
  have CO1 := Lib.hid CO
  have HWT := Lib.hid (new_opened N n HNB.out.1 HNB.out.2.2.2.2)
  clear CO e0 e1
  go_upto_region 6 with (go_at_call 11; refine CO1.out.mono ?_; rintro e w3 ⟨g, A0, m0, c0, rfl, _, r3, _, _⟩)
  have R3 := Lib.hid r3
  clear CO1 r3 HS2 hw2 hw3
  generalize lookJ (newD N).K (j0 n) = jj at *
  generalize newD N = dd at *
  go_upto_region 8 with fail
  have CS := sectors_any R3.out.st HWT.out.qt.dn
  rw [HWT.out.qt.ps, seen_nil] at CS
  have HCS := Lib.hid CS
  clear CS
  go_wp2_with fail
  refine HCS.out.mono ?_
  rintro e w4 ⟨v4, rfl, row4, b4⟩
  clear HCS
  obtain ⟨A4, c4, hv4, sl4, hc4, _, hz4⟩ := row4.sl row4.small
  have hl4 : (dd.K.map tx).length = N := by rw [List.length_map, HWT.out.len]
  rw [hl4] at hv4 hc4
  subst hv4
  obtain ⟨b4', o4', rfl, _, _⟩ := sl4.2 (by rw [hl4]; have := HNB.out; omega)
  have CP := refopen_any dd.K b4' o4' N c4 w4 sl4 HWT.out.len HNB.out.1 (by have := HNB.out; omega) hc4
  rw [← HNB.out.2.2.2.2] at CP
  have HCP := Lib.hid CP
  have R4 := Lib.hid (R3.out.below b4)
  clear CP R3 row4 b4 sl4 hl4 hc4 hz4
  go_wp2_with fail
  refine HCP.out.mono ?_
  rintro e w5 ⟨v5, rfl, row5, b5⟩
  obtain ⟨A5, c5, hv5, -⟩ := row5.form
  obtain ⟨n5, hn5⟩ : ∃ n5, n5 = ((openO dd.K n).L.map txt).length := ⟨_, rfl⟩
  rw [← hn5] at hv5
  subst hv5
  have R5 := Lib.hid (R4.out.below b5)
  obtain ⟨H5, hH5⟩ : ∃ H5, H5 = (openO dd.K n).H := ⟨_, rfl⟩
  obtain ⟨lap5, hlap5⟩ : ∃ lap5, lap5 = (openO dd.K n).lap := ⟨_, rfl⟩
  rw [← hH5, ← hlap5] at HWT ⊢
  clear row5 b5 hn5 hH5 hlap5 R4 HCP
  have bA : Below w5.heap.size w5 (w5.alloc (.cells #[.slice A5 n5 c5, .int .i64 H5, .int .i64 (lap5 : Int)] 35)) := (Below.refl _ _).alloc (Nat.le_refl _) _
  have R6 := R5.out.below bA
  have x6 : RefB (w5.alloc (.cells #[.slice A5 n5 c5, .int .i64 H5, .int .i64 (lap5 : Int)] 35)) w5.heap.size (.slice A5 n5 c5) H5 lap5 := heap_new _ _
  obtain ⟨qw, hqw⟩ : ∃ qw, qw = w5.heap.size := ⟨_, rfl⟩
  rw [← hqw] at x6
  obtain ⟨w6, hw6⟩ : ∃ w6, w6 = w5.alloc (.cells #[.slice A5 n5 c5, .int .i64 H5, .int .i64 (lap5 : Int)] 35) := ⟨_, rfl⟩
  rw [← hw6] at x6 R6
  have HS0 : Hid (WtS w w6 g dg qw jj dd N n 0 false 0 0 H5 lap5) := ⟨R6, ⟨_, x6⟩, by rw [hqw]; exact R5.out.bel.size, HWT.out⟩
  have HW6 := Lib.hid hw6
  have HQW := Lib.hid hqw
  clear R5 R6 x6 bA hqw hw6 HWT
  go_wp2_with fail
  rw [← HW6.out, ← HQW.out]
  clear HW6 HQW
  go_loopw [8, 10, 12, 13, 14, 15] (fun s8 _ s12 s13 s14 s15 wr => ∃ (i g : Nat) (j : Jn) (d : Dk) (st : Bool) (a m : Nat) (H : Int) (lap : Nat), i ≤ n0 ∧ i ≤ 40 ∧ s8 = .pointer (some ⟨g, 0, none⟩) ∧ s12 = .bool st ∧ s13 = .int .i64 (a : Int) ∧ s14 = .int .i64 (m : Int) ∧ s15 = .int .i64 (i : Int) ∧ WtS w wr g dg qw j d N n i st a m H lap) (fun _ _ _ _ _ s _ => n0 - (intOf s).toNat)
  case atStart => exact ⟨0, g, jj, dd, false, 0, 0, H5, lap5, Nat.zero_le _, by omega, rfl, rfl, rfl, rfl, rfl, HS0.out⟩
  case round =>
    clear HS0
    obtain ⟨i, g, j, d, st, a, m, H, lap, hi, hi40, rfl, rfl, rfl, rfl, rfl, hs⟩ := hrel
    have HS := Lib.hid hs
    have hi0 : (0 : Int) ≤ (i : Int) := by omega
    by_cases hc : i < n0 ∧ i < 40
    · obtain ⟨hi1, hi2⟩ := hc
      have hil : i < l.length := by rw [HM.out]; exact hi1
      obtain ⟨b, off, rfl, hbs, hc⟩ := (HO.out.1.below (Nat.le_refl _) hs.run.bel).at_ hil
      have XO := Lib.hid (HO.out.2 l[i] (List.getElem_mem hil))
      have e0 := hc 0 _ rfl
      have e1 := hc 1 _ rfl
      have e2 := hc 2 _ rfl
      rw [show eOp.wd = 3 from rfl] at e0 e1 e2
      rw [Nat.add_zero] at e0
      generalize l[i] = x at e0 e1 e2 XO
      rw [show x.B.x.v = .slice x.B.x.A x.B.x.n x.B.x.c from rfl] at e2
      have hii : (i : Int) < (n0 : Int) := by omega
      have hi40i : (i : Int) < 40 := by omega
      have HIM : Hid (i + 1 ≤ n0 ∧ i + 1 ≤ 40) := ⟨hi1, hi2⟩
      obtain ⟨W0, rfl⟩ : ∃ W0, W0 = wr := ⟨wr, rfl⟩
      obtain ⟨u, hbx⟩ := hs.box
      have HBX := Lib.hid hbx
      clear hbs hil hc hi hi40 hi1 hi2 hs hbx
      go_upto_region 14 with fail
      have bA : Below W0.heap.size W0 (W0.alloc (.cells #[.int .i64 x.K, .int .i64 x.N, .slice x.B.x.A x.B.x.n x.B.x.c] 40)) := (Below.refl _ _).alloc (Nat.le_refl _) _
      have hob : (W0.alloc (.cells #[.int .i64 x.K, .int .i64 x.N, .slice x.B.x.A x.B.x.n x.B.x.c] 40)).heap[W0.heap.size]? = some (.cells #[.int .i64 x.K, .int .i64 x.N, x.B.x.v] 40 (0, 0)) := heap_new _ _
      generalize W0.alloc (.cells #[.int .i64 x.K, .int .i64 x.N, .slice x.B.x.A x.B.x.n x.B.x.c] 40) = W1 at bA hob ⊢
      generalize W0.heap.size = q at hob ⊢
      have R1 := Lib.hid (HS.out.run.below bA)
      have B1 := Lib.hid (HBX.out.below bA)
      have HOB := Lib.hid hob
      have HLO := Lib.hid HS.out.lo
      have HW := Lib.hid HS.out.wt
      have g2 : W1.cell? ⟨q, 2, none⟩ = some (.slice x.B.x.A x.B.x.n x.B.x.c) := by rw [cell_of hob]; rfl
      clear bA hob HBX HS e0 e1 e2
      by_cases hbig : 3000 < x.B.x.n
      · have hbi : (3000 : Int) < (x.B.x.n : Int) := by omega
        have HB := Lib.hid R1.out.bel
        go_wp2_with fail
        go_ret
        exact ⟨rfl, HB.out⟩
      · have hbi : ¬ (3000 : Int) < (x.B.x.n : Int) := by omega
        have HBI : Hid (x.B.x.n ≤ 3000) := by show _ ≤ _; omega
        clear hbig
        have CS := sectors_any R1.out.st HW.out.qt.dn
        rw [HW.out.qt.ps, seen_nil] at CS
        have HCS := Lib.hid CS
        clear CS
        go_wp2_with fail
        refine HCS.out.mono ?_
        rintro e w4 ⟨v, rfl, row4, b4⟩
        obtain ⟨Av, cv, hv, -⟩ := row4.form
        have hl4 : (d.K.map tx).length = N := by rw [List.length_map, HW.out.len]
        rw [hl4] at hv
        subst hv
        have P4 : Hid (Wst w w4 g dg qw q x j d u H lap (.slice Av N cv) d.K) := ⟨R1.out.below b4, B1.out.below b4, (b4.block q (lt_of_heap HOB.out)).trans HOB.out, row4.down R1.out.bel.size, HLO.out⟩
        have k0 := P4.out.c0
        clear HCS row4 b4 hl4 R1 B1 HOB HLO g2
        go_upto_block 2 with fail
        clear k0
        go_cut [8, 10, 12, 13, 14, 18, 19, 20, 21, 22, 23, 24, 25, 26, 27, 28] from 78 to 247 (fun s8 _ s12 s13 s14 _ _ _ _ _ _ _ _ _ _ _ wx => CutW w dg qw q x N n (i + 1) (.slice Av N cv) s8 s12 s13 s14 wx)
        case first =>
          go_upto_block 6 with fail
          go_cut [12, 18, 19, 20, 21, 22, 23, 24, 25, 26, 27] from 78 to 229 (fun _ _ _ _ _ _ _ _ _ _ _ wx => CutM w g dg qw q x j N i u H lap (.slice Av N cv) wx)
          case first =>
            obtain ⟨K, I, B⟩ := x
            by_cases hK0 : K = 0
            · subst hK0
              as_aux_lemma =>
                have hcl := HIM.out
                have c2 := P4.out.box.c2
                have cb := P4.out.c2
                have hcv := conv_by (XO.out.b.s.below (Nat.le_refl _) P4.out.run.bel) XO.out.b.n B.x.c
                have hts := txt_size B.l
                dsimp only at cb hcv
                have hln : B.l.length = B.x.n := XO.out.b.n
                have CS := refsecs_any lap m B.l w4 (Nat.le_of_lt HW.out.ll) (by have := HW.out.a_le; omega) (by have := HBI.out; dsimp only at this; omega)
                obtain ⟨T, hT⟩ : ∃ T, T = txt B.l := ⟨_, rfl⟩
                rw [← hT] at hcv CS
                obtain ⟨S, hS⟩ : ∃ S, S = secsOf lap m B.l := ⟨_, rfl⟩
                rw [← hS] at CS
                obtain ⟨ms, hms⟩ : ∃ ms, ms = S.length := ⟨_, rfl⟩
                have HCS := Lib.hid (row_ans CS (k := ms) (by rw [List.length_map, hms]))
                have HLN := Lib.hid hln
                clear CS hT hts hcl hln
                go_wp2_with fail
                refine HCS.out.mono ?_
                rintro e w5 ⟨As, cs, rfl, rowS, b5⟩
                dsimp only
                have P5 := Lib.hid (P4.out.below b5)
                have hmp : partsN B.l.length = ms := by rw [hms, hS, secsOf_length]
                have hap : Apart (.slice As ms cs) (.slice Av N cv) := fun k hk he => by
                  have h1 := (rowS.own hk).1
                  have h2 := P4.out.row.lt k he
                  omega
                have HSE := Lib.hid hS
                have HMS := Lib.hid hms
                have HMP := Lib.hid hmp
                have HAP := Lib.hid hap
                have ROWS := Lib.hid rowS
                have hms64 : ms ≤ 3000 := by rw [← hmp, HLN.out]; have := HBI.out; dsimp only at this; unfold partsN; omega
                have HFT := Lib.hid (HW.out.fits (by have := HNB.out; omega))
                have CA := P5.out.append (b := B) XO.out.b (by rw [HW.out.sz]; have := HNB.out; omega) (by rw [HW.out.sz]; exact HW.out.us) HFT.out.1 (by have := HFT.out.2; have := HIM.out; omega) (by have := HBI.out; dsimp only at this; omega) (by have := HW.out.sp; have := HIM.out; omega) (by rw [HW.out.qt.ps]; exact Nat.zero_le _)
                have cb5 := P5.out.c2
                dsimp only at cb5
                have HMS64 := Lib.hid hms64
                have hmi : (ms : Int) ≤ 3000 := by omega
                clear rowS b5 hS hms hmp hap P4 c2 cb hcv HCS hms64
                cases st with
                | false =>
                  rw [HW.out.app_off B.l] at CA
                  have HCA := Lib.hid CA
                  clear CA
                  go_wp2_with fail
                  refine HCA.out.mono ?_
                  rintro e w6 ⟨rfl, p6, f6⟩
                  dsimp only
                  have P6 := Lib.hid p6
                  clear p6 f6 HCA P5
                  go_wp2_with fail
                  go_meet
                  case rel => exact ⟨g, j, d, false, a, m, H, lap, u, rfl, rfl, rfl, rfl, P6.out, HW.out.more⟩
                | true =>
                  have hai : (a : Int) ≤ 17 := by have := HW.out.a_le; have := HNB.out; omega
                  have hsub : IntKind.i64.wrap ((n : Int) - (a : Int)) = (n : Int) - (a : Int) := IntWalk.i64_in _ (by omega)
                  by_cases hfit : ms ≤ n - a
                  · obtain ⟨d', j', f, ea, hwt, hHf, hfN, hK, hH01⟩ := HW.out.app (r := B.l) (by rw [HMP.out]; exact hfit) (by have := HNB.out; omega)
                    rw [ea] at CA
                    rw [HMP.out] at hwt hfN
                    rw [← HSE.out] at hK
                    have HWT := Lib.hid hwt
                    have HFN := Lib.hid hfN
                    have HK := Lib.hid hK
                    have HCA := Lib.hid CA
                    have hfi : ¬ (n : Int) - (a : Int) < (ms : Int) := by have := HW.out.a_le; omega
                    have hmsn : (ms : Int) ≤ 17 := by have := HNB.out; omega
                    clear CA ea hwt hfN hK hfit hH01
                    go_wp2_with fail
                    refine HCA.out.mono ?_
                    rintro e w6 ⟨rfl, p6, f6⟩
                    dsimp only
                    have P6 := Lib.hid p6
                    have ROW6 := Lib.hid (P5.out.rowfr f6 ROWS.out)
                    clear p6 f6 HCA P5 ROWS
                    go_wp2_with fail
                    as_aux_lemma =>
                      have hfab : (f : Int) + (a : Int) ≤ 35 := by have := HFN.out; have := HNB.out; omega
                      have hfb : (f : Int) ≤ 35 := by omega
                      have hf0 : (0 : Int) ≤ (f : Int) := by omega
                      have hmb : (m : Int) ≤ 40 := by have := HW.out.a_le; have := HIM.out; omega
                      go_loopw [98] (fun s98 wr => ∃ k : Nat, k ≤ ms ∧ s98 = .int .i64 (k : Int) ∧ Wst w wr g dg qw q ⟨0, I, B⟩ j' d' u H lap (.slice Av N cv) (ovw d.K (f + a) (S.take k)) ∧ RowT eKy 9 wr w4.heap.size (.slice As ms cs) (S.map tx)) (fun s _ => ms - (intOf s).toNat)
                      case atStart => exact ⟨0, Nat.zero_le _, rfl, P6.out, ROW6.out⟩
                      case round =>
                        clear P6 ROW6
                        obtain ⟨k, hk, rfl, p, rs⟩ := hrel
                        have HP := Lib.hid p
                        have HR := Lib.hid rs
                        by_cases hlt : k < ms
                        · have hks : k < S.length := by rw [← HMS.out]; exact hlt
                          have hpl : f + a + k < (ovw d.K (f + a) (S.take k)).length := by rw [ovw_length, HW.out.len]; have := HFN.out; omega
                          obtain ⟨A2, c2', hv2, sl2, -⟩ := rs.sl rs.small
                          injection hv2 with h1 h2 h3
                          subst h1 h3
                          obtain ⟨b2, off2, rfl, d2⟩ := at_tx sl2 hks
                          obtain ⟨gw, rfl, y1, y2, p2, hrow, _⟩ := p.drew.set (k := f + a + k) hpl (at_ S k)
                          have hrow2 := hrow (rs.below (Below.refl _ _).drew) HAP.out
                          rw [← ovw_take hks] at p2
                          have c1 := p.drew.box.c1
                          have d3 : wr.drew.cell? ⟨b2, off2 + k, none⟩ = some (.string (tx (at_ S k))) := d2
                          obtain ⟨X, hX⟩ : ∃ X, X = tx (at_ S k) := ⟨_, rfl⟩
                          rw [← hX] at p2 hrow2 d3
                          generalize tx (at_ (ovw d.K (f + a) (S.take k)) (f + a + k)) = Y at y1
                          obtain ⟨w2, hw2⟩ : ∃ w2, wr.drew = w2 := ⟨_, rfl⟩
                          rw [hw2] at p2 hrow2 d3 y1 y2 c1
                          have P2 := Lib.hid p2
                          have HR2 := Lib.hid hrow2
                          have HW2 := Lib.hid hw2
                          have HLT : Hid (k + 1 ≤ ms) := hlt
                          have hki : (k : Int) < (ms : Int) := by omega
                          have hk0 : (0 : Int) ≤ (k : Int) := by omega
                          have hpk : (f : Int) + (a : Int) + (k : Int) < (N : Int) := by have := HFN.out; omega
                          clear h2 sl2 d2 hrow hks hpl p rs p2 hrow2 hX hw2 hk hlt HP HR
                          go_wp2_with fail
                          refine wp_region_still_tail 13 (by kernel_rfl) (by kernel_rfl) ?_
                          change wpStill _ _ wr.drew (fun a' => wpList _ _ _ _ a' wr.drew) _ _
                          rw [HW2.out]
                          simp only [List.take_succ_cons, List.take_zero, List.drop_succ_cons, List.drop_zero]
                          repeat still_step
                          refine wpStill_nil ?_
                          go_wp2_with fail
                          go_roundw
                          case rel => exact ⟨k + 1, HLT.out, by go_num, P2.out, HR2.out⟩
                          case measure => simp [intOf]; have := HLT.out; omega
                        · have hkm : k = ms := by omega
                          subst hkm
                          have hki : ¬ (k : Int) < (k : Int) := by omega
                          have hE : Hid (ovw d.K (f + a) (S.take k) = d'.K) := by
                            show _ = _
                            rw [HK.out, List.take_of_length_le (by rw [← HMS.out]; exact Nat.le_refl _)]
                          clear hlt hk p rs
                          go_wp2_with fail
                          go_meet
                          case rel => exact ⟨g, j', d', true, a + k, m + 1, H, lap, u, rfl, rfl, by go_num, by go_num, by rw [← hE.out]; exact HP.out, HWT.out⟩
                  · have hfi : (n : Int) - (a : Int) < (ms : Int) := by omega
                    rw [HW.out.app_full (r := B.l) (by rw [HMP.out]; omega)] at CA
                    have HCA := Lib.hid CA
                    clear CA hfit
                    go_wp2_with fail
                    refine HCA.out.mono ?_
                    rintro e w6 ⟨rfl, p6, f6⟩
                    dsimp only
                    have P6 := Lib.hid p6
                    clear p6 f6 HCA P5
                    go_wp2_with fail
                    go_meet
                    case rel => exact ⟨g, j, d, true, a, m, H, lap, u, rfl, rfl, rfl, rfl, P6.out, HW.out.more⟩
            · by_cases hK1 : K = 1
              · subst hK1
                as_aux_lemma =>
                  obtain ⟨A7, c7, hv7, sl7, -⟩ := P4.out.row.sl P4.out.row.small
                  injection hv7 with hv7a hv7b hv7c
                  subst hv7a hv7c
                  have CN := refnext_any d.K Av N cv w4 sl7 HW.out.len (by have := HNB.out; omega)
                  rw [← HNB.out.2.2.2.2] at CN
                  have hul := lastU_lt d.K (2 * n)
                  obtain ⟨up, hup⟩ : ∃ up, up = lastU d.K (2 * n) := ⟨_, rfl⟩
                  rw [← hup] at CN hul
                  have HUL := Lib.hid hul
                  have HUP := Lib.hid hup
                  have HCN := Lib.hid CN
                  clear sl7 hv7b CN hul hup
                  go_wp2_with fail
                  refine HCN.out.mono ?_
                  rintro e w5 ⟨rfl, rfl⟩
                  dsimp only
                  have cb := P4.out.c2
                  have hcv := conv_by (XO.out.b.s.below (Nat.le_refl _) P4.out.run.bel) XO.out.b.n B.x.c
                  dsimp only at cb hcv
                  have hln : B.l.length = B.x.n := XO.out.b.n
                  have CS := refsecs_any (up + 1) 0 B.l w4 (by have := HUL.out; omega) (by omega) (by have := HBI.out; dsimp only at this; omega)
                  rw [show ((up + 1 : Nat) : Int) = (up : Int) + 1 by push_cast; rfl, show ((0 : Nat) : Int) = 0 from rfl] at CS
                  obtain ⟨T, hT⟩ : ∃ T, T = txt B.l := ⟨_, rfl⟩
                  rw [← hT] at hcv CS
                  obtain ⟨S, hS⟩ : ∃ S, S = secsOf (up + 1) 0 B.l := ⟨_, rfl⟩
                  rw [← hS] at CS
                  obtain ⟨ms, hms⟩ : ∃ ms, ms = S.length := ⟨_, rfl⟩
                  have HCS := Lib.hid (row_ans CS (k := ms) (by rw [List.length_map, hms]))
                  have HLN := Lib.hid hln
                  clear CS hT hln HCN
                  go_wp2_with fail
                  refine HCS.out.mono ?_
                  rintro e w5 ⟨As, cs, rfl, rowS, b5⟩
                  dsimp only
                  have P5 := Lib.hid (P4.out.below b5)
                  have hmp : partsN B.l.length = ms := by rw [hms, hS, secsOf_length]
                  have hap : Apart (.slice As ms cs) (.slice Av N cv) := fun k hk he => by
                    have h1 := (rowS.own hk).1
                    have h2 := P4.out.row.lt k he
                    omega
                  have HSE := Lib.hid hS
                  have HMS := Lib.hid hms
                  have HMP := Lib.hid hmp
                  have HAP := Lib.hid hap
                  have ROWS := Lib.hid rowS
                  have hms64 : ms ≤ 3000 := by rw [← hmp, HLN.out]; have := HBI.out; dsimp only at this; unfold partsN; omega
                  have CA := P5.out.start (b := B) XO.out.b (by rw [HW.out.sz, HW.out.len]; have := HNB.out; omega) (by rw [HW.out.sz]; have := HNB.out; omega) (by rw [HW.out.sz]; exact HW.out.fr) (by have := HBI.out; dsimp only at this; omega) (by have := HW.out.sp; have := HIM.out; omega) (by rw [HW.out.qt.ps]; exact Nat.zero_le _)
                  have cb5 := P5.out.c2
                  dsimp only at cb5
                  have hmi : (ms : Int) ≤ 3000 := by omega
                  clear rowS b5 hS hms hmp hap P4 cb hcv HCS hms64
                  by_cases hbad : n < ms ∨ 2147483647 ≤ up
                  · obtain ⟨es, hwt⟩ := HW.out.start_full (r := B.l) (by rw [HMP.out, ← HUP.out]; exact hbad)
                    rw [es] at CA
                    have HWT := Lib.hid hwt
                    have HCA := Lib.hid CA
                    clear CA es hwt
                    go_wp2_with fail
                    refine HCA.out.mono ?_
                    rintro e w6 ⟨rfl, p6, f6⟩
                    dsimp only
                    have P6 := Lib.hid p6
                    clear p6 f6 HCA P5 ROWS
                    by_cases h1 : n < ms
                    · have h1i : (n : Int) < (ms : Int) := by omega
                      clear h1 hbad
                      go_wp2_with fail
                      go_meet
                      case rel => exact ⟨g, lookJ d.K j, d, st, a, m, H, lap, u, rfl, rfl, rfl, rfl, P6.out, HWT.out⟩
                    · have h1i : ¬ (n : Int) < (ms : Int) := by omega
                      have h2i : (2147483647 : Int) < (up : Int) + 1 := by omega
                      clear h1 hbad
                      go_wp2_with fail
                      go_meet
                      case rel => exact ⟨g, lookJ d.K j, d, st, a, m, H, lap, u, rfl, rfl, rfl, rfl, P6.out, HWT.out⟩
                  · obtain ⟨d', j', ea, hwt, hK⟩ := HW.out.begin (r := B.l) (by rw [HMP.out]; omega) (by rw [← HUP.out]; omega) (by have := HNB.out; omega) (by have := HNB.out; omega) (by have := HNB.out; omega)
                    rw [ea] at CA
                    rw [HMP.out, ← HUP.out] at hwt
                    rw [← HUP.out, ← HSE.out] at hK
                    obtain ⟨TT, hTT⟩ : ∃ TT : Int, TT = if H = 0 then 1 else 0 := ⟨_, rfl⟩
                    obtain ⟨f, hf⟩ : ∃ f : Nat, f = if H = 0 then n else 0 := ⟨_, rfl⟩
                    rw [← hTT] at hwt
                    rw [← hf] at hK
                    have hmul : TT * (n : Int) = (f : Int) := by
                      rw [hTT, hf]
                      by_cases e : H = 0
                      · rw [if_pos e, if_pos e]; omega
                      · rw [if_neg e, if_neg e]; omega
                    have hfb : (f : Int) ≤ 17 := by
                      rw [hf]
                      by_cases e : H = 0
                      · rw [if_pos e]; exact hn17
                      · rw [if_neg e]; decide
                    have HFN : Hid (f + ms ≤ N) := by
                      show _ ≤ _
                      have := HNB.out
                      rw [hf]
                      by_cases e : H = 0
                      · rw [if_pos e]; omega
                      · rw [if_neg e]; omega
                    have HWT := Lib.hid hwt
                    have HK := Lib.hid hK
                    have HTT := Lib.hid hTT
                    have HMUL := Lib.hid hmul
                    have HCA := Lib.hid CA
                    have h1i : ¬ (n : Int) < (ms : Int) := by omega
                    have h2i : ¬ (2147483647 : Int) < (up : Int) + 1 := by omega
                    have hf0 : (0 : Int) ≤ (f : Int) := by omega
                    clear CA ea hwt hK hTT hf hbad hmul
                    go_wp2_with fail
                    refine HCA.out.mono ?_
                    rintro e w6 ⟨rfl, p6, f6⟩
                    dsimp only
                    have P6 := Lib.hid p6
                    have ROW6 := Lib.hid (P5.out.rowfr f6 ROWS.out)
                    have c1 := p6.box.c1
                    clear p6 f6 HCA P5 ROWS
                    go_upto_if 161 with fail
                    go_cut [24] from 159 to 161 (fun s24 wx => s24 = .int .i64 TT ∧ w6 = wx)
                    case first =>
                      by_cases hH : H = 0
                      · have hd : decide (H = 0) = true := decide_eq_true hH
                        have hq : (H == 0) = true := by rw [hH]; rfl
                        have HE : Hid (TT = 1) := by show _ = _; rw [HTT.out, if_pos hH]
                        clear hH
                        go_wp2_with fail
                        go_meet
                        case rel => exact ⟨by rw [HE.out], rfl⟩
                      · have hd : decide (H = 0) = false := decide_eq_false hH
                        have hq : (H == 0) = false := by rw [beq_eq_false_iff_ne]; exact hH
                        have HE : Hid (TT = 0) := by show _ = _; rw [HTT.out, if_neg hH]
                        clear hH
                        go_wp2_with fail
                        go_meet
                        case rel => exact ⟨by rw [HE.out], rfl⟩
                    case rest =>
                      obtain ⟨rfl, rfl⟩ := hcut
                      have hmul := HMUL.out
                      clear c1
                      go_wp2_with fail
                      as_aux_lemma =>
                        go_loopw [164] (fun s164 wr => ∃ k : Nat, k ≤ ms ∧ s164 = .int .i64 (k : Int) ∧ Wst w wr g dg qw q ⟨1, I, B⟩ j' d' u H lap (.slice Av N cv) (ovw d.K f (S.take k)) ∧ RowT eKy 9 wr w4.heap.size (.slice As ms cs) (S.map tx)) (fun s _ => ms - (intOf s).toNat)
                        case atStart => exact ⟨0, Nat.zero_le _, rfl, P6.out, ROW6.out⟩
                        case round =>
                          clear P6 ROW6
                          obtain ⟨k, hk, rfl, p, rs⟩ := hrel
                          have HP := Lib.hid p
                          have HR := Lib.hid rs
                          by_cases hlt : k < ms
                          · have hks : k < S.length := by rw [← HMS.out]; exact hlt
                            have hpl : f + k < (ovw d.K f (S.take k)).length := by rw [ovw_length, HW.out.len]; have := HFN.out; omega
                            obtain ⟨A2, c2', hv2, sl2, -⟩ := rs.sl rs.small
                            injection hv2 with h1 h2 h3
                            subst h1 h3
                            obtain ⟨b2, off2, rfl, d2⟩ := at_tx sl2 hks
                            obtain ⟨gw, rfl, y1, y2, p2, hrow, _⟩ := p.set (k := f + k) hpl (at_ S k)
                            have hrow2 := hrow rs HAP.out
                            rw [← ovw_take hks] at p2
                            obtain ⟨X, hX⟩ : ∃ X, X = tx (at_ S k) := ⟨_, rfl⟩
                            rw [← hX] at p2 hrow2 d2
                            generalize tx (at_ (ovw d.K f (S.take k)) (f + k)) = Y at y1
                            have P2 := Lib.hid p2
                            have HR2 := Lib.hid hrow2
                            have HLT : Hid (k + 1 ≤ ms) := hlt
                            have hki : (k : Int) < (ms : Int) := by omega
                            have hk0 : (0 : Int) ≤ (k : Int) := by omega
                            have hpk : (f : Int) + (k : Int) < (N : Int) := by have := HFN.out; omega
                            clear h2 sl2 hrow hks hpl p rs p2 hrow2 hX hk hlt HP HR
                            go_wp2_with fail
                            go_roundw
                            case rel => exact ⟨k + 1, HLT.out, by go_num, P2.out, HR2.out⟩
                            case measure => simp [intOf]; have := HLT.out; omega
                          · have hkm : k = ms := by omega
                            subst hkm
                            have hki : ¬ (k : Int) < (k : Int) := by omega
                            have hE : ovw d.K f (S.take k) = d'.K := by rw [HK.out, List.take_of_length_le (by rw [← HMS.out]; exact Nat.le_refl _)]
                            rw [hE] at p
                            have c0 := p.box.c0
                            have c1 := p.box.c1
                            have c2 := p.box.c2
                            have z0 := p.box.fz 0
                            have z1 := p.box.fz 1
                            have z2 := p.box.fz 2
                            obtain ⟨p9, _⟩ := p.box3 (.slice none 0 0) TT (up + 1)
                            rw [show ((up + 1 : Nat) : Int) = (up : Int) + 1 by push_cast; rfl] at p9
                            have P9 := Lib.hid p9
                            clear hlt hk p rs hE p9 HP HR
                            go_wp2_with fail
                            go_meet
                            case rel => exact ⟨g, j', d', true, k, 1, TT, up + 1, .slice none 0 0, rfl, rfl, rfl, rfl, P9.out, HWT.out⟩
              · by_cases hK34 : K = 3 ∨ K = 4
                · as_aux_lemma =>
                    go_upto_block 5 with fail
                    go_cut [] from 78 to 84 (fun wx => w4 = wx)
                    case first =>
                      rcases hK34 with hK3 | hK4
                      · subst hK3
                        clear hK0 hK1
                        go_wp2_with fail
                        go_meet
                        case rel => exact rfl
                      · subst hK4
                        clear hK0 hK1
                        go_wp2_with fail
                        go_meet
                        case rel => exact rfl
                    case rest =>
                      subst hcut
                      obtain ⟨r63, hb63', hr63⟩ := mask_i64 I 63 (by omega)
                      have hb63 : bits .and .i64 I 63 = (r63 : Int) := hb63'
                      obtain ⟨kk, hkk⟩ : ∃ kk, kk = r63 % N := ⟨_, rfl⟩
                      have hkN : kk < N := by rw [hkk]; exact Nat.mod_lt _ (by have := HNB.out; omega)
                      have HKN := Lib.hid hkN
                      have hrem2 : (r63 : Int) % (N : Int) = (kk : Int) := by rw [hkk]; omega
                      have hrem : (r63 : Int).tmod (N : Int) = (kk : Int) := by rw [Int.tmod_eq_emod_of_nonneg (by omega)]; exact hrem2
                      have hN0 : ¬ (N : Int) = 0 := by have := HNB.out; omega
                      have hN1 : ((N : Int) == 0) = false := by rw [beq_eq_false_iff_ne]; exact hN0
                      have hr63i : (r63 : Int) ≤ 63 := by omega
                      have hr0 : (0 : Int) ≤ (r63 : Int) := by omega
                      have CL : Hid (∀ n, Calls Try.prog 18 #[.pointer (some ⟨dg, 0, none⟩)] (w4.drewN n) fun e w' => e = .returned (.int .i64 (N : Int)) ∧ w' = w4.drewN n) := fun n => by
                        have := len_any w.heap.size dg d _ (P4.out.run.dk.below (below_drewN w4 n))
                        rw [HW.out.len] at this
                        exact this.mono fun e w' h => ⟨h.1, h.2.symm⟩
                      have c1 := P4.out.c1
                      dsimp only at c1
                      have HB63 := Lib.hid hb63
                      clear hb63' hkk hkN hr63
                      go_upto_region 56 with fail
                      go_cut [26] from 186 to 191 (fun s26 wx => s26 = .int .i64 (kk : Int) ∧ Below w4.heap.size w4 wx)
                      case first =>
                        go_quiet (first | (go_at_call 18; exact Calls.quiet_of_same (CL.out _)))
                        go_wp2
                        go_meet
                        case rel => exact ⟨rfl, below_drewN _ _⟩
                      case rest =>
                        obtain ⟨rfl, b5⟩ := hcut
                        obtain ⟨w5, rfl⟩ : ∃ w5, w5 = wc := ⟨wc, rfl⟩
                        have P5 := Lib.hid (P4.out.below b5)
                        have c2 := P5.out.c2
                        dsimp only at c2
                        have CF := by_ans (full_any B.l B.x.A B.x.n B.x.c w5 (XO.out.b.s.below (Nat.le_refl _) P5.out.run.bel) XO.out.b.n) (k := 64) (fullL_length _)
                        have HCF := Lib.hid CF
                        clear c1 b5 CL CF hrem hrem2 P4 hN0 hN1
                        go_wp2_with fail
                        refine HCF.out.mono ?_
                        rintro e w6 ⟨Af, cf, rfl, rf, b6⟩
                        dsimp only
                        have P6 := Lib.hid (P5.out.below b6)
                        have BF := Lib.hid ((buf_row rf (by rw [fullL_length]; omega) (by rw [fullL_length]; unfold maxLen; omega)).down P5.out.run.bel.size)
                        have c0 := P6.out.c0
                        dsimp only at c0
                        clear c2 rf b6 HCF P5
                        go_upto_if 197 with fail
                        go_cut [27] from 195 to 214 (fun s27 wx => ∃ (Ab : Option Addr) (cb : Nat) (lb : List UInt8), s27 = .slice Ab 64 cb ∧ lb.length = 64 ∧ BufB wx w.heap.size Ab lb ∧ Wst w wx g dg qw q ⟨K, I, B⟩ j d u H lap (.slice Av N cv) d.K)
                        case first =>
                          rcases hK34 with hK3 | hK4
                          · subst hK3
                            clear hK0 hK1 hb63
                            go_wp2_with fail
                            go_meet
                            case rel => exact ⟨Af, cf, fullL B.l, rfl, fullL_length _, BF.out, P6.out⟩
                          · subst hK4
                            clear hK0 hK1
                            as_aux_lemma =>
                              obtain ⟨A2, c2', hv2, sl2, -⟩ := P6.out.row.sl P6.out.row.small
                              injection hv2 with h1 h2 h3
                              subst h1 h3
                              obtain ⟨b2, off2, hA2, d2⟩ := at_tx sl2 (k := kk) (by rw [HW.out.len]; exact HKN.out)
                              subst hA2
                              obtain ⟨cc, w7, hrun, b7, bf7⟩ := buf_conv w6 (at_ d.K kk).v (by rw [(at_ d.K kk).h]; unfold maxLen; omega)
                              rw [(at_ d.K kk).h] at hrun
                              have htx : tx (at_ d.K kk) = txt (at_ d.K kk).v := rfl
                              rw [htx] at d2
                              obtain ⟨lk, hlk⟩ : ∃ lk, lk = (at_ d.K kk).v := ⟨_, rfl⟩
                              have hl64 : lk.length = 64 := by rw [hlk, (at_ d.K kk).h]
                              rw [← hlk] at hrun bf7 d2
                              obtain ⟨T, hT⟩ : ∃ T, T = txt lk := ⟨_, rfl⟩
                              rw [← hT] at hrun d2
                              have P7 := Lib.hid (P6.out.below b7)
                              obtain ⟨qb, hqb⟩ : ∃ qb, qb = w6.heap.size := ⟨_, rfl⟩
                              rw [← hqb] at hrun bf7
                              have hbs : w.heap.size ≤ qb := by rw [hqb]; exact P6.out.run.bel.size
                              have hrl : r63 < lk.length := by rw [hl64]; omega
                              have bfd := (bf7.down hbs).below (Below.refl w7.heap.size w7).drew
                              obtain ⟨z, hz⟩ := xor_byte (lk[r63]'hrl) B.x.n
                              obtain ⟨qb2, e1, y1, y2, bf8, f8⟩ := bfd.set hrl z
                              injection e1 with e1
                              injection e1 with e1 _ _
                              subst e1
                              have k1 := P7.out.drew.c1
                              have k2 := P7.out.drew.c2
                              dsimp only at k1 k2
                              have P8 : Hid (Wst w (w7.drew.setCell ⟨qb, r63, none⟩ (.int .u8 (z.toNat : Int))) g dg qw q ⟨4, I, B⟩ j d u H lap (.slice (some ⟨b2, off2, none⟩) N cv) d.K) := P7.out.drew.fr5 f8
                              have BF8 := Lib.hid bf8
                              obtain ⟨yb, hyb⟩ : ∃ yb, yb = (lk[r63]'hrl).toNat := ⟨_, rfl⟩
                              rw [← hyb] at hz y1
                              obtain ⟨zn, hzn⟩ : ∃ zn, zn = z.toNat := ⟨_, rfl⟩
                              rw [← hzn] at hz P8 BF8
                              obtain ⟨w8, hw8⟩ : ∃ w8, w7.drew = w8 := ⟨_, rfl⟩
                              rw [hw8] at y1 y2 k1 k2 P8 BF8
                              have HW8 := Lib.hid hw8
                              have HL8 : Hid ((lk.set r63 z).length = 64) := by show _ = _; rw [List.length_set]; exact hl64
                              have hkNi : (kk : Int) < (N : Int) := by have := HKN.out; omega
                              have hk0 : (0 : Int) ≤ (kk : Int) := by omega
                              have hr64 : (r63 : Int) < 64 := by omega
                              have hnb : (B.x.n : Int) ≤ 3000 := by have := HBI.out; dsimp only at this; omega
                              have hnb0 : (0 : Int) ≤ (B.x.n : Int) := by omega
                              clear h2 sl2 bf7 htx hlk hT b7 hqb hrl bfd bf8 f8 hyb hzn hw8 c0 P6 BF hl64 hbs P7
                              go_wp2_with (refine wpList_value rfl (exec_convert rfl rfl hrun) ?_)
                              refine wp_region_still_tail 11 (by kernel_rfl) (by kernel_rfl) ?_
                              change wpStill _ _ w7.drew (fun a' => wpList _ _ _ _ a' w7.drew) _ _
                              rw [HW8.out]
                              simp only [List.take_succ_cons, List.take_zero, List.drop_succ_cons, List.drop_zero]
                              repeat still_step
                              refine wpStill_nil ?_
                              go_wp2_with fail
                              go_meet
                              case rel =>
                                rw [hz]
                                exact ⟨some ⟨qb, 0, none⟩, cc, lk.set r63 z, rfl, HL8.out, BF8.out, P8.out⟩
                        case rest =>
                          as_aux_lemma =>
                            obtain ⟨Ab, cb, lb, rfl, hlb, bb, p⟩ := hcut
                            obtain ⟨w7, rfl⟩ : ∃ w7, w7 = wc := ⟨wc, rfl⟩
                            have P7 := Lib.hid p
                            have BB := Lib.hid bb
                            have HLB := Lib.hid hlb
                            have HKD : Hid (kk < d.K.length) := by show _ < _; rw [HW.out.len]; exact HKN.out
                            obtain ⟨e1, e2, e3, e4⟩ := wrote HW.out.qt (k := kk) HKD.out hlb
                            have CW := p.write (c := cb) (kk : Int) (by have := HW.out.sp; have := HIM.out; omega) (by rw [HW.out.qt.ps]; exact Nat.zero_le _) hlb bb
                            rw [e1] at CW
                            have HCW := Lib.hid CW
                            have E2 := Lib.hid e2
                            have E3 := Lib.hid e3
                            have E4 := Lib.hid e4
                            clear hlb bb p e1 e2 e3 e4 CW c0 P6 BF hb63
                            go_wp2_with fail
                            refine HCW.out.mono ?_
                            rintro e w8 ⟨rfl, p8, bb8⟩
                            dsimp only
                            have CY := p8.sync (by rw [E4.out]; have := HW.out.sp; have := HIM.out; omega) bb8
                            rw [E2.out, if_pos rfl, if_pos rfl] at CY
                            have HCY := Lib.hid CY
                            clear p8 bb8 CY HCW
                            go_wp2_with fail
                            refine HCY.out.mono ?_
                            rintro e w9 ⟨rfl, p9, bb9⟩
                            dsimp only
                            rw [E3.out] at p9
                            have hcv := conv_by bb9.sl HLB.out cb
                            obtain ⟨T, hT⟩ : ∃ T, T = txt lb := ⟨_, rfl⟩
                            rw [← hT] at hcv
                            have hTx : tx (secOf lb) = T := by unfold tx; rw [secOf_v HLB.out, hT]
                            obtain ⟨gw, rfl, y1, y2, p10, -, -⟩ := p9.set (k := kk) HKD.out (secOf lb)
                            rw [hTx] at p10
                            have P10 := Lib.hid p10
                            have HQT : Hid (Qt ⟨d.K.set kk (secOf lb), [], -1, false, d.steps + 2⟩) := ⟨rfl, rfl, rfl⟩
                            have hkNi : (kk : Int) < (N : Int) := by have := HKN.out; omega
                            have hk0 : (0 : Int) ≤ (kk : Int) := by omega
                            generalize tx (at_ d.K kk) = Y at y1
                            clear p9 bb9 hT hTx p10 HCY
                            go_wp2_with fail
                            go_meet
                            case rel => exact ⟨⟨d.K.set kk (secOf lb), [], -1, false, d.steps + 2⟩, P10.out, HQT.out, by show (d.K.set kk (secOf lb)).length = N; rw [List.length_set, HW.out.len], by show d.steps + 2 ≤ _; have := HW.out.sp; omega⟩
                · have n3 : ¬ K = 3 := fun h => hK34 (.inl h)
                  have n4 : ¬ K = 4 := fun h => hK34 (.inr h)
                  have d0 : decide (K = 0) = false := decide_eq_false hK0
                  have d1 : decide (K = 1) = false := decide_eq_false hK1
                  have d3 : decide (K = 3) = false := decide_eq_false n3
                  have d4 : decide (K = 4) = false := decide_eq_false n4
                  have q0 : (K == 0) = false := by rw [beq_eq_false_iff_ne]; exact hK0
                  have q1 : (K == 1) = false := by rw [beq_eq_false_iff_ne]; exact hK1
                  have q3 : (K == 3) = false := by rw [beq_eq_false_iff_ne]; exact n3
                  have q4 : (K == 4) = false := by rw [beq_eq_false_iff_ne]; exact n4
                  clear hK34
                  go_wp2_with fail
                  go_meet
                  case rel => exact ⟨d, P4.out, HW.out.qt, HW.out.len, by have := HW.out.sp; omega⟩
          case rest =>
            as_aux_lemma =>
              obtain ⟨d', p, hq', hN', hs'⟩ := hcut
              obtain ⟨W5, rfl⟩ : ∃ W5, W5 = wc := ⟨wc, rfl⟩
              have P := Lib.hid p
              have HQ := Lib.hid hq'
              have HN := Lib.hid hN'
              have HSP := Lib.hid hs'
              have hop := p.opens hq'.dn (by rw [hN']; exact HNB.out.1)
              rw [hq'.ps, seen_nil, hN', ← HNB.out.2.2.2.2] at hop
              have HOP := Lib.hid hop
              have HOI := Lib.hid (open_is (S := d'.K) (n := n) (by have := HNB.out; omega) (by rw [hN']; have := HNB.out; omega))
              have HWT := Lib.hid (Wt.opened (i := i + 1) (n := n) hq' hN' (by have := HNB.out; omega) (by have := HNB.out; omega) (by push_cast; omega))
              clear p hq' hN' hs' hop P4 HW
              go_upto_region 67 with (go_at_call 11; refine HOP.out.mono ?_; rintro r w6 ⟨g6, A6, m6, c6, xs, rfl, rc6, p6, b6⟩)
              have RC6 := Lib.hid rc6
              have P6 := Lib.hid p6
              have HLT6 : Hid (qw < W5.heap.size) := lt_of_heap P.out.box
              clear rc6 p6 b6 HOP
              obtain ⟨A7, c7, hv7, sl7, hc7, -⟩ := P6.out.row.sl P6.out.row.small
              have hl7 : (d'.K.map tx).length = N := by rw [List.length_map, HN.out]
              injection hv7 with hv7a hv7b hv7c
              subst hv7a hv7c
              rw [hl7] at hc7
              obtain ⟨bv7, ov7, hAv, _, _⟩ := sl7.2 (by rw [hl7]; have := HNB.out; omega)
              subst hAv
              have CP := refopen_any d'.K bv7 ov7 N cv w6 sl7 HN.out HNB.out.1 (by have := HNB.out; omega) hc7
              rw [← HNB.out.2.2.2.2] at CP
              have HCP := Lib.hid CP
              clear CP sl7 hl7 hc7 hv7b
              go_wp2_with fail
              refine HCP.out.mono ?_
              rintro e w7 ⟨v7, rfl, row7, b7⟩
              obtain ⟨A8, c8, hv8, -⟩ := row7.form
              obtain ⟨n8, hn8⟩ : ∃ n8, n8 = ((openO d'.K n).L.map txt).length := ⟨_, rfl⟩
              rw [← hn8] at hv8
              subst hv8
              obtain ⟨H8, hH8⟩ : ∃ H8, H8 = (openO d'.K n).H := ⟨_, rfl⟩
              obtain ⟨lap8, hlap8⟩ : ∃ lap8, lap8 = (openO d'.K n).lap := ⟨_, rfl⟩
              rw [← hH8, ← hlap8] at HWT ⊢
              have HL8 : Hid ((openO d'.K n).L = lookL d'.K n) := HOI.out.1
              rw [HL8.out] at row7 hn8
              obtain ⟨gs, hgs⟩ : ∃ gs, gs = lookL d'.K n := ⟨_, rfl⟩
              rw [← hgs] at row7 hn8 RC6
              have P7 := P6.out.below b7
              have k0 := P7.box.c0
              have k1 := P7.box.c1
              have k2 := P7.box.c2
              have z0 := P7.box.fz 0
              have z1 := P7.box.fz 1
              have z2 := P7.box.fz 2
              obtain ⟨P8', f8⟩ := P7.box3 (.slice A8 n8 c8) H8 lap8
              have rc8 := ((RC6.out.below b7).low (q := qw) (o := 0) (u := .slice A8 n8 c8) HLT6.out).low (q := qw) (o := 1) (u := .int .i64 H8) HLT6.out |>.low (q := qw) (o := 2) (u := .int .i64 (lap8 : Int)) HLT6.out
              have row8 := row7.fr f8 (by simp) (by simp)
              obtain ⟨w8, hw8⟩ : ∃ w8, w8 = ((w7.setCell ⟨qw, 0, none⟩ (.slice A8 n8 c8)).setCell ⟨qw, 1, none⟩ (.int .i64 H8)).setCell ⟨qw, 2, none⟩ (.int .i64 (lap8 : Int)) := ⟨_, rfl⟩
              rw [← hw8] at P8' rc8 row8
              have bd : Below w8.heap.size w8 w8.drew := (Below.refl _ _).drew
              have P8 := Lib.hid (P8'.below bd)
              have rcs8 := (rc8.below bd).rcs
              have hm6 : m6 = gs.length := rcs8.len.symm
              have hg17 : gs.length ≤ 100000 := by
                have h1 := P8.out.row.small
                have h2 := row8.small
                have h3 := found_few d'.K n
                rw [← hgs] at h3
                have := HNB.out
                omega
              have HTX := Lib.hid (texts_any m6 c6 A6 gs w8.drew rcs8 (by rw [hm6]; exact hg17))
              obtain ⟨A8', c8', hv8', sl8, -⟩ := row8.sl row8.small
              injection hv8' with e8a e8b e8c
              subst e8a e8c
              have HS8 := Lib.hid (sl8.below (Nat.le_refl _) bd)
              have HG8 : Hid ((gs.map txt).length = n8 ∧ n8 ≤ 100000) := ⟨hn8.symm, by rw [hn8, List.length_map]; exact hg17⟩
              have HSM : Hid (∀ A9 c9 W, Sl eKy W A9 (gs.map txt) → Sl eKy W A8 (gs.map txt) → Calls Try.prog 22 #[.slice A9 n8 c9, .slice A8 n8 c8] W fun r w' => r = .returned (.bool true) ∧ Below W.heap.size W w') := fun A9 c9 W h1 h2 => by
                have := same_any (gs.map txt) (gs.map txt) A9 A8 n8 c9 n8 c8 W h1 h2 HG8.out.1 HG8.out.1 HG8.out.2
                rw [decide_eq_true rfl] at this
                exact this
              have HC8 : Hid (w8.drew.cell? ⟨qw, 0, none⟩ = some (.slice A8 n8 c8)) := P8.out.box.c0
              have HW8 := Lib.hid hw8
              clear row7 b7 hn8 hH8 hlap8 hgs P7 P8' f8 rc8 row8 hw8 bd rcs8 hm6 hg17 sl8 e8b HCP HL8 RC6 P6 P HOI
              go_upto_region 69 with fail
              rw [← HW8.out]
              refine wp_region_held_drew (S := fun w' => w'.cell? ⟨qw, 0, none⟩ = some (.slice A8 n8 c8)) (by kernel_rfl) (HC8.out) (fun hHeld => ?_)
              refine wpAnyH_take (i := 0) (oi := { dst := some 238, op := Go.Op.move (Go.Operand.tmp 10), type := 25, pos := "law.go:146", after := #[], guard := none }) (v := ?v0) rfl (by kernel_rfl) (by kernel_rfl) (by kernel_rfl) (fun _ _ _ h => h) (Or.inl ⟨by rfl, ?hy0⟩) (by assumption) ?rest0
              case hy0 => (intro w hSw; (try dsimp only at hSw); go_simp <;> (try with_reducible rfl))
              try simp only [Act.put, List.setIfInBounds_toArray, List.set_cons_zero, List.set_cons_succ]
              refine wpAnyH_take (i := 1) (oi := { dst := some 239, op := Go.Op.binOp Go.BinOp.neq 25 (Go.Operand.tmp 238) (Go.Operand.const (Go.Value.int Go.IntKind.i64 0)) 25, type := 4, pos := "law.go:146", after := #[{ on := 0, ground := Go.Ground.data }], guard := none }) (v := ?v1) rfl (by kernel_rfl) (by kernel_rfl) (by kernel_rfl) (fun _ _ _ h => h) (Or.inl ⟨by rfl, ?hy1⟩) (by assumption) ?rest1
              case hy1 => (intro w hSw; (try dsimp only at hSw); go_simp <;> (try with_reducible rfl))
              try simp only [Act.put, List.setIfInBounds_toArray, List.set_cons_zero, List.set_cons_succ]
              refine wpAnyH_take (i := 2) (oi := { dst := some 240, op := Go.Op.move (Go.Operand.tmp 239), type := 4, pos := "law.go:146", after := #[{ on := 1, ground := Go.Ground.data }], guard := none }) (v := ?v2) rfl (by kernel_rfl) (by kernel_rfl) (by kernel_rfl) (fun _ _ _ h => h) (Or.inl ⟨by rfl, ?hy2⟩) (by assumption) ?rest2
              case hy2 => (intro w hSw; (try dsimp only at hSw); go_simp <;> (try with_reducible rfl))
              try simp only [Act.put, List.setIfInBounds_toArray, List.set_cons_zero, List.set_cons_succ]
              refine wpAnyH_take (i := 3) (oi := { dst := some 241, op := Go.Op.move (Go.Operand.tmp 28), type := 30, pos := "law.go:146", after := #[{ on := 2, ground := Go.Ground.guard }], guard := some (2, false) }) (v := ?v3) rfl (by kernel_rfl) (by kernel_rfl) (by kernel_rfl) (fun _ _ _ h => h) (Or.inl ⟨by rfl, ?hy3⟩) (by assumption) ?rest3
              case hy3 => (intro w hSw; (try dsimp only at hSw); go_simp <;> (try with_reducible rfl))
              try simp only [Act.put, List.setIfInBounds_toArray, List.set_cons_zero, List.set_cons_succ]
              refine wpAnyH_take (i := 5) (oi := { dst := some 243, op := Go.Op.fieldAddr 35 (Go.Operand.tmp 11) 0, type := 0, pos := "law.go:146", after := #[{ on := 2, ground := Go.Ground.guard }], guard := some (2, false) }) (v := ?v5) rfl (by kernel_rfl) (by kernel_rfl) (by kernel_rfl) (fun _ _ _ h => h) (Or.inl ⟨by rfl, ?hy5⟩) (by assumption) ?rest5
              case hy5 => (intro w hSw; (try dsimp only at hSw); go_simp <;> (try with_reducible rfl))
              try simp only [Act.put, List.setIfInBounds_toArray, List.set_cons_zero, List.set_cons_succ]
              refine wpAnyH_take (i := 6) (oi := { dst := some 244, op := Go.Op.load 33 (Go.Operand.tmp 243), type := 33, pos := "law.go:146", after := #[{ on := 5, ground := Go.Ground.data }, { on := 2, ground := Go.Ground.guard }], guard := some (2, false) }) (v := ?v6) rfl (by kernel_rfl) (by kernel_rfl) (by kernel_rfl) (fun _ _ _ h => h) (Or.inl ⟨by rfl, ?hy6⟩) (by assumption) ?rest6
              case hy6 => (intro w hSw; (try dsimp only at hSw); go_simp <;> (try with_reducible rfl))
              try simp only [Act.put, List.setIfInBounds_toArray, List.set_cons_zero, List.set_cons_succ]
              refine wpAnyH_ready (rs := [4]) (by kernel_rfl) (by simp) ?_
              refine AllReadyH.cons (o := { dst := some 242, op := Go.Op.call { callee := Go.Callee.value (Go.Operand.func 23), args := #[Go.Operand.tmp 241], argTypes := #[30] }, type := 33, pos := "law.go:146", after := #[{ on := 3, ground := Go.Ground.data }, { on := 2, ground := Go.Ground.chain }, { on := 2, ground := Go.Ground.guard }], guard := some (2, false) }) rfl (fun K hK => ?_) AllReadyH.nil
              go_simp
              refine HTX.out.mono ?_
              rintro r w9 ⟨v9, rfl, row9, b9⟩
              have P9 := Lib.hid (P8.out.below b9)
              have S9 := Lib.hid (HS8.out.below (Nat.le_refl _) b9)
              obtain ⟨A9, c9, hv9, sl9, -⟩ := row9.sl row9.small
              rw [HG8.out.1] at hv9
              subst hv9
              have HCE := Lib.hid (HSM.out A9 c9 w9 sl9 S9.out)
              clear row9 sl9 HTX P8
              go_wp2_with fail
              refine hK.out _ _ (P9.out.box.c0) (fun hHeld => ?_)
              clear hK K
              try simp only [Act.put, List.setIfInBounds_toArray, List.set_cons_zero, List.set_cons_succ]
              refine wpAnyH_ready (rs := [7]) (by kernel_rfl) (by simp) ?_
              refine AllReadyH.cons (o := { dst := some 245, op := Go.Op.call { callee := Go.Callee.value (Go.Operand.func 22), args := #[Go.Operand.tmp 242, Go.Operand.tmp 244], argTypes := #[33, 33] }, type := 4, pos := "law.go:146", after := #[{ on := 4, ground := Go.Ground.data }, { on := 6, ground := Go.Ground.data }, { on := 4, ground := Go.Ground.chain }, { on := 2, ground := Go.Ground.guard }], guard := some (2, false) }) rfl (fun K hK => ?_) AllReadyH.nil
              go_simp
              refine HCE.out.mono ?_
              rintro r w10 ⟨rfl, b10⟩
              have P10 := Lib.hid (P9.out.below b10)
              clear HCE P9 S9
              go_wp2_with fail
              refine hK.out _ _ (P10.out.box.c0) (fun hHeld => ?_)
              clear hK K
              try simp only [Act.put, List.setIfInBounds_toArray, List.set_cons_zero, List.set_cons_succ]
              refine wpAnyH_take (i := 8) (oi := { dst := some 246, op := Go.Op.unOp Go.UnOp.not 4 (Go.Operand.tmp 245), type := 4, pos := "law.go:146", after := #[{ on := 7, ground := Go.Ground.data }, { on := 2, ground := Go.Ground.guard }], guard := some (2, false) }) (v := ?v8) rfl (by kernel_rfl) (by kernel_rfl) (by kernel_rfl) (fun _ _ _ h => h) (Or.inl ⟨by rfl, ?hy8⟩) (by assumption) ?rest8
              case hy8 => (intro w hSw; (try dsimp only at hSw); go_simp <;> (try with_reducible rfl))
              try simp only [Act.put, List.setIfInBounds_toArray, List.set_cons_zero, List.set_cons_succ]
              refine wpAnyH_take (i := 9) (oi := { dst := some 247, op := Go.Op.pick (Go.Operand.tmp 240) (Go.Operand.const (Go.Value.bool true)) (Go.Operand.tmp 246), type := 4, pos := "law.go:146", after := #[{ on := 2, ground := Go.Ground.data }, { on := 8, ground := Go.Ground.data }], guard := none }) (v := ?v9) rfl (by kernel_rfl) (by kernel_rfl) (by kernel_rfl) (fun _ _ _ h => h) (Or.inl ⟨by rfl, ?hy9⟩) (by assumption) ?rest9
              case hy9 => (intro w hSw; (try dsimp only at hSw); go_simp <;> (try with_reducible rfl))
              try simp only [Act.put, List.setIfInBounds_toArray, List.set_cons_zero, List.set_cons_succ]
              refine wpAnyH_done (by kernel_rfl) ?_ _
              go_wp2_with fail
              go_meet
              case rel => exact ⟨g6, lookJ d'.K (j0 n), d', false, 0, 0, H8, lap8, _, rfl, rfl, rfl, rfl, P10.out, HWT.out⟩
        case rest =>
          as_aux_lemma =>
            obtain ⟨g', j', d', st', a', m', H', lap', u', rfl, rfl, rfl, rfl, p, hw⟩ := hcut
            obtain ⟨W5, rfl⟩ : ∃ W5, W5 = wc := ⟨wc, rfl⟩
            have P := Lib.hid p
            have HT := Lib.hid hw
            obtain ⟨rm, hrm⟩ : ∃ rm : Nat, rm = if st' then n - a' else 0 := ⟨_, rfl⟩
            have HRM := Lib.hid hrm
            have HAL := Lib.hid hw.a_le
            clear p hw hrm P4 HW
            go_upto_if 248 with fail
            go_cut [29] from 248 to 251 (fun s29 wx => s29 = .int .i64 (rm : Int) ∧ W5 = wx)
            case first =>
              cases st' with
              | true =>
                have hsub : IntKind.i64.wrap ((n : Int) - (a' : Int)) = (n : Int) - (a' : Int) := IntWalk.i64_in _ (by have := HNB.out; have := HAL.out; omega)
                have HE : Hid ((rm : Int) = (n : Int) - (a' : Int)) := by show _ = _; rw [HRM.out, if_pos rfl]; have := HAL.out; omega
                have ha18 : (a' : Int) ≤ 17 := by have := HAL.out; have := HNB.out; omega
                go_wp2_with fail
                go_meet
                case rel => exact ⟨by rw [HE.out], rfl⟩
              | false =>
                have HE : Hid ((rm : Int) = 0) := by show _ = _; rw [HRM.out, if_neg (by decide)]; rfl
                go_wp2_with fail
                go_meet
                case rel => exact ⟨by rw [HE.out], rfl⟩
            case rest =>
              obtain ⟨rfl, rfl⟩ := hcut
              have CS := sectors_any P.out.run.st HT.out.qt.dn
              rw [HT.out.qt.ps, seen_nil] at CS
              have HCS := Lib.hid CS
              clear CS
              go_wp2_with fail
              refine HCS.out.mono ?_
              rintro e w6 ⟨v6, rfl, row6, b6⟩
              have P6 := Lib.hid (P.out.below b6)
              obtain ⟨A6, c6, hv6, sl6, -⟩ := row6.sl row6.small
              have hl6 : (d'.K.map tx).length = N := by rw [List.length_map, HT.out.len]
              rw [hl6] at hv6
              subst hv6
              obtain ⟨A7, c7, hv7, sl7, -⟩ := P6.out.row.sl P6.out.row.small
              injection hv7 with hv7a hv7b hv7c
              subst hv7a hv7c
              have CE := same_any (d'.K.map tx) (d'.K.map tx) A6 Av N c6 N cv w6 sl6 sl7 hl6 hl6 (by have := HNB.out; omega)
              rw [decide_eq_true rfl] at CE
              have HCE := Lib.hid CE
              clear CE row6 b6 sl6 sl7 hl6 hv7b HCS P
              go_wp2_with fail
              refine HCE.out.mono ?_
              rintro e w7 ⟨rfl, b7⟩
              have P7 := Lib.hid (P6.out.below b7)
              have CR := run_room P7.out.run (by rw [HT.out.sz]; have := HNB.out; omega) (by rw [HT.out.sz]; exact HT.out.us)
              rw [HT.out.room, ← HRM.out] at CR
              have HCR := Lib.hid CR
              clear b7 CR HCE P6
              go_wp2_with fail
              refine HCR.out.mono ?_
              rintro e w8 ⟨rfl, b8⟩
              have P8 := Lib.hid (P7.out.below b8)
              have CQ := st_pend P8.out.run.st
              rw [HT.out.qt.ps] at CQ
              have HCQ : Hid (Calls Try.prog 25 #[.pointer (some ⟨dg, 0, none⟩)] w8 fun r w' => r = .returned (.int .i64 0) ∧ w8 = w') := CQ
              clear b8 CQ HCR P7
              go_wp2_with fail
              refine HCQ.out.mono ?_
              rintro e w9 ⟨rfl, rfl⟩
              go_wp2_with fail
              go_roundw
              case rel => exact ⟨i + 1, g', j', d', st', a', m', H', lap', HIM.out.1, HIM.out.2, rfl, rfl, rfl, rfl, by go_num, ⟨P8.out.run, ⟨_, P8.out.box⟩, P8.out.lo, HT.out⟩⟩
              case measure => simp [intOf]; have := HIM.out; omega
    · have hcond : ((i : Int) < (n0 : Int) ∧ ¬ (i : Int) < 40) ∨ ¬ (i : Int) < (n0 : Int) := by omega
      have HB := Lib.hid HS.out.run.bel
      clear hc hi hi40 hs
      rcases hcond with ⟨h1, h2⟩ | h1
      all_goals
        go_wp2_with fail
        go_ret
        exact ⟨rfl, HB.out⟩
end Go.Proofs.Ytppdckncnfffcaa
