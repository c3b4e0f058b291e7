/-
  The walk of SortedPlays. Its conditions: the script reads as steps.
-/
import Derived.Test.YtpapbboihjhmiaaW26
import Derived.Deep.CutBlock
namespace Go.Proofs.Ytpapbboihjhmiaa
open Go.RowKit

def gv (o : Option Int) : Int := o.getD 0
def gb (o : Option Int) : Bool := o.isSome
theorem getV_eq (o : Option Int) : getV o = .tuple #[.int .i64 (gv o), .bool (gb o)] := by cases o <;> rfl
def fk (o : Option KV) : ByteArray := (o.map (·.1)).getD ⟨#[]⟩
def fv (o : Option KV) : Int := (o.map (·.2)).getD 0
def fb (o : Option KV) : Bool := o.isSome
theorem fromV_eq (o : Option KV) : fromV o = .tuple #[.string (fk o), .int .i64 (fv o), .bool (fb o)] := by cases o <;> rfl
theorem fromP_eq (o : Option KV) : fromP o = .tuple #[.agg #[.string (fk o), .int .i64 (fv o)], .bool (fb o)] := by cases o <;> rfl

def PlRel (l : List Step) (h : Nat) (w : World) (s3 s5 : Value) (wr : World) : Prop :=
  ∃ (k g : Nat) (L : List KV), k ≤ 300 ∧ k ≤ l.length ∧ s5 = .int .i64 (k : Int) ∧ s3 = .pointer (some ⟨g, 0, none⟩) ∧ MapAt wr g L ∧ RefAt wr w.heap.size h L ∧ w.heap.size ≤ g ∧ Below w.heap.size w wr ∧ L.length ≤ k
theorem st_new {w wr : World} {g h : Nat} {L : List KV} (x : Step) (hm : MapAt wr g L) (hr : RefAt wr w.heap.size h L) (hg : w.heap.size ≤ g) (hb : Below w.heap.size w wr) :
    St w (wr.alloc (.cells #[.int .i64 x.K, .string x.key, .int .i64 x.N] 31)) g h L L wr.heap.size x := by
  have hb1 : Below wr.heap.size wr (wr.alloc (.cells #[.int .i64 x.K, .string x.key, .int .i64 x.N] 31)) := (Below.refl _ _).alloc (Nat.le_refl _) _
  exact ⟨hm.below hb1, hr.below hb1, heap_new _ _, hg, hb.trans (hb1.mono hb.size)⟩
/-- What all leaves, as a slice that reads as pairs. -/
def AllP (W : World) (m : Nat) (l : List KV) (e : Ending) (w' : World) : Prop := ∃ A c, e = .returned (.slice A m c) ∧ Prs w' A l ∧ Below W.heap.size W w'
theorem all_at (g : Nat) (L : List KV) (m : Nat) (W : World) (hM : MapAt W g L) (hl : L.length ≤ 100000) (hm : m ≤ 1000) : Calls Try.prog 22 #[.pointer (some ⟨g, 0, none⟩), .int .i64 (m : Int)] W (AllP W (L.take m).length (L.take m)) := by
  refine (all_map g L m W hM hl hm).mono ?_
  rintro e w' ⟨v, rfl, hrow, hb⟩
  obtain ⟨A, c, rfl, hp, _⟩ := owns_prs hrow (by rw [List.length_take]; unfold maxLen; omega)
  exact ⟨A, c, rfl, hp, hb⟩
theorem run_min2 {P : Program} (w : World) (ts : Array TypeId) (t : TypeId) (x y n : Int) (h : n = min x y) :
    (Builtin.min_ ts t #[.int .i64 x, .int .i64 y]).run P w = .ok (.int .i64 n) w := by
  subst h
  simp [Builtin.min_, Builtin.min2]
  try omega
/-- What the switch leaves. -/
def SwRel (w : World) (h q k : Nat) (x : Step) (s3 _ : Value) (W : World) : Prop := ∃ g2 L2, s3 = .pointer (some ⟨g2, 0, none⟩) ∧ St w W g2 h L2 L2 q x ∧ L2.length ≤ k + 1

set_option maxRecDepth 100000 in
set_option maxHeartbeats 8000000 in
theorem plays_walk (l : List Step) (A : Option Addr) (n c : Nat) (w : World) (hs : Scr w A l) (hn : l.length = n) :
    Calls Try.prog 3 #[.slice A n c] w fun e w' => e = .returned (.bool true) ∧ Below w.heap.size w w' := by
  have H := Lib.hid hs
  have HE := Lib.hid hn
  clear hs hn
  go_enter Try.func3, Try.ntmps3
  go_wp2_with fail
  refine (awake_any w).mono ?_
  rintro e w1 ⟨rfl, b1⟩
  have B1 := Lib.hid b1
  clear b1
  go_wp2_with fail
  refine (new_any w1).mono ?_
  rintro e w2 ⟨rfl, m2, b2, z2⟩
  have hb3 : Below w2.heap.size w2 (w2.alloc (.cells #[.slice none 0 0] 29)) := (Below.refl _ _).alloc (Nat.le_refl _) _
  have hB2 := B1.out.trans (b2.mono B1.out.size)
  have B3 : Hid (Below w.heap.size w (w2.alloc (.cells #[.slice none 0 0] 29))) := hB2.trans (hb3.mono hB2.size)
  have M3 : Hid (MapAt (w2.alloc (.cells #[.slice none 0 0] 29)) w1.heap.size []) := m2.below hb3
  have R3 : Hid (RefAt (w2.alloc (.cells #[.slice none 0 0] 29)) w.heap.size w2.heap.size []) := ⟨hB2.size, rises_nil, Nat.zero_le _, _, heap_new _ _, World.ownsRow_nil _ _ _ _⟩
  have G3 := Lib.hid B1.out.size
  clear m2 b2 z2 hb3 hB2
  go_wp2
  go_loopw [3, 5] (PlRel l w2.heap.size w) (fun _ i _ => 301 - (intOf i).toNat)
  case atStart => exact ⟨0, w1.heap.size, [], Nat.zero_le _, Nat.zero_le _, rfl, rfl, M3.out, R3.out, G3.out, B3.out, Nat.le_refl _⟩
  case round =>
    generalize w2.heap.size = h at hrel R3 ⊢
    obtain ⟨k, g, L, hk3, hkl, rfl, rfl, hm, hr, hg, hb, hlen⟩ := hrel
    have HM := Lib.hid hm
    have HR := Lib.hid hr
    have HG := Lib.hid hg
    have HB := Lib.hid hb
    clear hm hr hg hb M3 R3 G3 B3
    rw [HE.out] at hkl
    by_cases hlt : k < n ∧ k < 300
    · obtain ⟨hlt1, hlt2⟩ := hlt
      have hkl2 : k < l.length := by rw [HE.out]; exact hlt1
      obtain ⟨b, off, rfl, hbs, c0, c1, c2⟩ := (H.out.below (Nat.le_refl _) HB.out).at_ hkl2
      have S0 := Lib.hid (st_new l[k] HM.out HR.out HG.out HB.out)
      generalize l[k] = x at c0 c1 c2 S0
      obtain ⟨K, key, N⟩ := x
      simp only at c0 c1 c2 S0
      have hlti : (k : Int) < (n : Int) := by omega
      have hlti2 : (k : Int) < 300 := by omega
      have hk0 : (0 : Int) ≤ (k : Int) := by omega
      have HL : Hid (L.length ≤ 100000 ∧ L.length < 100000) := ⟨by omega, by omega⟩
      have HSL : Hid (L.length ≤ k ∧ (lset L key N).length ≤ k + 1 ∧ (ldel L key).length ≤ k + 1) := ⟨hlen, by have := len_set_le L key N HM.out.rises; omega, by have := len_del_le L key; omega⟩
      clear hkl2 hlen hbs
      go_upto_block 2 with fail
      obtain ⟨W0, hW0⟩ : ∃ W0, wr.alloc (.cells #[.int .i64 K, .string key, .int .i64 N] 31) = W0 := ⟨_, rfl⟩
      rw [hW0] at S0 ⊢
      clear hW0 c0 c1 c2 HM HR HG HB
      generalize wr.heap.size = q at S0 ⊢
      obtain ⟨z0, z1, z2⟩ := S0.out.cells
      have SD := Lib.hid (S0.out.below (Below.refl _ _).drew)
      go_cut [3, 7] from 23 to 144 (SwRel w h q k ⟨K, key, N⟩)
      case first =>
        by_cases hK0 : K = 0
        · subst hK0
          go_wp2_with fail
          go_region_held3 (fun w' => w'.cell? ⟨q, 1, none⟩ = some (.string key) ∧ w'.cell? ⟨q, 2, none⟩ = some (.int .i64 N)) (first | go_keep | exact ⟨ca1, ca2⟩ | exact ⟨cb1, cb2⟩ | exact ⟨z1, z2⟩)
            (first
              | (go_at_call 11; (with_reducible refine (st_set SD.out key N HL.out.1).mono ?_); rintro e wa ⟨rfl, sa⟩; have SA := Lib.hid sa; obtain ⟨ca0, ca1, ca2⟩ := sa.cells; clear sa)
              | (go_at_call 12; (with_reducible refine (st_refset SA.out key N HL.out.2).mono ?_); rintro e wb ⟨rfl, sb⟩; have SB := Lib.hid sb; obtain ⟨cb0, cb1, cb2⟩ := sb.cells; clear sb))
          clear ca0 ca1 ca2
          go_wp2
          go_meet
          case rel => exact ⟨_, _, rfl, SB.out, HSL.out.2.1⟩
        · by_cases hK1 : K = 1
          · subst hK1
            clear hK0
            go_wp2_with fail
            go_region_held3 (fun w' => w'.cell? ⟨q, 1, none⟩ = some (.string key)) (first | go_keep | exact ca1 | exact cb1 | exact z1)
              (first
                | (go_at_call 13; (with_reducible refine (st_del SD.out key HL.out.1).mono ?_); rintro e wa ⟨rfl, sa⟩; have SA := Lib.hid sa; obtain ⟨ca0, ca1, ca2⟩ := sa.cells; clear sa)
                | (go_at_call 14; (with_reducible refine (st_refdel SA.out key).mono ?_); rintro e wb ⟨rfl, sb⟩; have SB := Lib.hid sb; obtain ⟨cb0, cb1, cb2⟩ := sb.cells; clear sb))
            clear ca0 ca1 ca2
            go_wp2
            go_meet
            case rel => exact ⟨_, _, rfl, SB.out, HSL.out.2.2⟩
          · by_cases hK4 : K = 4
            · subst hK4
              clear hK0 hK1
              go_wp2_with fail
              refine (st_copy S0.out).mono ?_
              rintro e wa ⟨g', rfl, sa, ma, hne, hlow⟩
              have SB := Lib.hid (sa.move ma hlow)
              clear sa ma hne hlow
              go_wp2
              go_meet
              case rel => exact ⟨_, _, rfl, SB.out, Nat.le_succ_of_le HSL.out.1⟩
            · by_cases hK5 : K = 5
              · subst hK5
                clear hK0 hK1 hK4
                go_wp2_with fail
                refine (st_copy S0.out).mono ?_
                rintro e wa ⟨g', rfl, sa, ma, hne, hlow⟩
                have SA := Lib.hid sa
                have MA := Lib.hid ma
                have NE := Lib.hid hne
                have LO := Lib.hid hlow
                obtain ⟨ca0, ca1, ca2⟩ := sa.cells
                clear sa ma hne hlow
                go_wp2_with fail
                refine (st_cset SA.out MA.out NE.out LO.out key N HL.out.1).mono ?_
                rintro e wb ⟨rfl, sb, mb⟩
                have SB := Lib.hid sb
                have MB := Lib.hid mb
                clear sb mb
                go_wp2_with fail
                refine (st_cdel SB.out MB.out NE.out LO.out sA (by have := HSL.out.2.1; omega)).mono ?_
                rintro e wd ⟨rfl, sd⟩
                have SC := Lib.hid sd
                clear sd
                go_wp2
                go_meet
                case rel => exact ⟨_, _, rfl, SC.out, Nat.le_succ_of_le HSL.out.1⟩
              · go_wp2
                go_meet
                case rel => exact ⟨_, _, rfl, S0.out, Nat.le_succ_of_le HSL.out.1⟩
      case rest =>
        obtain ⟨g2, L2, rfl, sf, hl2⟩ := hcut
        have SF := Lib.hid sf
        have H2 := Lib.hid hl2
        obtain ⟨zf0, zf1, zf2⟩ := sf.cells
        clear sf hl2
        go_wp2_with fail
        refine (st_get SF.out key).mono ?_
        rintro e wt1 ⟨rfl, s1⟩
        rw [getV_eq]
        have S1 := Lib.hid s1
        obtain ⟨x10, x11, x12⟩ := s1.cells
        clear s1 SF zf0 zf1 zf2
        go_wp2_with fail
        refine (st_refget S1.out key).mono ?_
        rintro e wt2 ⟨rfl, rfl⟩
        rw [getV_eq]
        go_wp2_with fail
        refine (st_from S1.out key).mono ?_
        rintro e wt3 ⟨rfl, s3⟩
        rw [fromV_eq]
        have S3 := Lib.hid s3
        obtain ⟨x30, x31, x32⟩ := s3.cells
        clear s3 S1 x10 x11 x12
        go_wp2_with fail
        refine (st_reffrom S3.out key).mono ?_
        rintro e wt4 ⟨rfl, s4⟩
        rw [fromP_eq]
        have S4 := Lib.hid (s4.below ((Below.refl _ _).alloc (Nat.le_refl _) (.cells #[.string (fk (lfrom L2 key)), .int .i64 (fv (lfrom L2 key))] 39)))
        have O4 := Lib.hid (Own2.new wt4 (fk (lfrom L2 key)) (fv (lfrom L2 key)))
        clear s4 S3 x30 x31 x32
        go_wp2_with fail
        obtain ⟨wp, hwp⟩ : ∃ wp, wt4.alloc (.cells #[.string (fk (lfrom L2 key)), .int .i64 (fv (lfrom L2 key))] 39) = wp := ⟨_, rfl⟩
        rw [hwp] at S4 O4 ⊢
        clear hwp
        generalize wt4.heap.size = q4 at O4 ⊢
        obtain ⟨o0, o1, o2, o3, o4⟩ := O4.out.cells
        obtain ⟨A4, c4, r4, y8, y9⟩ := st_refcell S4.out
        have CL : Hid (∀ n, Calls Try.prog 20 #[.pointer (some ⟨g2, 0, none⟩)] (wp.drewN n) fun e w' => e = .returned (.int .i64 (L2.length : Int)) ∧ w' = wp.drewN n) :=
          fun n => (len_any g2 L2 (wp.drewN n) (S4.out.map.below ⟨rfl, rfl, rfl, Nat.le_refl _, fun _ _ => rfl⟩)).mono fun e w' h => ⟨h.1, h.2.symm⟩
        generalize fk (lfrom L2 key) = y1 at o1 ⊢
        generalize fv (lfrom L2 key) = y2 at o2 ⊢
        generalize fb (lfrom L2 key) = y3
        generalize gv (lget L2 key) = y4
        generalize gb (lget L2 key) = y5
        clear o0 o3 o4 y8 y9 O4
        generalize hL9 : L2.length = n9 at r4 CL
        clear hL9
        go_quiet (first | (go_at_call 20; exact Calls.quiet_of_same (CL.out _)))
        go_wp2
        go_roundw
        case rel => exact ⟨k + 1, g2, L2, by omega, by have := HE.out; omega, by go_num, rfl, S4.out.map.below ⟨rfl, rfl, rfl, Nat.le_refl _, fun _ _ => rfl⟩, S4.out.ref.below ⟨rfl, rfl, rfl, Nat.le_refl _, fun _ _ => rfl⟩, S4.out.low, S4.out.bel.trans ⟨rfl, rfl, rfl, Nat.le_refl _, fun _ _ => rfl⟩, H2.out⟩
        case measure => simp [intOf]; omega
    · skip
      have HL3 : Hid (L.length ≤ 300) := by show _ ≤ _; omega
      obtain ⟨A4, c4, hbox, hp, hA4, y1, y2, hnc, y3⟩ := HR.out.parts
      have r4 := hbox.c0
      have HLT := Lib.hid hbox.lt
      have HP4 := Lib.hid hp
      have hnc9 := hnc
      obtain ⟨n9, hn9⟩ : ∃ n9, L.length = n9 := ⟨_, rfl⟩
      rw [hn9] at r4 hnc9
      have h300 : n9 ≤ 300 := by have := HL3.out; omega
      obtain ⟨s9, hs9⟩ : ∃ s9, min n9 3 = s9 := ⟨_, rfl⟩
      have hmin : ∀ w, (Builtin.min_ #[3, 3] 3 #[.int .i64 (n9 : Int), .int .i64 3]).run Try.prog w = .ok (.int .i64 (s9 : Int)) w := fun w => run_min2 w _ _ _ _ _ (by omega)
      have hs9c : (s9 : Int) ≤ (c4 : Int) := by omega
      have hs90 : (0 : Int) ≤ (s9 : Int) := by omega
      have CA1 : Hid (∀ W, MapAt W g L → Calls Try.prog 22 #[.pointer (some ⟨g, 0, none⟩), .int .i64 1000] W (AllP W n9 L)) := fun W hW => by
        have := all_at g L 1000 W hW (by have := HL3.out; omega) (by omega)
        rw [take_full (by have := HL3.out; omega)] at this
        rw [← hn9]
        exact this
      have CA2 : Hid (∀ W, MapAt W g L → Calls Try.prog 22 #[.pointer (some ⟨g, 0, none⟩), .int .i64 (s9 : Int)] W (AllP W s9 (L.take s9))) := fun W hW => by
        have := all_at g L s9 W hW (by have := HL3.out; omega) (by omega)
        rw [List.length_take, show min s9 L.length = s9 by omega] at this
        exact this
      have CB1 : Hid (∀ W Aa ca, Prs W Aa L → Prs W A4 L → Calls Try.prog 21 #[.slice Aa n9 ca, .slice A4 n9 c4] W fun e w' => e = .returned (.bool true) ∧ Below W.heap.size W w') := fun W Aa ca h1 h2 => by
        have := same_any L L Aa A4 n9 n9 ca c4 W h1 h2 hn9 hn9
        rw [show decide (L = L) = true by simp] at this
        exact this
      have CB2 : Hid (∀ W Aa ca, Prs W Aa (L.take s9) → Prs W A4 L → Calls Try.prog 21 #[.slice Aa s9 ca, .slice A4 s9 c4] W fun e w' => e = .returned (.bool true) ∧ Below W.heap.size W w') := fun W Aa ca h1 h2 => by
        have := same_any (L.take s9) (L.take s9) Aa A4 s9 s9 ca c4 W h1 (h2.take s9) (by rw [List.length_take]; omega) (by rw [List.length_take]; omega)
        rw [show decide (L.take s9 = L.take s9) = true by simp] at this
        exact this
      have CC : Hid (∀ W, Below wr.heap.size wr W → MapAt W g L ∧ Prs W A4 L ∧ W.cell? ⟨h, 0, none⟩ = some (.slice A4 n9 c4) ∧ Below w.heap.size w W) := fun W hW =>
        ⟨HM.out.below hW, HP4.out.below (Nat.le_refl _) hW, (hW.cell (p := ⟨h, 0, none⟩) HLT.out).trans r4, HB.out.trans (hW.mono HB.out.size)⟩
      have BD : Hid (Below wr.heap.size wr wr.drew) := (Below.refl _ _).drew
      have hcase : ¬ (k : Int) < (n : Int) ∨ ((k : Int) < (n : Int) ∧ ¬ (k : Int) < 300) := by omega
      clear hlt hk3 hkl hlen hbox hp hA4 y1 y2 y3 hnc hnc9 hn9 hs9 HP4 HLT HR HG HM HL3
      rcases hcase with hc1 | ⟨hc1, hc2⟩
      all_goals
        go_wp2_with fail
        go_region_held3 (fun w' => w'.cell? ⟨h, 0, none⟩ = some (.slice A4 n9 c4)) (first | go_keep | exact xa | exact xb | exact xc | exact xd)
          (first
            | (go_at_call 22; (with_reducible refine (CA1.out _ (CC.out _ BD.out).1).mono ?_); rintro e wa ⟨Aa, ca, rfl, pa, ba⟩; have BA := Lib.hid (BD.out.trans (ba.mono BD.out.size)); have PA := Lib.hid pa; have xa := (CC.out _ BA.out).2.2.1; clear pa ba)
            | (go_at_call 21; (with_reducible refine (CB1.out _ _ _ PA.out (CC.out _ BA.out).2.1).mono ?_); rintro e wb ⟨rfl, bb⟩; have BB := Lib.hid (BA.out.trans (bb.mono BA.out.size)); have xb := (CC.out _ BB.out).2.2.1; clear bb)
            | (go_at_call 22; (with_reducible refine (CA2.out _ (CC.out _ BB.out).1).mono ?_); rintro e wc ⟨Ac, cc, rfl, pc, bc⟩; have BC := Lib.hid (BB.out.trans (bc.mono BB.out.size)); have PC := Lib.hid pc; have xc := (CC.out _ BC.out).2.2.1; clear pc bc)
            | (go_at_call 21; (with_reducible refine (CB2.out _ _ _ PC.out (CC.out _ BC.out).2.1).mono ?_); rintro e wd ⟨rfl, bd⟩; have BE := Lib.hid (BC.out.trans (bd.mono BC.out.size)); have xd := (CC.out _ BE.out).2.2.1; clear bd))
        go_wp2
        go_ret
        exact ⟨rfl, (CC.out _ BE.out).2.2.2⟩
end Go.Proofs.Ytpapbboihjhmiaa
