/-
  The walk of MarkerPlays. Its conditions: the script reads as steps.
-/
import Derived.Test.YtkonkldcallimaaW16
import Derived.Deep.CutBlock
namespace Go.Proofs.Ytkonkldcallimaa
open Go.RowKit Go.Maps
open Go.Sort (grow)

theorem goN_mem {L : List Mk} {m : Mk} (hn : L.Nodup) : (m ∈ L → goN L (isG m) = 1) ∧ (m ∉ L → goN L (isG m) = 0) := by
  unfold goN
  refine ⟨fun h => ?_, fun h => ?_⟩
  · have := length_out hn h
    omega
  · rw [out_is_none h]
    omega
def PlRel (l : List Step) (g B h : Nat) (limit : Int) (w : World) (s8 : Value) (wr : World) : Prop :=
  ∃ (k : Nat) (L : List Mk), k ≤ 200 ∧ k ≤ l.length ∧ s8 = .int .i64 (k : Int) ∧ TableAt wr w.heap.size g B L limit ∧ RefAt wr w.heap.size h L limit ∧ Below w.heap.size w wr ∧ L.length ≤ k
/-- What the switch leaves. -/
def PsRel (w : World) (g B h q p k : Nat) (x : Step) (limit : Int) (s11 _ _ : Value) (W : World) : Prop := ∃ L : List Mk, s11 = .bool true ∧ Pl w W g B h L L limit q p x ∧ L.length ≤ k + 1
theorem len_setL {L : List Mk} {m : Mk} {limit : Int} : (setL L m limit).length ≤ L.length + 1 := by
  unfold setL
  split
  · omega
  · split
    · omega
    · rename_i h _
      rw [length_ins h]
      omega
theorem pl_new {w wr : World} {g B h : Nat} {L : List Mk} {limit : Int} (x : Step) (hm : TableAt wr w.heap.size g B L limit) (hr : RefAt wr w.heap.size h L limit) (hb : Below w.heap.size w wr) : Pl w ((wr.alloc (oStep x)).alloc (oMk x.m)) g B h L L limit wr.heap.size (wr.heap.size + 1) x := by
  have b1 : Below wr.heap.size wr (wr.alloc (oStep x)) := (Below.refl _ _).alloc (Nat.le_refl _) _
  have b2 : Below wr.heap.size wr ((wr.alloc (oStep x)).alloc (oMk x.m)) := b1.alloc b1.size _
  refine ⟨hm.below b2, hr.below b2, ?_, ?_, hb.trans (b2.mono hb.size)⟩
  · rw [heap_old _ _ (by simp)]
    exact heap_new _ _
  · have := heap_new (wr.alloc (oStep x)) (oMk x.m)
    rw [World.size_alloc] at this
    exact this
set_option maxRecDepth 100000 in
set_option maxHeartbeats 16000000 in
theorem plays_walk (limit : Int) (l : List Step) (A : Option Addr) (n c : Nat) (w : World) (hl2 : limit ≤ 9223372036854775807) (hs : Scr w A l) (hn : l.length = n) :
    Calls Try.prog 3 #[.int .i64 limit, .slice A n c] w fun e w' => e = .returned (.bool true) ∧ Below w.heap.size w w' := by
  have H := Lib.hid hs
  have HE := Lib.hid hn
  have HL := Lib.hid hl2
  clear hs hn hl2
  go_enter Try.func3, Try.ntmps3
  go_wp2_with fail
  refine (awake_any w).mono ?_
  rintro e w1 ⟨rfl, b1⟩
  have B1 := Lib.hid b1
  clear b1
  go_wp2_with fail
  refine (new_any w.heap.size limit w1 B1.out.size HL.out).mono ?_
  rintro e w2 ⟨g, B, rfl, t2, b2, _, _⟩
  have hB2 := B1.out.trans (b2.mono B1.out.size)
  have hb3 : Below w2.heap.size w2 (w2.alloc (.cells #[.slice none 0 0, .int .i64 limit] 29)) := (Below.refl _ _).alloc (Nat.le_refl _) _
  have T3 := Lib.hid (t2.below hb3)
  have B3 := Lib.hid (hB2.trans (hb3.mono hB2.size))
  have R3 : Hid (RefAt (w2.alloc (.cells #[.slice none 0 0, .int .i64 limit] 29)) w.heap.size w2.heap.size [] limit) := ⟨hB2.size, by simp, _, heap_new _ _, World.ownsRow_nil _ _ _ _⟩
  clear t2 b2 B1 hB2 hb3
  go_wp2
  generalize hh0 : w2.heap.size = h at R3 ⊢
  clear hh0
  go_loopw [8] (PlRel l g B h limit w) (fun i _ => 201 - (intOf i).toNat)
  case atStart => exact ⟨0, [], Nat.zero_le _, Nat.zero_le _, rfl, T3.out, R3.out, B3.out, Nat.le_refl _⟩
  case round =>
    obtain ⟨k, L, hk2, hkl, rfl, hm, hr, hb, hL⟩ := hrel
    have HM := Lib.hid hm
    have HRF := Lib.hid hr
    have HB := Lib.hid hb
    have HLL := Lib.hid hL
    clear hm hr hb hL T3 B3 R3
    rw [HE.out] at hkl
    by_cases hlt : k < n ∧ k < 200
    · obtain ⟨hlt1, hlt2⟩ := hlt
      have hkl2 : k < l.length := by rw [HE.out]; exact hlt1
      obtain ⟨b, off, rfl, hbs, c0, c1, c2, c3⟩ := (H.out.below (Nat.le_refl _) HB.out).at_ hkl2
      have S0 := Lib.hid (pl_new l[k] HM.out HRF.out HB.out)
      have HKS := Lib.hid (H.out.2.1 l[k] (List.getElem_mem hkl2))
      generalize l[k] = x at c0 c1 c2 c3 S0 HKS
      have hlti : (k : Int) < (n : Int) := by omega
      have hlti2 : (k : Int) < 200 := by omega
      have hk0 : (0 : Int) ≤ (k : Int) := by omega
      have HK2 : Hid (k ≤ 199 ∧ k + 1 ≤ l.length) := by show _ ∧ _; omega
      have HG := Lib.hid HM.out.good
      clear hkl2 hbs hk2 hkl
      go_upto_block 2 with fail
      obtain ⟨W0, hW0⟩ : ∃ W0, (wr.alloc (oStep x)).alloc (oMk x.m) = W0 := ⟨_, rfl⟩
      have hW0' := hW0
      simp only [oStep, oMk] at hW0'
      rw [hW0] at S0
      rw [hW0']
      clear hW0 hW0' c0 c1 c2 c3 HM HRF HB
      obtain ⟨K, m⟩ := x
      simp only at S0 HKS
      generalize wr.heap.size + 1 = p at S0 ⊢
      generalize wr.heap.size = q at S0 ⊢
      obtain ⟨⟨z0, z1, z2, z3⟩, z4, z5, z6⟩ := S0.out.cells
      simp only at z0 z1 z2 z3 z4 z5 z6
      go_cut [11, 12, 13] from 44 to 159 (PsRel w g B h q p k ⟨K, m⟩ limit)
      case first =>
        by_cases hK0 : K = 0
        · subst hK0
          have C1 := Lib.hid (pl_set S0.out HKS.out)
          have CR : Hid (∀ W, Pl w W g B h (setL L m limit) L limit q p ⟨0, m⟩ → Calls Try.prog 11 #[.pointer (some ⟨h, 0, none⟩), .agg #[.string m.k, .int .i64 m.s, .int .i64 m.r]] W fun r w' => r = .returned (.bool (decide (setE L m limit = 0))) ∧ Pl w w' g B h (setL L m limit) (setL L m limit) limit q p ⟨0, m⟩) := fun W hW => pl_refset hW HG.out.rs (by have := HLL.out; have := HK2.out; omega)
          have HB2 : Hid ((setL L m limit).length ≤ k + 1) := by show _ ≤ _; have := @len_setL L m limit; have := HLL.out; omega
          have hse := setE_cases L m limit
          simp only at C1
          generalize setE L m limit = se at C1 CR hse
          generalize setL L m limit = L2 at C1 CR HB2
          rcases hse with rfl | rfl
          all_goals
            go_wp2_with fail
            refine C1.out.mono ?_
            rintro r W1 ⟨rfl, s1⟩
            have C2 := Lib.hid (CR.out _ s1)
            obtain ⟨⟨y0, y1, y2, y3⟩, y4, y5, y6⟩ := s1.cells
            simp only at y0 y1 y2 y3 y4 y5 y6
            simp only [decide_true, show decide ((4 : Int) = 0) = false from rfl] at C2
            clear s1 C1 CR z0 z1 z2 z3 z4 z5 z6 S0
            go_wp2_with fail
            refine C2.out.mono ?_
            rintro r W2 ⟨rfl, s2⟩
            have S2 := Lib.hid s2
            obtain ⟨⟨x0, x1, x2, x3⟩, x4, x5, x6⟩ := s2.cells
            simp only at x0 x1 x2 x3 x4 x5 x6
            clear s2 C2 y0 y1 y2 y3 y4 y5 y6
            go_wp2_with fail
            refine (set_nil m.k m.s m.r W2).mono ?_
            rintro r W3 ⟨rfl, b3⟩
            have S3 := Lib.hid (S2.out.below b3)
            clear b3 S2 x0 x1 x2 x3 x4 x5 x6
            go_wp2
            go_meet
            case rel => exact ⟨_, rfl, S3.out, HB2.out⟩
        · by_cases hK1 : K = 1
          · subst hK1
            have SD := Lib.hid S0.out.drew
            have CA : Hid (∀ W, Pl w W g B h L L limit q p ⟨1, m⟩ → Calls Try.prog 12 #[.pointer (some ⟨g, 0, none⟩), .string m.k, .int .i64 m.s, .int .i64 m.r] W fun r w' => r = .returned (.bool (decide (m ∈ L))) ∧ Pl w w' g B h (out L (isG m)) L limit q p ⟨1, m⟩) := fun W hW => pl_clear hW HKS.out
            have CB : Hid (∀ W, Pl w W g B h (out L (isG m)) L limit q p ⟨1, m⟩ → Calls Try.prog 13 #[.pointer (some ⟨h, 0, none⟩), .agg #[.string m.k, .int .i64 m.s, .int .i64 m.r], .int .i64 0] W fun r w' => r = .returned (.int .i64 (goN L (isG m))) ∧ Pl w w' g B h (out L (isG m)) (out L (isG m)) limit q p ⟨1, m⟩) := fun W hW => pl_without hW 0
            have HB2 : Hid ((out L (isG m)).length ≤ k + 1) := by show _ ≤ _; have := out_length_le L (isG m); have := HLL.out; omega
            by_cases hin : m ∈ L
            all_goals
              first
                | (rw [(goN_mem HG.out.rs.nodup).1 hin] at CB; rw [decide_eq_true hin] at CA)
                | (rw [(goN_mem HG.out.rs.nodup).2 hin] at CB; rw [decide_eq_false hin] at CA)
              clear hin
              generalize out L (isG m) = L2 at CA CB HB2
              go_wp2_with fail
              go_region_held3 (fun w' => w'.cell? ⟨q, 1, none⟩ = some (.string m.k) ∧ w'.cell? ⟨q, 2, none⟩ = some (.int .i64 m.s) ∧ w'.cell? ⟨q, 3, none⟩ = some (.int .i64 m.r) ∧ w'.cell? ⟨p, 0, none⟩ = some (.string m.k) ∧ w'.cell? ⟨p, 1, none⟩ = some (.int .i64 m.s) ∧ w'.cell? ⟨p, 2, none⟩ = some (.int .i64 m.r)) (first | go_keep | exact ⟨ca1, ca2, ca3, ca4, ca5, ca6⟩ | exact ⟨cb1, cb2, cb3, cb4, cb5, cb6⟩ | exact ⟨z1, z2, z3, z4, z5, z6⟩ | exact ⟨cv1, cv2, cv3, cv4, cv5, cv6⟩)
                (first
                  | (go_at_call 12; (with_reducible refine (CA.out _ SD.out).mono ?_); rintro e wa ⟨rfl, sa⟩; have SA := Lib.hid sa; obtain ⟨⟨ca0, ca1, ca2, ca3⟩, ca4, ca5, ca6⟩ := sa.cells; simp only at ca0 ca1 ca2 ca3 ca4 ca5 ca6; clear sa)
                  | (go_at_call 13; (with_reducible refine (CB.out _ SA.out).mono ?_); rintro e wb ⟨rfl, sb⟩; have SB := Lib.hid sb; obtain ⟨⟨cb0, cb1, cb2, cb3⟩, cb4, cb5, cb6⟩ := sb.cells; simp only at cb0 cb1 cb2 cb3 cb4 cb5 cb6; clear sb)
                  | (go_at_call 12; (with_reducible refine (clear_nil m.k m.s m.r _).mono ?_); rintro e wv ⟨rfl, bv⟩; have SV := Lib.hid (SB.out.below bv); obtain ⟨⟨cv0, cv1, cv2, cv3⟩, cv4, cv5, cv6⟩ := (SB.out.below bv).cells; simp only at cv0 cv1 cv2 cv3 cv4 cv5 cv6; clear bv))
              clear ca0 ca1 ca2 ca3 ca4 ca5 ca6 cb0 cb1 cb2 cb3 cb4 cb5 cb6 cv0 cv1 cv2 cv3 cv4 cv5 cv6
              go_wp2
              go_meet
              case rel => exact ⟨_, rfl, SV.out, HB2.out⟩
          · by_cases hK2 : K = 2
            · subst hK2
              have SD := Lib.hid S0.out.drew
              have CA : Hid (∀ W, Pl w W g B h L L limit q p ⟨2, m⟩ → Calls Try.prog 14 #[.pointer (some ⟨g, 0, none⟩), .string m.k, .int .i64 m.s, .int .i64 m.r] W fun r w' => r = .returned (.int .i64 (goN L (upG m.k m.s m.r))) ∧ Pl w w' g B h (out L (upG m.k m.s m.r)) L limit q p ⟨2, m⟩) := fun W hW => pl_upto hW
              have CB : Hid (∀ W, Pl w W g B h (out L (upG m.k m.s m.r)) L limit q p ⟨2, m⟩ → Calls Try.prog 13 #[.pointer (some ⟨h, 0, none⟩), .agg #[.string m.k, .int .i64 m.s, .int .i64 m.r], .int .i64 1] W fun r w' => r = .returned (.int .i64 (goN L (upG m.k m.s m.r))) ∧ Pl w w' g B h (out L (upG m.k m.s m.r)) (out L (upG m.k m.s m.r)) limit q p ⟨2, m⟩) := fun W hW => pl_without hW 1
              have HB2 : Hid ((out L (upG m.k m.s m.r)).length ≤ k + 1) := by show _ ≤ _; have := out_length_le L (upG m.k m.s m.r); have := HLL.out; omega
              generalize goN L (upG m.k m.s m.r) = gv at CA CB
              generalize out L (upG m.k m.s m.r) = L2 at CA CB HB2
              go_wp2_with fail
              go_region_held3 (fun w' => w'.cell? ⟨q, 1, none⟩ = some (.string m.k) ∧ w'.cell? ⟨q, 2, none⟩ = some (.int .i64 m.s) ∧ w'.cell? ⟨q, 3, none⟩ = some (.int .i64 m.r) ∧ w'.cell? ⟨p, 0, none⟩ = some (.string m.k) ∧ w'.cell? ⟨p, 1, none⟩ = some (.int .i64 m.s) ∧ w'.cell? ⟨p, 2, none⟩ = some (.int .i64 m.r)) (first | go_keep | exact ⟨ca1, ca2, ca3, ca4, ca5, ca6⟩ | exact ⟨cb1, cb2, cb3, cb4, cb5, cb6⟩ | exact ⟨z1, z2, z3, z4, z5, z6⟩ | exact ⟨cv1, cv2, cv3, cv4, cv5, cv6⟩)
                (first
                  | (go_at_call 14; (with_reducible refine (CA.out _ SD.out).mono ?_); rintro e wa ⟨rfl, sa⟩; have SA := Lib.hid sa; obtain ⟨⟨ca0, ca1, ca2, ca3⟩, ca4, ca5, ca6⟩ := sa.cells; simp only at ca0 ca1 ca2 ca3 ca4 ca5 ca6; clear sa)
                  | (go_at_call 13; (with_reducible refine (CB.out _ SA.out).mono ?_); rintro e wb ⟨rfl, sb⟩; have SB := Lib.hid sb; obtain ⟨⟨cb0, cb1, cb2, cb3⟩, cb4, cb5, cb6⟩ := sb.cells; simp only at cb0 cb1 cb2 cb3 cb4 cb5 cb6; clear sb)
                  | (go_at_call 14; (with_reducible refine (upto_nil m.k m.s m.r _).mono ?_); rintro e wv ⟨rfl, bv⟩; have SV := Lib.hid (SB.out.below bv); obtain ⟨⟨cv0, cv1, cv2, cv3⟩, cv4, cv5, cv6⟩ := (SB.out.below bv).cells; simp only at cv0 cv1 cv2 cv3 cv4 cv5 cv6; clear bv))
              clear ca0 ca1 ca2 ca3 ca4 ca5 ca6 cb0 cb1 cb2 cb3 cb4 cb5 cb6 cv0 cv1 cv2 cv3 cv4 cv5 cv6
              go_wp2
              go_meet
              case rel => exact ⟨_, rfl, SV.out, HB2.out⟩
            · by_cases hK3 : K = 3
              · subst hK3
                have SD := Lib.hid S0.out.drew
                have CA : Hid (∀ W, Pl w W g B h L L limit q p ⟨3, m⟩ → Calls Try.prog 15 #[.pointer (some ⟨g, 0, none⟩), .int .i64 m.s, .int .i64 m.r] W fun r w' => r = .returned (.int .i64 (goN L (paG m.s m.r))) ∧ Pl w w' g B h (out L (paG m.s m.r)) L limit q p ⟨3, m⟩) := fun W hW => pl_past hW
                have CB : Hid (∀ W, Pl w W g B h (out L (paG m.s m.r)) L limit q p ⟨3, m⟩ → Calls Try.prog 13 #[.pointer (some ⟨h, 0, none⟩), .agg #[.string m.k, .int .i64 m.s, .int .i64 m.r], .int .i64 2] W fun r w' => r = .returned (.int .i64 (goN L (paG m.s m.r))) ∧ Pl w w' g B h (out L (paG m.s m.r)) (out L (paG m.s m.r)) limit q p ⟨3, m⟩) := fun W hW => pl_without hW 2
                have HB2 : Hid ((out L (paG m.s m.r)).length ≤ k + 1) := by show _ ≤ _; have := out_length_le L (paG m.s m.r); have := HLL.out; omega
                generalize goN L (paG m.s m.r) = gv at CA CB
                generalize out L (paG m.s m.r) = L2 at CA CB HB2
                go_wp2_with fail
                go_region_held3 (fun w' => w'.cell? ⟨q, 2, none⟩ = some (.int .i64 m.s) ∧ w'.cell? ⟨q, 3, none⟩ = some (.int .i64 m.r) ∧ w'.cell? ⟨p, 0, none⟩ = some (.string m.k) ∧ w'.cell? ⟨p, 1, none⟩ = some (.int .i64 m.s) ∧ w'.cell? ⟨p, 2, none⟩ = some (.int .i64 m.r)) (first | go_keep | exact ⟨ca2, ca3, ca4, ca5, ca6⟩ | exact ⟨cb2, cb3, cb4, cb5, cb6⟩ | exact ⟨z2, z3, z4, z5, z6⟩ | exact ⟨cv2, cv3, cv4, cv5, cv6⟩)
                  (first
                    | (go_at_call 15; (with_reducible refine (CA.out _ SD.out).mono ?_); rintro e wa ⟨rfl, sa⟩; have SA := Lib.hid sa; obtain ⟨⟨ca0, ca1, ca2, ca3⟩, ca4, ca5, ca6⟩ := sa.cells; simp only at ca0 ca1 ca2 ca3 ca4 ca5 ca6; clear sa)
                    | (go_at_call 13; (with_reducible refine (CB.out _ SA.out).mono ?_); rintro e wb ⟨rfl, sb⟩; have SB := Lib.hid sb; obtain ⟨⟨cb0, cb1, cb2, cb3⟩, cb4, cb5, cb6⟩ := sb.cells; simp only at cb0 cb1 cb2 cb3 cb4 cb5 cb6; clear sb)
                    | (go_at_call 15; (with_reducible refine (past_nil m.s m.r _).mono ?_); rintro e wv ⟨rfl, bv⟩; have SV := Lib.hid (SB.out.below bv); obtain ⟨⟨cv0, cv1, cv2, cv3⟩, cv4, cv5, cv6⟩ := (SB.out.below bv).cells; simp only at cv0 cv1 cv2 cv3 cv4 cv5 cv6; clear bv))
                clear ca0 ca1 ca2 ca3 ca4 ca5 ca6 cb0 cb1 cb2 cb3 cb4 cb5 cb6 cv0 cv1 cv2 cv3 cv4 cv5 cv6
                go_wp2
                go_meet
                case rel => exact ⟨_, rfl, SV.out, HB2.out⟩
              · by_cases hK4 : K = 4
                · subst hK4
                  go_wp2_with fail
                  refine (pl_drop S0.out).mono ?_
                  rintro r W1 ⟨rfl, s1⟩
                  obtain ⟨s2, ⟨A9, n9, c9, y0⟩, fz⟩ := pl_nil s1
                  have S2 := Lib.hid s2
                  clear s1 s2 z0 z1 z2 z3 z4 z5 z6 S0
                  go_wp2_with fail
                  refine (drop_nil _).mono ?_
                  rintro r W3 ⟨rfl, rfl⟩
                  go_wp2
                  go_meet
                  case rel => exact ⟨[], rfl, S2.out, by simp⟩
                · go_wp2
                  go_meet
                  case rel => exact ⟨_, rfl, S0.out, by have := HLL.out; omega⟩
      case rest =>
        obtain ⟨L2, rfl, sf, hb2⟩ := hcut
        have SF := Lib.hid sf
        have HB2 := Lib.hid hb2
        obtain ⟨A9, c9, hbox, htg, _⟩ := sf.ref.parts
        obtain ⟨n9, hn9⟩ : ∃ n9, n9 = L2.length := ⟨_, rfl⟩
        rw [← hn9] at hbox
        have HN9 := Lib.hid hn9
        have HBX := Lib.hid hbox
        have HTG := Lib.hid htg
        clear sf hb2 hbox htg hn9 S0 z0 z1 z2 z3 z4 z5 z6
        have CC : Hid (∀ W, Below wc.heap.size wc W → W.cell? ⟨q, 1, none⟩ = some (.string m.k) ∧ W.cell? ⟨h, 0, none⟩ = some (.slice A9 n9 c9)) := fun W hb => ⟨(SF.out.below hb).cells.1.2.1, (HBX.out.below hb).c0⟩
        obtain ⟨v1, v2⟩ := CC.out wc (Below.refl _ _)
        obtain ⟨hk, hhk⟩ : ∃ hk, hk = hasK L2 m.k := ⟨_, rfl⟩
        have CH : Hid (∀ W, Below wc.heap.size wc W → Calls Try.prog 17 #[.pointer (some ⟨g, 0, none⟩), .string m.k] W fun r w' => r = .returned (.bool hk) ∧ Below wc.heap.size wc w') := fun W hb => by
          rw [hhk]
          exact (has_any _ g B L2 limit m.k W (SF.out.below hb).tab).mono fun r w' hx => ⟨hx.1, hb.trans (hx.2.mono hb.size)⟩
        have CR : Hid (∀ W, Below wc.heap.size wc W → Calls Try.prog 18 #[.pointer (some ⟨h, 0, none⟩), .string m.k] W fun r w' => r = .returned (.bool hk) ∧ W = w') := fun W hb => by
          rw [hhk]
          exact pl_refhas (SF.out.below hb) m.k
        have CL : Hid (∀ W, Below wc.heap.size wc W → Calls Try.prog 19 #[.pointer (some ⟨g, 0, none⟩)] W fun r w' => r = .returned (.int .i64 (n9 : Int)) ∧ W = w') := fun W hb => by
          rw [HN9.out]
          exact pl_len (SF.out.below hb)
        have CA : Hid (∀ W, Below wc.heap.size wc W → Calls Try.prog 21 #[.pointer (some ⟨g, 0, none⟩)] W fun r w' => ∃ A c, r = .returned (.slice A n9 c) ∧ Tgs 48 w' A L2 ∧ Below wc.heap.size wc w') := fun W hb => by
          rw [HN9.out]
          refine (all_any _ g B L2 limit W (SF.out.below hb).tab (by have := HB2.out; have := HK2.out; omega)).mono ?_
          rintro r w' ⟨A, c, h1, h2, h3, _⟩
          exact ⟨A, c, h1, h2, hb.trans (h3.mono hb.size)⟩
        have CS : Hid (∀ W A c, Below wc.heap.size wc W → Tgs 48 W A L2 → Calls Try.prog 20 #[.slice A n9 c, .slice A9 n9 c9] W fun r w' => r = .returned (.bool true) ∧ Below wc.heap.size wc w') := fun W A c hb ht =>
          (same_any L2 A A9 n9 c c9 W ht (HTG.out.below (Nat.le_refl _) hb) HN9.out.symm (by have := HB2.out; have := HK2.out; have := HN9.out; omega)).mono fun r w' hx => ⟨hx.1, hb.trans (hx.2.mono hb.size)⟩
        have BD : Hid (Below wc.heap.size wc wc.drew) := (Below.refl _ _).drew
        clear hhk
        cases hk
        all_goals
          go_wp2_with fail
          go_region_held3 (fun w' => w'.cell? ⟨q, 1, none⟩ = some (.string m.k) ∧ w'.cell? ⟨h, 0, none⟩ = some (.slice A9 n9 c9)) (first | go_keep | exact CC.out _ BA.out | exact CC.out _ BB.out | exact CC.out _ BC.out | exact ⟨v1, v2⟩)
            (first
              | (go_at_call 17; (with_reducible refine (CH.out _ BD.out).mono ?_); rintro e wa ⟨rfl, ba⟩; have BA := Lib.hid ba; clear ba)
              | (go_at_call 18; (with_reducible refine (CR.out _ BA.out).mono ?_); rintro e wv ⟨rfl, rfl⟩)
              | (go_at_call 19; (with_reducible refine (CL.out _ BA.out).mono ?_); rintro e wv ⟨rfl, rfl⟩)
              | (go_at_call 21; (with_reducible refine (CA.out _ BA.out).mono ?_); rintro e wb ⟨A5, c5, rfl, tg5, bb⟩; have BB := Lib.hid bb; have TG5 := Lib.hid tg5; clear bb tg5)
              | (go_at_call 20; (with_reducible refine (CS.out _ _ _ BB.out TG5.out).mono ?_); rintro e wd ⟨rfl, bc⟩; have BC := Lib.hid bc; clear bc))
          have SE := Lib.hid (SF.out.below BC.out)
          clear SF CH CR CL CA CS v1 v2 BD BA BB TG5 CC
          go_wp2
          go_roundw
          case rel => exact ⟨k + 1, L2, by have := HK2.out; omega, HK2.out.2, by go_num, SE.out.tab, SE.out.ref, SE.out.bel, HB2.out⟩
          case measure => simp [intOf]; omega
    · have hcase : ¬ (k : Int) < (n : Int) ∨ ((k : Int) < (n : Int) ∧ ¬ (k : Int) < 200) := by omega
      clear hlt hk2 hkl HM HRF
      rcases hcase with hc1 | ⟨hc1, hc2⟩
      all_goals
        go_wp2_with fail
        refine (len_nil wr).mono ?_
        rintro r w9 ⟨rfl, rfl⟩
        go_wp2_with fail
        refine (all_nil wr).mono ?_
        rintro r w9 ⟨rfl, rfl⟩
        go_wp2_with fail
        refine (has_nil _ wr).mono ?_
        rintro r w9 ⟨rfl, rfl⟩
        go_wp2
        go_ret
        exact ⟨rfl, HB.out⟩
end Go.Proofs.Ytkonkldcallimaa
