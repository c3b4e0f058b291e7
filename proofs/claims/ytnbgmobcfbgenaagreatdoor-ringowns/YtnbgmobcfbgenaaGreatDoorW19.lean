/-
  The contract of the document's Nodes: the first eight different ones, rising. Its conditions: the slice reads as texts.
-/
import Derived.Test.YtnbgmobcfbgenaaGreatDoorW18
import Derived.Test.YtnbgmobcfbgenaaGreatDoorBub
import Derived.Deep.CutBlock
namespace Go.Proofs.YtnbgmobcfbgenaaGreatDoor
open Go.RowKit Go.Maps
open Go.Sort (grow)

/-- The first different ones, under way. -/
structure UniqI (w : World) (l : List ByteArray) (i : Nat) (v : Value) (W : World) : Prop where
  row : RowT eKy 9 W w.heap.size v (uniq8 (l.take i))
  bel : Below w.heap.size w W
theorem UniqI.drewN {w W : World} {l : List ByteArray} {i : Nat} {v : Value} (h : UniqI w l i v W) (q : Nat) : UniqI w l i v (W.drewN q) := ⟨h.row.below (below_drewN _ _), h.bel.trans ((below_drewN _ _).mono h.bel.size)⟩
theorem UniqI.add {w W : World} {l : List ByteArray} {i : Nat} {v : Value} (h : UniqI w l i v W) {x : ByteArray} (hx : uniq8 (l.take (i + 1)) = uniq8 (l.take i) ++ [x]) :
    ∃ v' W', (Builtin.append_ #[22, 22] 22 #[v, .slice (some ⟨W.heap.size, 0, none⟩) 1 1]).run Tryz.prog (W.alloc (.cells #[.string x] 9)) = .ok v' W' ∧ UniqI w l (i + 1) v' W' := by
  have b3 : Below W.heap.size W (W.alloc (.cells #[.string x] 9)) := (Below.refl _ _).alloc (Nat.le_refl _) _
  have hbs := h.bel.size
  have row3 := h.row.below b3
  have h8 := uniq8_len (l.take i)
  obtain ⟨v', W', hrun, ho', hg'⟩ := row3.app elS (Nat.le_trans hbs b3.size) (sl_one (E := eKy) W x 9) (n := 1) (c := 1) rfl (by simp) (by omega)
  have F1 := Fr.own row3 hg' (Nat.le_trans hbs b3.size)
  exact ⟨v', W', hrun, by rw [hx]; exact ho', (h.bel.trans (b3.mono hbs)).trans F1.below⟩
/-- Passes under way. -/
structure BubI (w : World) (U : List ByteArray) (m i : Nat) (v : Value) (L : List ByteArray) (W : World) : Prop where
  row : RowT eKy 9 W w.heap.size v L
  bel : Below w.heap.size w W
  len : L.length = m
  nd : L.Nodup
  mem : ∀ q, q ∈ L ↔ q ∈ U
  bub : Bub i L
/-- One pass under way. -/
structure InI (w : World) (L0 : List ByteArray) (m k : Nat) (v : Value) (M : List ByteArray) (W : World) : Prop where
  row : RowT eKy 9 W w.heap.size v M
  bel : Below w.heap.size w W
  len : M.length = m
  pas : PassI L0 k M
theorem InI.drewN {w W : World} {L0 M : List ByteArray} {m k : Nat} {v : Value} (h : InI w L0 m k v M W) (q : Nat) : InI w L0 m k v M (W.drewN q) := ⟨h.row.below (below_drewN _ _), h.bel.trans ((below_drewN _ _).mono h.bel.size), h.len, h.pas⟩
theorem InI.drew {w W : World} {L0 M : List ByteArray} {m k : Nat} {v : Value} (h : InI w L0 m k v M W) : InI w L0 m k v M W.drew := ⟨h.row.below (Below.refl W.heap.size W).drew, h.bel.drew, h.len, h.pas⟩
theorem InI.done {w W : World} {U L0 M : List ByteArray} {m i k : Nat} {v : Value} (h : InI w L0 m k v M W) (hk : m ≤ k + 1) (hn : L0.Nodup) (hm : ∀ q, q ∈ L0 ↔ q ∈ U) (hb : Bub i L0) (hi : i < L0.length) : BubI w U m (i + 1) v M W := by
  have e := h.pas.done (by rw [h.len]; exact hk)
  have hp := pass_perm L0
  rw [← e] at hp
  refine ⟨h.row, h.bel, h.len, hp.nodup_iff.mpr hn, fun q => by rw [hp.mem_iff, hm], ?_⟩
  rw [e]
  exact bub_step hb hn hi
set_option maxRecDepth 100000 in
set_option maxHeartbeats 16000000 in
theorem refnodes_any (l : List ByteArray) (A : Option Addr) (n c : Nat) (w : World) (hs : Sl eKy w A l) (hn : l.length = n) :
    Calls Tryz.prog 15 #[.slice A n c] w fun r w' => ∃ v, r = .returned v ∧ RowT eKy 9 w' w.heap.size v (nodesOf l) ∧ Below w.heap.size w w' := by
  have hnM : (n : Int) ≤ 9223372036854775807 := by have := hs.1; unfold maxLen at this; omega
  have HS := Lib.hid hs
  have HN := Lib.hid hn
  have HI0 : Hid (UniqI w l 0 (.slice (some ⟨w.heap.size, 0, none⟩) 0 0) (w.alloc (.cells #[] 9))) := ⟨RowT.empty w, (Below.refl _ _).alloc (Nat.le_refl _) _⟩
  clear hs hn
  go_enter Tryz.func15, Tryz.ntmps15
  go_upto_block 0 with fail
  go_cut [3] from 4 to 48 (fun s3 wx => RowT eKy 9 wx w.heap.size s3 (uniq8 l) ∧ Below w.heap.size w wx)
  case first =>
    go_wp2
    go_loopw [3, 4] (fun s3 s4 wr => ∃ i : Nat, i ≤ n ∧ s4 = .int .i64 (i : Int) ∧ UniqI w l i s3 wr) (fun _ i _ => n - (intOf i).toNat)
    case atStart => exact ⟨0, Nat.zero_le _, rfl, HI0.out⟩
    case round =>
      obtain ⟨i, hin, rfl, hi⟩ := hrel
      have HI := Lib.hid hi
      have hm8 := uniq8_len (l.take i)
      obtain ⟨A', c', hv, hform⟩ := hi.row.form
      obtain ⟨m, hm⟩ : ∃ m, m = (uniq8 (l.take i)).length := ⟨_, rfl⟩
      rw [← hm] at hv hm8
      have HM := Lib.hid hm
      subst hv
      clear hi hm hform HI0
      by_cases hlt : i < n
      · by_cases h8 : m < 8
        · have hil : i < l.length := by rw [HN.out]; exact hlt
          have hlti : (i : Int) < (n : Int) := by omega
          have h8i : (m : Int) < 8 := by omega
          have hi0 : (0 : Int) ≤ (i : Int) := by omega
          have CX := Lib.hid (fun W (h : Below w.heap.size w W) => at_ky (HS.out.below (Nat.le_refl _) h) hil)
          have HT := Lib.hid (uniq8_take hil)
          have HK2 : Hid (i + 1 ≤ n) := hlt
          generalize l[i] = x at CX HT
          clear hil hlt h8 hin hm8
          go_wp2
          go_loopw [5, 6] (fun s5 s6 wi => ∃ k : Nat, k ≤ m ∧ s6 = .int .i64 (k : Int) ∧ s5 = .bool (decide (x ∈ (uniq8 (l.take i)).take k)) ∧ UniqI w l i (.slice A' m c') wi) (fun _ k _ => m - (intOf k).toNat)
          case atStart => exact ⟨0, Nat.zero_le _, rfl, by simp, HI.out⟩
          case round =>
            obtain ⟨k, hkm, rfl, rfl, hb⟩ := hrel
            have HI2 := Lib.hid hb
            clear hb HI
            obtain ⟨tb, htb⟩ : ∃ tb, tb = decide (x ∈ (uniq8 (l.take i)).take k) := ⟨_, rfl⟩
            rw [← htb]
            by_cases hlt : k < m
            · have hkl : k < (uniq8 (l.take i)).length := by rw [← HM.out]; exact hlt
              obtain ⟨A2, c2, e2, sl2, _⟩ := HI2.out.row.sl (by rw [← HM.out]; unfold maxLen; omega)
              injection e2 with e2 e21 e22
              subst e2
              obtain ⟨b5, o5, rfl, _, d5⟩ := at_ky sl2 hkl
              obtain ⟨b6, o6, rfl, _, d6⟩ := CX.out _ HI2.out.bel
              have HTK : Hid ((uniq8 (l.take i)).take (k + 1) = (uniq8 (l.take i)).take k ++ [(uniq8 (l.take i))[k]]) := List.take_succ_eq_append_getElem hkl
              generalize (uniq8 (l.take i))[k] = y at d5 HTK
              have hltk : (k : Int) < (m : Int) := by omega
              have hk0 : (0 : Int) ≤ (k : Int) := by omega
              have HKM : Hid (k + 1 ≤ m) := hlt
              have HTB := Lib.hid htb
              clear hkl hlt hkm e21 e22 sl2 htb
              cases tb with
              | true =>
                have HE : Hid (decide (x ∈ (uniq8 (l.take i)).take (k + 1)) = true) := by
                  show _ = _
                  rw [HTK.out]
                  have := of_decide_eq_true HTB.out.symm
                  exact decide_eq_true (by simp [this])
                go_wp2_with fail
                go_quiet (fail)
                go_wp2
                go_roundw
                case rel => exact ⟨k + 1, HKM.out, by go_num, by rw [HE.out], HI2.out.drewN _⟩
                case measure => simp [intOf]; omega
              | false =>
                have hno := of_decide_eq_false HTB.out.symm
                by_cases hyx : y = x
                · have he : (y.toList == x.toList) = true := toList_eq hyx
                  have HE : Hid (decide (x ∈ (uniq8 (l.take i)).take (k + 1)) = true) := by
                    show _ = _
                    rw [HTK.out]
                    exact decide_eq_true (by simp [hyx])
                  clear hyx hno
                  go_wp2_with fail
                  go_quiet (fail)
                  go_wp2
                  go_roundw
                  case rel => exact ⟨k + 1, HKM.out, by go_num, by rw [HE.out], HI2.out.drewN _⟩
                  case measure => simp [intOf]; omega
                · have he : (y.toList == x.toList) = false := toList_ne hyx
                  have HE : Hid (decide (x ∈ (uniq8 (l.take i)).take (k + 1)) = false) := by
                    show _ = _
                    rw [HTK.out]
                    refine decide_eq_false fun h => ?_
                    rcases List.mem_append.mp h with h | h
                    · exact hno h
                    · exact hyx (List.mem_singleton.mp h).symm
                  clear hyx hno
                  go_wp2_with fail
                  go_quiet (fail)
                  go_wp2
                  go_roundw
                  case rel => exact ⟨k + 1, HKM.out, by go_num, by rw [HE.out], HI2.out.drewN _⟩
                  case measure => simp [intOf]; omega
            · have hltk : ¬ (k : Int) < (m : Int) := by omega
              rw [List.take_of_length_le (by rw [← HM.out]; omega)] at htb
              have HTB := Lib.hid htb
              clear hlt hkm htb
              cases tb with
              | true =>
                have HE : Hid (uniq8 (l.take (i + 1)) = uniq8 (l.take i)) := by
                  show _ = _
                  rw [HT.out]
                  unfold add1
                  split
                  · rfl
                  · rw [if_pos (of_decide_eq_true HTB.out.symm)]
                go_wp2
                go_roundw
                case rel => exact ⟨i + 1, HK2.out, by go_num, ⟨by rw [HE.out]; exact HI2.out.row, HI2.out.bel⟩⟩
                case measure => simp [intOf]; omega
              | false =>
                have HE : Hid (uniq8 (l.take (i + 1)) = uniq8 (l.take i) ++ [x]) := by
                  show _ = _
                  rw [HT.out]
                  unfold add1
                  rw [if_neg (by rw [← HM.out]; omega), if_neg (of_decide_eq_false HTB.out.symm)]
                obtain ⟨v', W', hrun, hi'⟩ := HI2.out.add HE.out
                obtain ⟨A4, m4, cc4, e4⟩ : ∃ A4 m4 cc4, v' = .slice A4 m4 cc4 := by
                  obtain ⟨A4, cc4, e4, _⟩ := hi'.row.form
                  exact ⟨_, _, _, e4⟩
                subst e4
                obtain ⟨b6, o6, rfl, _, d6⟩ := CX.out _ HI2.out.bel
                have R1 := Lib.hid hrun
                have HI3 := Lib.hid hi'
                clear hrun hi'
                go_wp2_with (at_builtin; refine wpList_append_run rfl _ _ 22 22 rfl _ _ rfl rfl _ W' R1.out ?_)
                go_roundw
                case rel => exact ⟨i + 1, HK2.out, by go_num, HI3.out⟩
                case measure => simp [intOf]; omega
        · have hlti : (i : Int) < (n : Int) := by omega
          have h8i : ¬ (m : Int) < 8 := by omega
          have HE : Hid (uniq8 l = uniq8 (l.take i)) := uniq8_full (by rw [← HM.out]; omega)
          clear hlt h8 hin hm8
          go_wp2
          go_meet
          case rel => exact ⟨by rw [HE.out]; exact HI.out.row, HI.out.bel⟩
      · have hlti : ¬ (i : Int) < (n : Int) := by omega
        have HE : Hid (uniq8 l = uniq8 (l.take i)) := by show _ = _; rw [List.take_of_length_le (by rw [HN.out]; omega)]
        clear hlt hin hm8
        go_wp2
        go_meet
        case rel => exact ⟨by rw [HE.out]; exact HI.out.row, HI.out.bel⟩
  case rest =>
    obtain ⟨hrow, hbel⟩ := hcut
    have hm8 := uniq8_len l
    have hnd := uniq8_nodup l
    obtain ⟨A', c', hv, hform⟩ := hrow.form
    obtain ⟨U, hU⟩ : ∃ U, U = uniq8 l := ⟨_, rfl⟩
    rw [← hU] at hrow hm8 hnd hv
    obtain ⟨m, hm⟩ : ∃ m, m = U.length := ⟨_, rfl⟩
    rw [← hm] at hv hm8
    subst hv
    have HB0 : Hid (BubI w U m 0 (.slice A' m c') U wc) := ⟨hrow, hbel, hm.symm, hnd, fun _ => Iff.rfl, bub_zero _⟩
    have HU := Lib.hid hU
    have hmI : (m : Int) ≤ 8 := by omega
    clear hrow hbel hm8 hnd hform hU hm HI0
    go_wp2
    go_loopw [7] (fun s7 wr => ∃ (i : Nat) (L : List ByteArray), i ≤ m ∧ s7 = .int .i64 (i : Int) ∧ BubI w U m i (.slice A' m c') L wr) (fun i _ => m - (intOf i).toNat)
    case atStart => exact ⟨0, U, Nat.zero_le _, rfl, HB0.out⟩
    case round =>
      obtain ⟨i, L, him, rfl, hb⟩ := hrel
      have HB := Lib.hid hb
      clear hb HB0
      by_cases hlt : i < m
      · have hlti : (i : Int) < (m : Int) := by omega
        have HIM : Hid (i + 1 ≤ m) := hlt
        have HL : Hid (i < L.length) := by show _ < _; rw [HB.out.len]; exact hlt
        have HP0 : Hid (InI w L m 0 (.slice A' m c') L wr) := ⟨HB.out.row, HB.out.bel, HB.out.len, PassI.init (by have := HL.out; omega)⟩
        have HND := Lib.hid HB.out.nd
        have HMM := Lib.hid HB.out.mem
        have HBB := Lib.hid HB.out.bub
        clear hlt him HB
        go_wp2
        go_loopw [8] (fun s8 wi => ∃ (k : Nat) (M : List ByteArray), k + 1 ≤ m ∧ s8 = .int .i64 (k : Int) ∧ InI w L m k (.slice A' m c') M wi) (fun k _ => m - (intOf k).toNat)
        case atStart => exact ⟨0, L, by have := HIM.out; omega, rfl, HP0.out⟩
        case round =>
          obtain ⟨k, M, hkm, rfl, hI⟩ := hrel
          have HI := Lib.hid hI
          clear hI HP0
          by_cases hlt : k + 1 < m
          · have hk1 : k + 1 < M.length := by rw [HI.out.len]; exact hlt
            have hk0' : k < M.length := by omega
            obtain ⟨A2, c2, e2, sl2, _⟩ := HI.out.row.sl (by rw [HI.out.len]; unfold maxLen; omega)
            injection e2 with e2 e21 e22
            subst e2
            obtain ⟨b5, o5, rfl, _, d1⟩ := at_ky sl2 hk0'
            have d2 := at_ky2 sl2 hk1
            have hg : o5 = 0 := by
              rcases HI.out.row.2 with ⟨e, _⟩ | ⟨g, cap, cur, e, _⟩
              · cases e
              · cases e
                rfl
            subst hg
            have HSW := Lib.hid (fun W (h : InI w L m k (.slice (some ⟨b5, 0, none⟩) m c') M W) => row_swap h.row h.len hk0' hk1)
            have HPU := Lib.hid (fun W (h : InI w L m k (.slice (some ⟨b5, 0, none⟩) m c') M W) => (row_put h.row h.len hk1 M[k]).2.2)
            have HPS := Lib.hid (fun (h : lt M[k + 1] M[k] = true) => HI.out.pas.swap hk1 h)
            have HPT := Lib.hid (fun (h : lt M[k + 1] M[k] = false) => HI.out.pas.stay hk1 h)
            have HML : Hid (((M.set k M[k + 1]).set (k + 1) M[k]).length = m) := by show _ = _; rw [List.length_set, List.length_set, HI.out.len]
            generalize (M.set k M[k + 1]).set (k + 1) M[k] = M2 at HSW HPS HML
            generalize M[k] = x at d1 HSW HPU HPS HPT
            generalize M[k + 1] = y at d2 HSW HPS HPT
            rw [Nat.zero_add] at d1 d2
            have hk1i : (k : Int) + 1 < (m : Int) := by omega
            have hki : (k : Int) < (m : Int) := by omega
            have hk0 : (0 : Int) ≤ (k : Int) := by omega
            have hk01 : (0 : Int) ≤ (k : Int) + 1 := by omega
            have hw1 : IntKind.i64.wrap ((k : Int) + 1) = ((k + 1 : Nat) : Int) := by rw [IntWalk.i64_in _ (by omega)]; omega
            have HKM : Hid (k + 1 + 1 ≤ m) := hlt
            clear hlt hkm hk1 hk0' e21 e22 sl2
            cases hyx : lt y x with
            | true =>
              have hbl : Op.bytesLess y.toList x.toList = true := hyx
              have HPX := Lib.hid (HPS.out hyx)
              clear hyx HPS HPT
              go_wp2_with fail
              go_quiet (fail)
              obtain ⟨WQ, hWQ⟩ : ∃ WQ, WQ = wr.drewN nq := ⟨_, rfl⟩
              have HQ := HI.out.drewN nq
              have f1 := below_drewN wr nq
              rw [← hWQ] at HQ f1 ⊢
              obtain ⟨h1, f2, z1, z2⟩ := HSW.out _ HQ
              have z3 := HPU.out _ HQ
              have d3 : WQ.cell? ⟨b5, k, none⟩ = some (.string x) := (f1.cell (p := ⟨b5, k, none⟩) (block_lt_of_cell d1)).trans d1
              have d4 : WQ.cell? ⟨b5, k + 1, none⟩ = some (.string y) := (f1.cell (p := ⟨b5, k + 1, none⟩) (block_lt_of_cell d2)).trans d2
              have HF : Hid (InI w L m (k + 1) (.slice (some ⟨b5, 0, none⟩) m c') M2 ((WQ.setCell ⟨b5, 0 + k, none⟩ (.string y)).setCell ⟨b5, 0 + (k + 1), none⟩ (.string x))) := ⟨h1, HQ.bel.trans f2.below, HML.out, HPX.out⟩
              rw [Nat.zero_add] at z1 z2 z3 HF
              rw [Nat.zero_add] at z2 HF
              have d5 : (WQ.setCell ⟨b5, k, none⟩ (.string y)).cell? ⟨b5, k + 1, none⟩ = some (.string y) := (World.cell?_setCell_other _ ⟨b5, k, none⟩ ⟨b5, k + 1, none⟩ _ (by simp)).trans d4
              clear d1 d2 f1 hWQ HQ h1 f2
              go_wp2
              go_roundw
              case rel => exact ⟨k + 1, M2, HKM.out, by go_num, HF.out⟩
              case measure => simp [intOf]; omega
            | false =>
              have hbl : Op.bytesLess y.toList x.toList = false := hyx
              have HPX := Lib.hid (HPT.out hyx)
              clear hyx HPS HPT
              go_wp2_with fail
              go_quiet (fail)
              go_wp2
              go_roundw
              case rel => exact ⟨k + 1, M, HKM.out, by go_num, by have h := HI.out.drewN nq; exact ⟨h.row, h.bel, h.len, HPX.out⟩⟩
              case measure => simp [intOf]; omega
          · have hk1i : ¬ (k : Int) + 1 < (m : Int) := by omega
            have HD := Lib.hid (HI.out.done (U := U) (i := i) (by omega) HND.out HMM.out HBB.out HL.out)
            have hk8 : (k : Int) ≤ 8 := by omega
            clear hlt hkm
            go_wp2
            go_roundw
            case rel => exact ⟨i + 1, M, HIM.out, by go_num, HD.out⟩
            case measure => simp [intOf]; omega
      · have hlti : ¬ (i : Int) < (m : Int) := by omega
        have HE : Hid (L = nodesOf l) := by
          have hi : i = L.length := by rw [HB.out.len]; omega
          have hb := HB.out.bub
          rw [hi] at hb
          refine krises_one (bub_all hb) (nodesOf_krises l) fun q => ?_
          rw [HB.out.mem, HU.out, mem_nodesOf]
        clear hlt him
        go_wp2
        go_ret
        exact ⟨_, rfl, by rw [← HE.out]; exact HB.out.row, HB.out.bel⟩
end Go.Proofs.YtnbgmobcfbgenaaGreatDoor
