/-
  The walk of RingOrder. Its conditions: the texts lie in memory which is there.
-/
import Derived.Test.YtnbgmobcfbgenaaDoorW16
import Derived.Deep.CutBlock
namespace Go.Proofs.YtnbgmobcfbgenaaDoor
open Go.RowKit Go.Maps
open Go.Sort (grow)

theorem mask_i64 (a : Int) (m : Nat) (hm : m ≤ 255) : ∃ r : Nat, bits .and .i64 a (m : Int) = (r : Int) ∧ r ≤ m := by
  have h2 : (BitVec.ofInt 64 (m : Int)).toNat = m := by
    rw [BitVec.ofInt_natCast, BitVec.toNat_ofNat]; exact Nat.mod_eq_of_lt (by omega)
  have hx : (BitVec.ofInt 64 a &&& BitVec.ofInt 64 (m : Int)).toNat ≤ m := by
    rw [BitVec.toNat_and, h2]
    exact Nat.and_le_right
  refine ⟨(BitVec.ofInt 64 a &&& BitVec.ofInt 64 (m : Int)).toNat, ?_, hx⟩
  show IntKind.i64.wrap ((BitVec.ofInt 64 a &&& BitVec.ofInt 64 (m : Int)).toNat : Int) = _
  exact IntWalk.i64_in _ (by omega)
theorem wrap_u64 (x : Int) : ∃ t : Nat, IntKind.u64.wrap x = (t : Int) := by
  refine ⟨(x % 18446744073709551616).toNat, ?_⟩
  rw [Int.toNat_of_nonneg (Int.emod_nonneg _ (by omega))]
  simp [IntKind.wrap, IntKind.bits, IntKind.signed]
/-- The row that is turned. -/
structure TurnI (w W : World) (l : List ByteArray) (n : Nat) (v : Value) (M : List ByteArray) : Prop where
  row : RowT eKy 9 W w.heap.size v M
  len : M.length = n
  mem : ∀ q, q ∈ M ↔ q ∈ l
  bel : Below w.heap.size w W
theorem TurnI.drew {w W : World} {l : List ByteArray} {n : Nat} {v : Value} {M : List ByteArray} (h : TurnI w W l n v M) : TurnI w W.drew l n v M :=
  ⟨h.row.below (Below.refl W.heap.size W).drew, h.len, h.mem, h.bel.drew⟩
set_option maxRecDepth 100000 in
set_option maxHeartbeats 16000000 in
theorem order_walk (l : List ByteArray) (A : Option Addr) (n c : Nat) (turn : Int) (key : ByteArray) (w : World) (hs : Sl eKy w A l) (hn : l.length = n) (hz : Sized l) (hc : n ≤ c) (hk : key.size ≤ 140737488351232) :
    Calls Tryd.prog 3 #[.slice A n c, .int .i64 turn, .string key] w fun e w' => e = .returned (.bool true) ∧ Below w.heap.size w w' := by
  have HS := Lib.hid hs
  have HN := Lib.hid hn
  have HZ := Lib.hid hz
  have HC := Lib.hid hc
  have HK : Hid (key.size ≤ maxLen) := by show _ ≤ _; unfold maxLen; omega
  have HKZ := Lib.hid hk
  have hnM : (n : Int) ≤ 9223372036854775807 := by have := hs.1; unfold maxLen at this; omega
  obtain ⟨t1, ht1, _⟩ := mask_i64 turn 1 (by omega)
  obtain ⟨tw, htw⟩ := wrap_u64 turn
  have ht1' : bits .and .i64 turn 1 = (t1 : Int) := ht1
  clear hs hn hz hk hc ht1
  go_enter Tryd.func3, Tryd.ntmps3
  go_wp2_with fail
  refine (awake_any w).mono ?_
  rintro e w1 ⟨rfl, b1⟩
  have B1 := Lib.hid b1
  clear b1
  go_wp2_with fail
  refine (short_any l A n c key w1 (HS.out.below (Nat.le_refl _) B1.out) HN.out).mono ?_
  rintro e w2 ⟨⟨sb, rfl⟩, rfl⟩
  cases sb with
  | false =>
    go_wp2
    go_ret
    exact ⟨rfl, B1.out⟩
  | true =>
    by_cases h8 : (n : Int) > 8
    · go_wp2
      go_ret
      exact ⟨rfl, B1.out⟩
    · by_cases h0 : n = 0
      · have q0 : ((n : Int) == 0) = true := by rw [h0]; rfl
        have q1 : decide ((n : Int) = 0) = true := decide_eq_true (by omega)
        clear h0
        go_wp2
        go_ret
        exact ⟨rfl, B1.out⟩
      · have q0 : ((n : Int) == 0) = false := by rw [beq_eq_false_iff_ne]; omega
        have q1 : decide ((n : Int) = 0) = false := decide_eq_false (by omega)
        have q2 : ¬ (n : Int) = 0 := by omega
        obtain ⟨k, hk⟩ : ∃ k, k = tw % n := ⟨_, rfl⟩
        have hkn : k < n := by rw [hk]; exact Nat.mod_lt _ (by omega)
        have r1 : (tw : Int) % (n : Int) = (k : Int) := by rw [hk, Int.natCast_emod]
        have r2 : (tw : Int).tmod (n : Int) = (k : Int) := by rw [Int.tmod_eq_emod_of_nonneg (by omega)]; exact r1
        have r3 : wrap64 (k : Int) = (k : Int) := by unfold wrap64; omega
        have r4 : IntKind.i64.wrap (k : Int) = (k : Int) := IntWalk.i64_in _ (by omega)
        have r5 : (k : Int) ≤ (n : Int) := by omega
        have r6 : (n : Int) ≤ 8 := by omega
        have r7 : ¬ c = k := by have := HC.out; omega
        have r8 : (n : Int) ≤ (c : Int) := by have := HC.out; omega
        have r9 : (k : Int) ≤ (c : Int) := by omega
        have r0 : decide ((8 : Int) < (n : Int)) = false := decide_eq_false (by omega)
        have HN8 : Hid (n ≤ 8) := by show _ ≤ _; omega
        have HKN := Lib.hid hkn
        have hl0 : 0 < l.length := by rw [HN.out]; omega
        obtain ⟨b, off, rfl, hx1, hx2⟩ := at_ky HS.out hl0
        clear hx1 hx2
        have bE : Below w1.heap.size w1 (w1.alloc (.cells #[] 9)) := (Below.refl _ _).alloc (Nat.le_refl _) _
        have slw := HS.out.below (Nat.le_refl _) (B1.out.trans (bE.mono B1.out.size))
        have sd := slw.drop k
        rw [show eKy.wd = 1 from rfl, Nat.mul_one] at sd
        obtain ⟨v1, W2, run1, row1, b2⟩ := (RowT.empty (E := eKy) (e := 9) w1).grow elS rfl bE sd (n := n - k) (c := c - k) (by rw [List.length_drop, HN.out]) (by simp) (by simp; have := HN8.out; omega)
        rw [List.nil_append] at row1
        have st := (HS.out.below (Nat.le_refl _) (B1.out.trans (b2.mono B1.out.size))).take k
        obtain ⟨v2, W3, run2, row2, b3⟩ := row1.grow elS rfl b2 st (n := k) (c := c) (by rw [List.length_take, HN.out]; have := HKN.out; omega) (by simp) (by rw [List.length_drop, HN.out]; have := HN8.out; omega)
        obtain ⟨A1, m1, c1, e1⟩ : ∃ A1 m1 c1, v1 = .slice A1 m1 c1 := by
          obtain ⟨A1, c1, e1, _⟩ := row1.form
          exact ⟨_, _, _, e1⟩
        subst e1
        have hlen : (l.drop k ++ l.take k).length = n := by simp; rw [HN.out]; have := HKN.out; omega
        have TI : Hid (TurnI w W3 l n v2 (l.drop k ++ l.take k)) := by
          refine ⟨row2.down B1.out.size, hlen, fun q => ?_, B1.out.trans (b3.mono B1.out.size)⟩
          conv => rhs; rw [← List.take_append_drop k l]
          rw [List.mem_append, List.mem_append, or_comm]
        obtain ⟨g2, c2, e2⟩ : ∃ g2 c2, v2 = .slice (some ⟨g2, 0, none⟩) n c2 := by
          rcases row2.2 with ⟨_, hz⟩ | ⟨g, cap, cur, rfl, _⟩
          · have hz' : (l.drop k ++ l.take k).length = 0 := hz
            omega
          · rw [hlen]
            exact ⟨_, _, rfl⟩
        subst e2
        have R1 := Lib.hid run1
        have R2 := Lib.hid run2
        generalize l.drop k ++ l.take k = M0 at TI
        clear hk h0 h8 hkn hl0 bE slw sd st run1 row1 run2 row2 b2 b3 hlen
        go_wp2_with (first
          | (at_builtin; refine wpList_append_run rfl _ _ 22 22 rfl _ _ rfl rfl _ W2 R1.out ?_)
          | (at_builtin; refine wpList_append_run rfl _ _ 22 22 rfl _ _ rfl rfl _ W3 R2.out ?_))
        clear r0 r1 r2 r3 r4 r5 r7 r8 r9 q0 q1 q2
        obtain ⟨hf, hhf⟩ : ∃ hf, hf = n / 2 := ⟨_, rfl⟩
        have u1 : (n : Int).tdiv 2 = (hf : Int) := by rw [Int.tdiv_eq_ediv_of_nonneg (by omega)]; omega
        have u2 : (n : Int) / 2 = (hf : Int) := by omega
        have HHF := Lib.hid hhf
        clear hhf
        have HR0 : Hid (∃ M, TurnI w W3 l n (.slice (some ⟨g2, 0, none⟩) n c2) M) := ⟨_, TI.out⟩
        clear TI
        go_loopw [9] (fun s9 wr => ∃ (i : Nat) (M : List ByteArray), i ≤ hf ∧ s9 = .int .i64 (i : Int) ∧ TurnI w wr l n (.slice (some ⟨g2, 0, none⟩) n c2) M) (fun i _ => hf - (intOf i).toNat)
        case atStart =>
          obtain ⟨M, hM⟩ := HR0.out
          exact ⟨0, M, Nat.zero_le _, rfl, hM⟩
        case round =>
          obtain ⟨i, M, hih, rfl, hT⟩ := hrel
          have T := Lib.hid hT
          clear hT HR0
          by_cases hlt : i < hf
          · have hin : i < n := by have := HHF.out; omega
            have hlti : (i : Int) < (hf : Int) := by omega
            have HK2 : Hid (i + 1 ≤ hf) := hlt
            by_cases ht : t1 = 1
            · have e1 : ((t1 : Int) == 1) = true := by rw [ht]; rfl
              have e2 : decide ((t1 : Int) = 1) = true := decide_eq_true (by omega)
              obtain ⟨p1, hp1⟩ : ∃ p1, p1 + 1 = n := ⟨n - 1, by omega⟩
              obtain ⟨j, hj⟩ : ∃ j, j + i = p1 := ⟨p1 - i, by omega⟩
              have w1' : IntKind.i64.wrap ((n : Int) - 1) = (p1 : Int) := by rw [IntWalk.i64_in _ (by omega)]; omega
              have w2' : wrap64 ((n : Int) - 1) = (p1 : Int) := by unfold wrap64; omega
              have w3' : IntKind.i64.wrap ((p1 : Int) - (i : Int)) = (j : Int) := by rw [IntWalk.i64_in _ (by omega)]; omega
              have w4' : wrap64 ((p1 : Int) - (i : Int)) = (j : Int) := by unfold wrap64; omega
              have hil : i < M.length := by rw [T.out.len]; exact hin
              have hjl : j < M.length := by rw [T.out.len]; omega
              obtain ⟨h1, f1, z1, z2⟩ := row_swap T.out.row T.out.len hil hjl
              have z3 := (row_put T.out.row T.out.len hjl M[i]).2.2
              obtain ⟨A9, c9, e9, sl9, _⟩ := T.out.row.sl (by rw [T.out.len]; unfold maxLen; have := HN8.out; omega)
              injection e9 with e9 e91 e92
              subst e9
              clear e91 e92
              have d1 := at_ky2 sl9 hil
              have d2 := at_ky2 sl9 hjl
              have HT2 : Hid (TurnI w ((wr.setCell ⟨g2, 0 + i, none⟩ (.string M[j])).setCell ⟨g2, 0 + j, none⟩ (.string M[i])) l n (.slice (some ⟨g2, 0, none⟩) n c2) ((M.set i M[j]).set j M[i])) :=
                ⟨h1, by rw [List.length_set, List.length_set]; exact T.out.len, fun q => by rw [mem_swap hil hjl, T.out.mem], T.out.bel.trans f1.below⟩
              generalize (M.set i M[j]).set j M[i] = M2 at HT2
              clear h1 f1 sl9
              generalize M[i] = x at d1 z2 HT2
              generalize M[j] = y at d2 z2 HT2
              rw [Nat.zero_add] at d1 d2 z1 z2 z3
              rw [Nat.zero_add] at z2
              have d3 : (wr.setCell ⟨g2, i, none⟩ (.string y)).cell? ⟨g2, j, none⟩ = some (.string y) := (World.cell?_setCell_other _ ⟨g2, i, none⟩ ⟨g2, j, none⟩ _ (by first | (simp; done) | (simp; omega))).trans d2
              rw [Nat.zero_add, Nat.zero_add] at HT2
              have hin2 : (i : Int) < (n : Int) := by omega
              have hi0 : (0 : Int) ≤ (i : Int) := by omega
              have hjn : (j : Int) < (n : Int) := by omega
              have hj0 : (0 : Int) ≤ (j : Int) := by omega
              have hij : ¬ (i = j) := by have := HHF.out; omega
              clear hil hjl hin hlt hih ht hp1 hj
              go_wp2_with fail
              go_region
              all_goals
                go_wp2
                go_roundw
                case rel => exact ⟨i + 1, M2, HK2.out, by go_num, HT2.out.drew⟩
                case measure => simp [intOf]; omega
            · have e1 : ((t1 : Int) == 1) = false := by rw [beq_eq_false_iff_ne]; omega
              have e2 : decide ((t1 : Int) = 1) = false := decide_eq_false (by omega)
              clear hin hlt hih ht
              go_wp2
              go_roundw
              case rel => exact ⟨i + 1, M, HK2.out, by go_num, T.out⟩
              case measure => simp [intOf]; omega
          · have hlti : ¬ (i : Int) < (hf : Int) := by omega
            have b3 := T.out.bel
            have HNM : Hid (nodesOf M = nodesOf l) := nodesOf_same (by rw [T.out.len]; exact HN8.out) (by rw [HN.out]; exact HN8.out) T.out.mem
            clear hlt hih
            go_wp2_with fail
            refine (new_any l _ n c wr (HS.out.below (Nat.le_refl _) b3) HN.out HZ.out).mono ?_
            rintro e w4 ⟨ga, rfl, hr, hb⟩
            have A4 := Lib.hid (hr.down b3.size)
            have B4 := Lib.hid (b3.trans (hb.mono b3.size))
            have ROW4 := T.out.row.below hb
            have hml := T.out.len
            obtain ⟨A9, c9, e9, sl9, _⟩ := ROW4.sl (by rw [hml]; unfold maxLen; have := HN8.out; omega)
            injection e9 with e9 e91 e92
            subst e9
            have CN := Lib.hid (new_any M _ n c2 w4 sl9 hml (fun a ha => HZ.out a ((T.out.mem a).mp ha)))
            rw [HNM.out] at CN
            generalize nodesOf l = S at A4 CN
            clear hr hb ROW4 hml sl9 e91 e92
            go_wp2_with fail
            refine CN.out.mono ?_
            rintro e w5 ⟨gb, rfl, hr, hb⟩
            have HNE : Hid (ga ≠ gb) := by
              have h1 := hr.bg
              have h2 := A4.out.lt
              show _ ≠ _
              omega
            have A5 := Lib.hid (A4.out.below hb)
            have B5 := Lib.hid (hr.down B4.out.size)
            have BW5 := Lib.hid (B4.out.trans (hb.mono B4.out.size))
            clear hr hb CN A4 B4
            go_wp2_with fail
            refine (owners_any _ ga S key 8 w5 A5.out BW5.out.size HK.out).mono ?_
            rintro e w6 ⟨va, rfl, hrow, hr, hf6⟩
            have A6 := Lib.hid hr
            have B6 := Lib.hid (B5.out.other A5.out hf6 HNE.out.symm)
            have BW6 := Lib.hid (BW5.out.trans hf6.below)
            have RA6 := Lib.hid hrow
            obtain ⟨Aa, ma, ca, ea⟩ : ∃ A3 m3 c3, va = .slice A3 m3 c3 := by
              obtain ⟨A1, c1, e1, _⟩ := hrow.form
              exact ⟨_, _, _, e1⟩
            subst ea
            clear hrow hr hf6 A5 B5 BW5
            go_wp2_with fail
            refine (owners_any _ gb S key 8 w6 B6.out BW6.out.size HK.out).mono ?_
            rintro e w7 ⟨vb, rfl, hrow, hr, hf7⟩
            have B7 := Lib.hid hr
            have A7 := Lib.hid (A6.out.other B6.out hf7 HNE.out)
            have BW7 := Lib.hid (BW6.out.trans hf7.below)
            have RA7 := RA6.out.other B6.out hf7
            rw [show (8 : Int).toNat = 8 from rfl] at hrow RA7
            have hq : ((ordS S (hsh key)).take 8).length ≤ 8 := by rw [List.length_take]; omega
            generalize (ordS S (hsh key)).take 8 = Q at hrow RA7 hq
            obtain ⟨Ab, cb, eb, slb, _⟩ := hrow.sl (by unfold maxLen; omega)
            obtain ⟨Ac, cc, ec, slc, _⟩ := RA7.sl (by unfold maxLen; omega)
            injection ec with ec ec1 ec2
            subst ec ec2 eb
            have CS := Lib.hid (same_any Q Q Aa Ab ma ca Q.length cb w7 slc slb ec1.symm rfl (by omega))
            rw [decide_eq_true rfl] at CS
            obtain ⟨mq, hmq⟩ : ∃ mq, mq = Q.length := ⟨_, rfl⟩
            rw [← hmq] at CS ⊢
            clear hrow hr hf7 RA7 RA6 hq slb slc ec1 hmq A6 B6 BW6
            go_wp2_with fail
            refine CS.out.mono ?_
            rintro e w8 ⟨rfl, hb⟩
            have A8 := Lib.hid (A7.out.below hb)
            have B8 := Lib.hid (B7.out.below hb)
            have BW8 := Lib.hid (BW7.out.trans (hb.mono BW7.out.size))
            clear hb CS A7 B7 BW7
            go_wp2_with fail
            refine (nodes_any _ ga S w8 A8.out).mono ?_
            rintro e w9 ⟨vx, rfl, hrow, hb⟩
            have B9 := Lib.hid (B8.out.below hb)
            have BW9 := Lib.hid (BW8.out.trans (hb.mono BW8.out.size))
            have RX := Lib.hid hrow
            obtain ⟨Ax, mx, cx, ex⟩ : ∃ A3 m3 c3, vx = .slice A3 m3 c3 := by
              obtain ⟨A1, c1, e1, _⟩ := hrow.form
              exact ⟨_, _, _, e1⟩
            subst ex
            have HS8 := Lib.hid A8.out.len
            clear hrow hb A8 B8 BW8
            go_wp2_with fail
            refine (nodes_any _ gb S w9 B9.out).mono ?_
            rintro e w10 ⟨vy, rfl, hrow, hb⟩
            have BW10 := Lib.hid (BW9.out.trans (hb.mono BW9.out.size))
            have RX10 := RX.out.below hb
            have hs8 := HS8.out
            obtain ⟨Ay, cy, ey, sly, _⟩ := hrow.sl (by unfold maxLen; omega)
            obtain ⟨Az, cz, ez, slz, _⟩ := RX10.sl (by unfold maxLen; omega)
            injection ez with ez ez1 ez2
            subst ez ez2 ey
            have CS := Lib.hid (same_any S S Ax Ay mx cx S.length cy w10 slz sly ez1.symm rfl (by omega))
            rw [decide_eq_true rfl] at CS
            obtain ⟨my, hmy⟩ : ∃ my, my = S.length := ⟨_, rfl⟩
            rw [← hmy] at CS ⊢
            clear hrow hb RX10 hs8 sly slz ez1 hmy
            go_wp2_with fail
            refine CS.out.mono ?_
            rintro e w11 ⟨rfl, hb⟩
            have BW11 := Lib.hid (BW10.out.trans (hb.mono BW10.out.size))
            clear hb CS
            go_wp2
            go_ret
            exact ⟨rfl, BW11.out⟩
end Go.Proofs.YtnbgmobcfbgenaaDoor
