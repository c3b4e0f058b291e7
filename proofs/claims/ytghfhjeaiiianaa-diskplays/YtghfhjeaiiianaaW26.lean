/-
  DiskPlays walked. Its conditions: the number is 1 to 4096; what a step holds is below a bound.
-/
import Derived.Test.YtghfhjeaiiianaaW25
import Derived.Deep.CutBlock
namespace Go.Proofs.Ytghfhjeaiiianaa
open Go.RowKit
open Go.Sort (grow)

theorem RefAt.down {w : World} {base base' h : Nat} {d : Dk} (r : RefAt w base h d) (hb : base' ≤ base) : RefAt w base' h d := by
  obtain ⟨kv, sv, av, wv, b, r3⟩ := r.ex
  exact ⟨⟨kv, sv, av, wv, b, ⟨r3.k.down hb, r3.s.down hb, r3.a.down hb, r3.w.down hb, r3.ks, r3.kw, r3.sw⟩⟩, Nat.le_trans hb r.bh, r.good⟩
theorem bd_new (n : Nat) : Bd (newD n) 0 n := ⟨by simp [newD], by simp [newD], by simp [newD]⟩
/-- What the switch leaves: it answered alike. -/
def SwR (w0 : World) (g h q : Nat) (x : OpR) (i n : Nat) (s10 : Value) (W : World) : Prop := s10 = .bool true ∧ ∃ d, Pl2 w0 g h q x d d W ∧ Bd d (i + 1) n
theorem sl_row {w : World} {base : Nat} {A : Option Addr} {nb c : Nat} {l : List UInt8} (h : RowT eBy 5 w base (.slice A nb c) l) (hl : l.length = nb) (hm : nb ≤ maxLen) : Sl eBy w A l := by
  obtain ⟨A', c', hv, hs, -⟩ := h.sl (by omega)
  simp only [Value.slice.injEq] at hv
  obtain ⟨rfl, -, -⟩ := hv
  exact hs
set_option maxRecDepth 100000 in
set_option maxHeartbeats 64000000 in
theorem plays_some (n : Nat) (l : List OpR) (A : Option Addr) (m c : Nat) (w : World) (h1 : 1 ≤ n) (h2 : n ≤ 4096) (ho : Ops w A l) (hm : l.length = m) (hq : ∀ x ∈ l, x.n ≤ 140737488351232) :
    Calls Try.prog 3 #[.int .i64 (n : Int), .slice A m c] w fun e w' => e = .returned (.bool true) ∧ Below w.heap.size w w' := by
  have CA := Lib.hid (awake_any w)
  have HO := Lib.hid ho
  have HM := Lib.hid hm
  have HQ := Lib.hid hq
  have H1 := Lib.hid h1
  have H2 := Lib.hid h2
  have hd1 : decide ((n : Int) < 1) = false := decide_eq_false (by omega)
  have hd1' : ¬ (n : Int) < 1 := by omega
  have hd2' : decide ((4096 : Int) < (n : Int)) = false := decide_eq_false (by omega)
  have hd2 : ¬ (4096 : Int) < (n : Int) := by omega
  clear ho hm hq h1 h2
  go_enter Try.func3, Try.ntmps3
  go_wp2_with fail
  refine CA.out.mono ?_
  rintro r w1 ⟨rfl, b1⟩
  have CN := Lib.hid (st_new (w0 := w) n H1.out H2.out b1)
  clear b1 CA
  go_wp2_with fail
  refine CN.out.mono ?_
  rintro r w2 ⟨g, rfl, s2, -⟩
  have CR := Lib.hid (rnew_any n H2.out w2)
  have S2 := Lib.hid s2
  clear s2 CN
  go_wp2_with fail
  refine CR.out.mono ?_
  rintro r w3 ⟨h, rfl, r3, b3⟩
  have HB3 := S2.out.bel.size
  have S3 := Lib.hid (S2.out.below b3)
  have R3 := Lib.hid (r3.down HB3)
  have CL := Lib.hid (len_any _ g (newD n) w3 S3.out.dk)
  rw [show (newD n).K.length = n by simp [newD]] at CL
  clear r3 b3 HB3 S2 CR
  go_wp2_with fail
  refine CL.out.mono ?_
  rintro r w4 ⟨rfl, rfl⟩
  clear CL
  go_wp2
  clear hd1 hd1' hd2 hd2'
  go_loopw [8] (fun s8 wr => ∃ (i : Nat) (d : Dk), i ≤ m ∧ i ≤ 100 ∧ s8 = .int .i64 (i : Int) ∧ St w wr g d ∧ RefAt wr w.heap.size h d ∧ Bd d i n) (fun s _ => m - (intOf s).toNat)
  case atStart => exact ⟨0, _, Nat.zero_le _, Nat.zero_le _, rfl, S3.out, R3.out, bd_new n⟩
  case round =>
    obtain ⟨i, d, him, hi100, rfl, s, r, bd⟩ := hrel
    have S := Lib.hid s
    have R := Lib.hid r
    have BD := Lib.hid bd
    clear s r bd S3 R3
    by_cases hlt : i < m ∧ i < 100
    · obtain ⟨hi1, hi2⟩ := hlt
      have hil : i < l.length := by rw [HM.out]; exact hi1
      obtain ⟨b, off, rfl, hbs, hc⟩ := (HO.out.1.below (Nat.le_refl _) S.out.bel).at_ hil
      have XO := Lib.hid (HO.out.2 l[i] (List.getElem_mem hil))
      have XQ := Lib.hid (HQ.out l[i] (List.getElem_mem hil))
      have e0 := hc 0 _ rfl
      have e1 := hc 1 _ rfl
      have e2 := hc 2 _ rfl
      rw [show eOp.wd = 3 from rfl] at e0 e1 e2
      rw [Nat.add_zero] at e0
      generalize l[i] = x at e0 e1 e2 XO XQ
      obtain ⟨K, I, A, na, ca, la⟩ := x
      simp only at e0 e1 e2 XQ
      have hii : (i : Int) < (m : Int) := by omega
      have hi100' : (i : Int) < 100 := by omega
      have hi0 : (0 : Int) ≤ (i : Int) := by omega
      have HIM : Hid (i + 1 ≤ m ∧ i + 1 ≤ 100) := ⟨hi1, hi2⟩
      clear hbs hil hc him hi100 hi1 hi2
      go_upto_block 2 with fail
      have p0 : Pl2 w g h wr.heap.size ⟨K, I, A, na, ca, la⟩ d d (wr.alloc (.cells #[.int .i64 K, .int .i64 I, .slice A na ca] 37)) :=
        ⟨S.out.below (Below.alloc (Below.refl _ _) (Nat.le_refl _) _), R.out.below (Below.alloc (Below.refl _ _) (Nat.le_refl _) _), heap_new _ _, XO.out⟩
      generalize wr.alloc (.cells #[.int .i64 K, .int .i64 I, .slice A na ca] 37) = W0 at p0 ⊢
      generalize wr.heap.size = q at p0 ⊢
      have P0 := Lib.hid p0
      have c0 := p0.c0
      have c1 := p0.c1
      have c2 := p0.c2
      simp only at c0 c1 c2
      clear p0 e0 e1 e2 S R HO hii hi100'
      go_cut [10, 11, 12, 13, 14, 15, 16, 17] from 102 to 204 (fun s10 _ _ _ _ _ _ _ wx => SwR w g h q ⟨K, I, A, na, ca, la⟩ i n s10 wx)
      case first =>
        by_cases hK0 : K = 0
        · subst hK0
          have CF := Lib.hid (full_any la A na ca W0 P0.out.sl XO.out.n)
          clear c1
          go_wp2_with fail
          refine CF.out.mono ?_
          rintro r W2 ⟨v, rfl, r2, b2⟩
          have p2 := P0.out.below b2
          have rb2 := r2.down P0.out.st.bel.size
          obtain ⟨lb, hlbe⟩ : ∃ lb, lb = fullL la := ⟨_, rfl⟩
          obtain ⟨nb, hnbe⟩ : ∃ nb, nb = 64 := ⟨_, rfl⟩
          have hlb : lb.length = nb := by rw [hlbe, hnbe]; exact fullL_length _
          have hnb : nb ≤ maxLen := by rw [hnbe]; unfold maxLen; omega
          rw [← hlbe] at rb2
          obtain ⟨A2, c2', hv⟩ := rb2.len
          rw [hlb] at hv
          subst hv
          clear r2 b2 hlbe hnbe CF c0 c2
          have c0 := p2.c0
          simp only at c0
          have HLB := Lib.hid hlb
          have HNB := Lib.hid hnb
          have SLB := Lib.hid (sl_row rb2 hlb hnb)
          have P2 := Lib.hid p2
          have HDS : Hid (d.steps ≤ 1000000) := by show _ ≤ _; have := BD.out.s; have := HIM.out.2; omega
          have HDP : Hid (d.ps.length ≤ 100000) := by show _ ≤ _; have := BD.out.p; have := HIM.out.2; omega
          have CW := Lib.hid (p_write (p2.below (Below.refl _ _).drew) I HDS.out HDP.out (rb2.below (Below.refl _ _).drew) hlb hnb)
          clear hlb hnb p2 rb2
          go_wp2_with fail
          clear c0
          refine wp_region_held_drew (S := fun w' => OB w' q ⟨0, I, A, na, ca, la⟩ ∧ Sl eBy w' A2 lb) (by kernel_rfl) (⟨(Below.refl W2.heap.size W2).drew.block q (lt_of_heap P2.out.ob) |>.trans P2.out.ob, SLB.out.below (Nat.le_refl _) (Below.refl W2.heap.size W2).drew⟩) (fun hHeld => ?_)
          refine wpAnyH_take (i := 0) (oi := { dst := some 115, op := Op.move (Operand.tmp 5), type := 24, pos := "law.go:63", after := #[], guard := none }) (v := ?vq20n1) rfl (by kernel_rfl) (by kernel_rfl) (by kernel_rfl) (fun _ _ _ h => h) (Or.inl ⟨by rfl, ?hyq20n1⟩) (by assumption) ?restq20n1
          case hyq20n1 => (intro w hSw; (try dsimp only at hSw); have q1 := cell_of hSw.1 1; have q2 := hSw.2; simp only [List.getElem?_toArray, List.getElem?_cons_zero, List.getElem?_cons_succ] at q1; go_simp <;> (try with_reducible rfl))
          try simp only [Act.put, List.setIfInBounds_toArray, List.set_cons_zero, List.set_cons_succ]
          refine wpAnyH_take (i := 1) (oi := { dst := some 116, op := Op.fieldAddr 37 (Operand.tmp 9) 1, type := 0, pos := "law.go:63", after := #[], guard := none }) (v := ?vq20n2) rfl (by kernel_rfl) (by kernel_rfl) (by kernel_rfl) (fun _ _ _ h => h) (Or.inl ⟨by rfl, ?hyq20n2⟩) (by assumption) ?restq20n2
          case hyq20n2 => (intro w hSw; (try dsimp only at hSw); have q1 := cell_of hSw.1 1; have q2 := hSw.2; simp only [List.getElem?_toArray, List.getElem?_cons_zero, List.getElem?_cons_succ] at q1; go_simp <;> (try with_reducible rfl))
          try simp only [Act.put, List.setIfInBounds_toArray, List.set_cons_zero, List.set_cons_succ]
          refine wpAnyH_take (i := 2) (oi := { dst := some 117, op := Op.load 3 (Operand.tmp 116), type := 3, pos := "law.go:63", after := #[{ on := 1, ground := Ground.data }], guard := none }) (v := ?vq20n3) rfl (by kernel_rfl) (by kernel_rfl) (by kernel_rfl) (fun _ _ _ h => h) (Or.inl ⟨by rfl, ?hyq20n3⟩) (by assumption) ?restq20n3
          case hyq20n3 => (intro w hSw; (try dsimp only at hSw); have q1 := cell_of hSw.1 1; have q2 := hSw.2; simp only [List.getElem?_toArray, List.getElem?_cons_zero, List.getElem?_cons_succ] at q1; go_simp <;> (try with_reducible rfl))
          try simp only [Act.put, List.setIfInBounds_toArray, List.set_cons_zero, List.set_cons_succ]
          refine wpAnyH_take (i := 3) (oi := { dst := some 118, op := Op.move (Operand.tmp 11), type := 29, pos := "law.go:63", after := #[], guard := none }) (v := ?vq20n4) rfl (by kernel_rfl) (by kernel_rfl) (by kernel_rfl) (fun _ _ _ h => h) (Or.inl ⟨by rfl, ?hyq20n4⟩) (by assumption) ?restq20n4
          case hyq20n4 => (intro w hSw; (try dsimp only at hSw); have q1 := cell_of hSw.1 1; have q2 := hSw.2; simp only [List.getElem?_toArray, List.getElem?_cons_zero, List.getElem?_cons_succ] at q1; go_simp <;> (try with_reducible rfl))
          try simp only [Act.put, List.setIfInBounds_toArray, List.set_cons_zero, List.set_cons_succ]
          refine wpAnyH_take (i := 5) (oi := { dst := some 120, op := Op.move (Operand.tmp 7), type := 34, pos := "law.go:63", after := #[], guard := none }) (v := ?vq20n5) rfl (by kernel_rfl) (by kernel_rfl) (by kernel_rfl) (fun _ _ _ h => h) (Or.inl ⟨by rfl, ?hyq20n5⟩) (by assumption) ?restq20n5
          case hyq20n5 => (intro w hSw; (try dsimp only at hSw); have q1 := cell_of hSw.1 1; have q2 := hSw.2; simp only [List.getElem?_toArray, List.getElem?_cons_zero, List.getElem?_cons_succ] at q1; go_simp <;> (try with_reducible rfl))
          try simp only [Act.put, List.setIfInBounds_toArray, List.set_cons_zero, List.set_cons_succ]
          refine wpAnyH_take (i := 6) (oi := { dst := some 121, op := Op.fieldAddr 37 (Operand.tmp 9) 1, type := 0, pos := "law.go:63", after := #[], guard := none }) (v := ?vq20n6) rfl (by kernel_rfl) (by kernel_rfl) (by kernel_rfl) (fun _ _ _ h => h) (Or.inl ⟨by rfl, ?hyq20n6⟩) (by assumption) ?restq20n6
          case hyq20n6 => (intro w hSw; (try dsimp only at hSw); have q1 := cell_of hSw.1 1; have q2 := hSw.2; simp only [List.getElem?_toArray, List.getElem?_cons_zero, List.getElem?_cons_succ] at q1; go_simp <;> (try with_reducible rfl))
          try simp only [Act.put, List.setIfInBounds_toArray, List.set_cons_zero, List.set_cons_succ]
          refine wpAnyH_take (i := 7) (oi := { dst := some 122, op := Op.load 3 (Operand.tmp 121), type := 3, pos := "law.go:63", after := #[{ on := 6, ground := Ground.data }], guard := none }) (v := ?vq20n7) rfl (by kernel_rfl) (by kernel_rfl) (by kernel_rfl) (fun _ _ _ h => h) (Or.inl ⟨by rfl, ?hyq20n7⟩) (by assumption) ?restq20n7
          case hyq20n7 => (intro w hSw; (try dsimp only at hSw); have q1 := cell_of hSw.1 1; have q2 := hSw.2; simp only [List.getElem?_toArray, List.getElem?_cons_zero, List.getElem?_cons_succ] at q1; go_simp <;> (try with_reducible rfl))
          try simp only [Act.put, List.setIfInBounds_toArray, List.set_cons_zero, List.set_cons_succ]
          refine wpAnyH_take (i := 8) (oi := { dst := some 123, op := Op.move (Operand.tmp 11), type := 29, pos := "law.go:63", after := #[], guard := none }) (v := ?vq20n8) rfl (by kernel_rfl) (by kernel_rfl) (by kernel_rfl) (fun _ _ _ h => h) (Or.inl ⟨by rfl, ?hyq20n8⟩) (by assumption) ?restq20n8
          case hyq20n8 => (intro w hSw; (try dsimp only at hSw); have q1 := cell_of hSw.1 1; have q2 := hSw.2; simp only [List.getElem?_toArray, List.getElem?_cons_zero, List.getElem?_cons_succ] at q1; go_simp <;> (try with_reducible rfl))
          try simp only [Act.put, List.setIfInBounds_toArray, List.set_cons_zero, List.set_cons_succ]
          refine wpAnyH_take (i := 9) (oi := { dst := some 124, op := Op.convert 29 9 (Operand.tmp 123), type := 9, pos := "law.go:63", after := #[{ on := 8, ground := Ground.data }], guard := none }) (v := Value.string (txt lb)) rfl (by kernel_rfl) (by kernel_rfl) (by kernel_rfl) (fun _ _ _ h => h) (Or.inl ⟨by rfl, fun w hSw => exec_convert rfl rfl (conv_by hSw.2 HLB.out _)⟩) (by assumption) ?_
          try simp only [Act.put, List.setIfInBounds_toArray, List.set_cons_zero, List.set_cons_succ]
          refine wpAnyH_ready (rs := [4]) (by kernel_rfl) (by simp) ?_
          refine AllReadyH.cons (o := { dst := some 119, op := Op.call { callee := Callee.value (Operand.func 9), args := #[Operand.tmp 115, Operand.tmp 117, Operand.tmp 118], argTypes := #[24, 3, 29] }, type := 25, pos := "law.go:63", after := #[{ on := 0, ground := Ground.data }, { on := 2, ground := Ground.data }, { on := 3, ground := Ground.data }], guard := none }) rfl (fun K hK => ?_) AllReadyH.nil
          go_simp
          refine CW.out.mono ?_
          rintro r W3 ⟨rfl, p3, rb3⟩
          have P3 := Lib.hid p3
          have RB3 := Lib.hid rb3
          have SL3 := Lib.hid (sl_row RB3.out HLB.out HNB.out)
          clear p3 rb3 CW
          go_wp2_with fail
          refine hK.out _ _ (⟨P3.out.ob, SL3.out⟩) (fun hHeld => ?_)
          clear hK K
          try simp only [Act.put, List.setIfInBounds_toArray, List.set_cons_zero, List.set_cons_succ]
          refine wpAnyH_ready (rs := [10]) (by kernel_rfl) (by simp) ?_
          refine AllReadyH.cons (o := { dst := some 125, op := Op.call { callee := Callee.value (Operand.func 17), args := #[Operand.tmp 120, Operand.tmp 122, Operand.tmp 124], argTypes := #[34, 3, 9] }, type := 3, pos := "law.go:63", after := #[{ on := 5, ground := Ground.data }, { on := 7, ground := Ground.data }, { on := 9, ground := Ground.data }, { on := 4, ground := Ground.chain }], guard := none }) rfl (fun K hK => ?_) AllReadyH.nil
          go_simp
          refine (p_rwrite P3.out I HDS.out HDP.out RB3.out).mono ?_
          rintro r W4 ⟨rfl, p4, rb4⟩
          have P4 := Lib.hid p4
          have RB4 := Lib.hid rb4
          have SL4 := Lib.hid (sl_row RB4.out HLB.out HNB.out)
          clear p4 rb4 P3 RB3 SL3
          go_wp2_with fail
          refine hK.out _ _ (⟨P4.out.ob, SL4.out⟩) (fun hHeld => ?_)
          clear hK K
          try simp only [Act.put, List.setIfInBounds_toArray, List.set_cons_zero, List.set_cons_succ]
          refine wpAnyH_take (i := 11) (oi := { dst := some 126, op := Op.binOp BinOp.eql 3 (Operand.tmp 119) (Operand.tmp 125) 3, type := 4, pos := "law.go:63", after := #[{ on := 4, ground := Ground.data }, { on := 10, ground := Ground.data }], guard := none }) (v := ?vq20n9) rfl (by kernel_rfl) (by kernel_rfl) (by kernel_rfl) (fun _ _ _ h => h) (Or.inl ⟨by rfl, ?hyq20n9⟩) (by assumption) ?restq20n9
          case hyq20n9 => (intro w hSw; (try dsimp only at hSw); have q1 := cell_of hSw.1 1; have q2 := hSw.2; simp only [List.getElem?_toArray, List.getElem?_cons_zero, List.getElem?_cons_succ] at q1; go_simp <;> (try with_reducible rfl))
          try simp only [Act.put, List.setIfInBounds_toArray, List.set_cons_zero, List.set_cons_succ]
          refine wpAnyH_take (i := 12) (oi := { dst := some 10, op := Op.assign (Operand.tmp 126), type := 4, pos := "law.go:63", after := #[{ on := 11, ground := Ground.data }, { on := 10, ground := Ground.chain }, { on := 0, ground := Ground.phase }, { on := 1, ground := Ground.phase }, { on := 2, ground := Ground.phase }, { on := 3, ground := Ground.phase }, { on := 4, ground := Ground.phase }, { on := 5, ground := Ground.phase }, { on := 6, ground := Ground.phase }, { on := 7, ground := Ground.phase }, { on := 8, ground := Ground.phase }, { on := 9, ground := Ground.phase }, { on := 10, ground := Ground.phase }, { on := 11, ground := Ground.phase }], guard := none }) (v := ?vq20n10) rfl (by kernel_rfl) (by kernel_rfl) (by kernel_rfl) (fun _ _ _ h => h) (Or.inl ⟨by rfl, ?hyq20n10⟩) (by assumption) ?restq20n10
          case hyq20n10 => (intro w hSw; (try dsimp only at hSw); have q1 := cell_of hSw.1 1; have q2 := hSw.2; simp only [List.getElem?_toArray, List.getElem?_cons_zero, List.getElem?_cons_succ] at q1; go_simp <;> (try with_reducible rfl))
          try simp only [Act.put, List.setIfInBounds_toArray, List.set_cons_zero, List.set_cons_succ]
          refine wpAnyH_done (by kernel_rfl) ?_ _
          go_wp2
          go_loopw [129] (fun s129 wx => ∃ (k : Nat) (lc : List UInt8), k ≤ nb ∧ s129 = .int .i64 (k : Int) ∧ lc.length = nb ∧ RowT eBy 5 wx w.heap.size (.slice A2 nb c2') lc ∧ Pl2 w g h q ⟨0, I, A, na, ca, la⟩ (writeD d I lb) (writeD d I lb) wx) (fun s _ => nb - (intOf s).toNat)
          case atStart => exact ⟨0, lb, Nat.zero_le _, rfl, HLB.out, RB4.out, P4.out⟩
          case round =>
            obtain ⟨k, lc, hk, rfl, hlc, rb, p⟩ := hrel
            by_cases hlt : k < nb
            · obtain ⟨qb, rfl, y1, y2, y3⟩ := rowB_at rb hlc hlt
              obtain ⟨rb5, f5⟩ := y3 (lc.getD k 0 + 1)
              have P5 := Lib.hid (p.fr f5 (by simp) (by simp) (by simp) (by simp) (by simp) (by simp) (by simp))
              have RB5 := Lib.hid rb5
              have hw := u8_next (lc.getD k 0)
              have hlc5 : Hid ((lc.set k (lc.getD k 0 + 1)).length = nb) := by rw [show (lc.set k (lc.getD k 0 + 1)).length = lc.length from List.length_set ..]; exact hlc
              generalize lc.set k (lc.getD k 0 + 1) = lc5 at RB5 hlc5
              generalize lc.getD k 0 = y at *
              obtain ⟨yn, hyn⟩ : ∃ yn, yn = y.toNat := ⟨_, rfl⟩
              obtain ⟨zn, hzn⟩ : ∃ zn, zn = (y + 1).toNat := ⟨_, rfl⟩
              rw [← hyn] at y1 hw
              rw [← hzn] at hw RB5 P5
              have HKK : Hid (k + 1 ≤ nb) := hlt
              have hki : (k : Int) < (nb : Int) := by omega
              have hk0 : (0 : Int) ≤ (k : Int) := by omega
              have hwk : IntKind.i64.wrap ((k : Int) + 1) = ((k + 1 : Nat) : Int) := by rw [IntWalk.i64_in _ (by have := HNB.out; unfold maxLen at this; omega)]; omega
              clear rb p y3 rb5 f5 hlc hk hlt hyn hzn
              go_wp2
              go_roundw
              case rel => exact ⟨k + 1, lc5, HKK.out, by go_num, hlc5.out, RB5.out, P5.out⟩
              case measure => simp [intOf]; omega
            · have hki : ¬ (k : Int) < (nb : Int) := by omega
              have PF := Lib.hid p
              clear rb p hlc hk hlt
              go_wp2
              go_meet
              case rel => exact ⟨rfl, _, PF.out, BD.out.write _ _⟩
        · by_cases hK5 : K = 5
          · subst hK5
            have CF := Lib.hid (full_any la A na ca W0 P0.out.sl XO.out.n)
            clear c1
            go_wp2_with fail
            refine CF.out.mono ?_
            rintro r W1 ⟨v, rfl, r1, b1⟩
            have p1 := P0.out.below b1
            have c0 := p1.c0
            have c2 := (p1.below (Below.alloc (Below.refl _ _) (Nat.le_refl _) (.cells #[] 5))).c2
            simp only at c0 c2
            obtain ⟨A2, c2', W2, hr2, rb2, b2⟩ := copy_wide p1.sl XO.out.n XO.out.z XQ.out
            have hlb : la.length = na := XO.out.n
            have hnb : na ≤ maxLen := by have := XQ.out; unfold maxLen; omega
            have p2 := p1.below b2
            have rb2 := rb2.down p1.st.bel.size
            have HR2 := Lib.hid hr2
            simp only at HR2 rb2
            clear r1 b1 CF p1 hr2 b2
            have HLB := Lib.hid hlb
            have HNB := Lib.hid hnb
            have SLB := Lib.hid (sl_row rb2 hlb hnb)
            have P2 := Lib.hid p2
            have HDS : Hid (d.steps ≤ 1000000) := by show _ ≤ _; have := BD.out.s; have := HIM.out.2; omega
            have HDP : Hid (d.ps.length ≤ 100000) := by show _ ≤ _; have := BD.out.p; have := HIM.out.2; omega
            have CW := Lib.hid (p_write (p2.below (Below.refl _ _).drew) I HDS.out HDP.out (rb2.below (Below.refl _ _).drew) hlb hnb)
            clear hlb hnb p2 rb2
            go_wp2_with (at_builtin; refine wpList_append_run rfl (.tmp 111) (.tmp 113) 29 29 rfl _ _ rfl rfl _ _ HR2.out ?_)
            clear c0 c2 HR2
            refine wp_region_held_drew (S := fun w' => OB w' q ⟨5, I, A, na, ca, la⟩ ∧ Sl eBy w' A2 la) (by kernel_rfl) (⟨(Below.refl W2.heap.size W2).drew.block q (lt_of_heap P2.out.ob) |>.trans P2.out.ob, SLB.out.below (Nat.le_refl _) (Below.refl W2.heap.size W2).drew⟩) (fun hHeld => ?_)
            refine wpAnyH_take (i := 0) (oi := { dst := some 115, op := Op.move (Operand.tmp 5), type := 24, pos := "law.go:63", after := #[], guard := none }) (v := ?vq25n1) rfl (by kernel_rfl) (by kernel_rfl) (by kernel_rfl) (fun _ _ _ h => h) (Or.inl ⟨by rfl, ?hyq25n1⟩) (by assumption) ?restq25n1
            case hyq25n1 => (intro w hSw; (try dsimp only at hSw); have q1 := cell_of hSw.1 1; have q2 := hSw.2; simp only [List.getElem?_toArray, List.getElem?_cons_zero, List.getElem?_cons_succ] at q1; go_simp <;> (try with_reducible rfl))
            try simp only [Act.put, List.setIfInBounds_toArray, List.set_cons_zero, List.set_cons_succ]
            refine wpAnyH_take (i := 1) (oi := { dst := some 116, op := Op.fieldAddr 37 (Operand.tmp 9) 1, type := 0, pos := "law.go:63", after := #[], guard := none }) (v := ?vq25n2) rfl (by kernel_rfl) (by kernel_rfl) (by kernel_rfl) (fun _ _ _ h => h) (Or.inl ⟨by rfl, ?hyq25n2⟩) (by assumption) ?restq25n2
            case hyq25n2 => (intro w hSw; (try dsimp only at hSw); have q1 := cell_of hSw.1 1; have q2 := hSw.2; simp only [List.getElem?_toArray, List.getElem?_cons_zero, List.getElem?_cons_succ] at q1; go_simp <;> (try with_reducible rfl))
            try simp only [Act.put, List.setIfInBounds_toArray, List.set_cons_zero, List.set_cons_succ]
            refine wpAnyH_take (i := 2) (oi := { dst := some 117, op := Op.load 3 (Operand.tmp 116), type := 3, pos := "law.go:63", after := #[{ on := 1, ground := Ground.data }], guard := none }) (v := ?vq25n3) rfl (by kernel_rfl) (by kernel_rfl) (by kernel_rfl) (fun _ _ _ h => h) (Or.inl ⟨by rfl, ?hyq25n3⟩) (by assumption) ?restq25n3
            case hyq25n3 => (intro w hSw; (try dsimp only at hSw); have q1 := cell_of hSw.1 1; have q2 := hSw.2; simp only [List.getElem?_toArray, List.getElem?_cons_zero, List.getElem?_cons_succ] at q1; go_simp <;> (try with_reducible rfl))
            try simp only [Act.put, List.setIfInBounds_toArray, List.set_cons_zero, List.set_cons_succ]
            refine wpAnyH_take (i := 3) (oi := { dst := some 118, op := Op.move (Operand.tmp 11), type := 29, pos := "law.go:63", after := #[], guard := none }) (v := ?vq25n4) rfl (by kernel_rfl) (by kernel_rfl) (by kernel_rfl) (fun _ _ _ h => h) (Or.inl ⟨by rfl, ?hyq25n4⟩) (by assumption) ?restq25n4
            case hyq25n4 => (intro w hSw; (try dsimp only at hSw); have q1 := cell_of hSw.1 1; have q2 := hSw.2; simp only [List.getElem?_toArray, List.getElem?_cons_zero, List.getElem?_cons_succ] at q1; go_simp <;> (try with_reducible rfl))
            try simp only [Act.put, List.setIfInBounds_toArray, List.set_cons_zero, List.set_cons_succ]
            refine wpAnyH_take (i := 5) (oi := { dst := some 120, op := Op.move (Operand.tmp 7), type := 34, pos := "law.go:63", after := #[], guard := none }) (v := ?vq25n5) rfl (by kernel_rfl) (by kernel_rfl) (by kernel_rfl) (fun _ _ _ h => h) (Or.inl ⟨by rfl, ?hyq25n5⟩) (by assumption) ?restq25n5
            case hyq25n5 => (intro w hSw; (try dsimp only at hSw); have q1 := cell_of hSw.1 1; have q2 := hSw.2; simp only [List.getElem?_toArray, List.getElem?_cons_zero, List.getElem?_cons_succ] at q1; go_simp <;> (try with_reducible rfl))
            try simp only [Act.put, List.setIfInBounds_toArray, List.set_cons_zero, List.set_cons_succ]
            refine wpAnyH_take (i := 6) (oi := { dst := some 121, op := Op.fieldAddr 37 (Operand.tmp 9) 1, type := 0, pos := "law.go:63", after := #[], guard := none }) (v := ?vq25n6) rfl (by kernel_rfl) (by kernel_rfl) (by kernel_rfl) (fun _ _ _ h => h) (Or.inl ⟨by rfl, ?hyq25n6⟩) (by assumption) ?restq25n6
            case hyq25n6 => (intro w hSw; (try dsimp only at hSw); have q1 := cell_of hSw.1 1; have q2 := hSw.2; simp only [List.getElem?_toArray, List.getElem?_cons_zero, List.getElem?_cons_succ] at q1; go_simp <;> (try with_reducible rfl))
            try simp only [Act.put, List.setIfInBounds_toArray, List.set_cons_zero, List.set_cons_succ]
            refine wpAnyH_take (i := 7) (oi := { dst := some 122, op := Op.load 3 (Operand.tmp 121), type := 3, pos := "law.go:63", after := #[{ on := 6, ground := Ground.data }], guard := none }) (v := ?vq25n7) rfl (by kernel_rfl) (by kernel_rfl) (by kernel_rfl) (fun _ _ _ h => h) (Or.inl ⟨by rfl, ?hyq25n7⟩) (by assumption) ?restq25n7
            case hyq25n7 => (intro w hSw; (try dsimp only at hSw); have q1 := cell_of hSw.1 1; have q2 := hSw.2; simp only [List.getElem?_toArray, List.getElem?_cons_zero, List.getElem?_cons_succ] at q1; go_simp <;> (try with_reducible rfl))
            try simp only [Act.put, List.setIfInBounds_toArray, List.set_cons_zero, List.set_cons_succ]
            refine wpAnyH_take (i := 8) (oi := { dst := some 123, op := Op.move (Operand.tmp 11), type := 29, pos := "law.go:63", after := #[], guard := none }) (v := ?vq25n8) rfl (by kernel_rfl) (by kernel_rfl) (by kernel_rfl) (fun _ _ _ h => h) (Or.inl ⟨by rfl, ?hyq25n8⟩) (by assumption) ?restq25n8
            case hyq25n8 => (intro w hSw; (try dsimp only at hSw); have q1 := cell_of hSw.1 1; have q2 := hSw.2; simp only [List.getElem?_toArray, List.getElem?_cons_zero, List.getElem?_cons_succ] at q1; go_simp <;> (try with_reducible rfl))
            try simp only [Act.put, List.setIfInBounds_toArray, List.set_cons_zero, List.set_cons_succ]
            refine wpAnyH_take (i := 9) (oi := { dst := some 124, op := Op.convert 29 9 (Operand.tmp 123), type := 9, pos := "law.go:63", after := #[{ on := 8, ground := Ground.data }], guard := none }) (v := Value.string (txt la)) rfl (by kernel_rfl) (by kernel_rfl) (by kernel_rfl) (fun _ _ _ h => h) (Or.inl ⟨by rfl, fun w hSw => exec_convert rfl rfl (conv_by hSw.2 HLB.out _)⟩) (by assumption) ?_
            try simp only [Act.put, List.setIfInBounds_toArray, List.set_cons_zero, List.set_cons_succ]
            refine wpAnyH_ready (rs := [4]) (by kernel_rfl) (by simp) ?_
            refine AllReadyH.cons (o := { dst := some 119, op := Op.call { callee := Callee.value (Operand.func 9), args := #[Operand.tmp 115, Operand.tmp 117, Operand.tmp 118], argTypes := #[24, 3, 29] }, type := 25, pos := "law.go:63", after := #[{ on := 0, ground := Ground.data }, { on := 2, ground := Ground.data }, { on := 3, ground := Ground.data }], guard := none }) rfl (fun K hK => ?_) AllReadyH.nil
            go_simp
            refine CW.out.mono ?_
            rintro r W3 ⟨rfl, p3, rb3⟩
            have P3 := Lib.hid p3
            have RB3 := Lib.hid rb3
            have SL3 := Lib.hid (sl_row RB3.out HLB.out HNB.out)
            clear p3 rb3 CW
            go_wp2_with fail
            refine hK.out _ _ (⟨P3.out.ob, SL3.out⟩) (fun hHeld => ?_)
            clear hK K
            try simp only [Act.put, List.setIfInBounds_toArray, List.set_cons_zero, List.set_cons_succ]
            refine wpAnyH_ready (rs := [10]) (by kernel_rfl) (by simp) ?_
            refine AllReadyH.cons (o := { dst := some 125, op := Op.call { callee := Callee.value (Operand.func 17), args := #[Operand.tmp 120, Operand.tmp 122, Operand.tmp 124], argTypes := #[34, 3, 9] }, type := 3, pos := "law.go:63", after := #[{ on := 5, ground := Ground.data }, { on := 7, ground := Ground.data }, { on := 9, ground := Ground.data }, { on := 4, ground := Ground.chain }], guard := none }) rfl (fun K hK => ?_) AllReadyH.nil
            go_simp
            refine (p_rwrite P3.out I HDS.out HDP.out RB3.out).mono ?_
            rintro r W4 ⟨rfl, p4, rb4⟩
            have P4 := Lib.hid p4
            have RB4 := Lib.hid rb4
            have SL4 := Lib.hid (sl_row RB4.out HLB.out HNB.out)
            clear p4 rb4 P3 RB3 SL3
            go_wp2_with fail
            refine hK.out _ _ (⟨P4.out.ob, SL4.out⟩) (fun hHeld => ?_)
            clear hK K
            try simp only [Act.put, List.setIfInBounds_toArray, List.set_cons_zero, List.set_cons_succ]
            refine wpAnyH_take (i := 11) (oi := { dst := some 126, op := Op.binOp BinOp.eql 3 (Operand.tmp 119) (Operand.tmp 125) 3, type := 4, pos := "law.go:63", after := #[{ on := 4, ground := Ground.data }, { on := 10, ground := Ground.data }], guard := none }) (v := ?vq25n9) rfl (by kernel_rfl) (by kernel_rfl) (by kernel_rfl) (fun _ _ _ h => h) (Or.inl ⟨by rfl, ?hyq25n9⟩) (by assumption) ?restq25n9
            case hyq25n9 => (intro w hSw; (try dsimp only at hSw); have q1 := cell_of hSw.1 1; have q2 := hSw.2; simp only [List.getElem?_toArray, List.getElem?_cons_zero, List.getElem?_cons_succ] at q1; go_simp <;> (try with_reducible rfl))
            try simp only [Act.put, List.setIfInBounds_toArray, List.set_cons_zero, List.set_cons_succ]
            refine wpAnyH_take (i := 12) (oi := { dst := some 10, op := Op.assign (Operand.tmp 126), type := 4, pos := "law.go:63", after := #[{ on := 11, ground := Ground.data }, { on := 10, ground := Ground.chain }, { on := 0, ground := Ground.phase }, { on := 1, ground := Ground.phase }, { on := 2, ground := Ground.phase }, { on := 3, ground := Ground.phase }, { on := 4, ground := Ground.phase }, { on := 5, ground := Ground.phase }, { on := 6, ground := Ground.phase }, { on := 7, ground := Ground.phase }, { on := 8, ground := Ground.phase }, { on := 9, ground := Ground.phase }, { on := 10, ground := Ground.phase }, { on := 11, ground := Ground.phase }], guard := none }) (v := ?vq25n10) rfl (by kernel_rfl) (by kernel_rfl) (by kernel_rfl) (fun _ _ _ h => h) (Or.inl ⟨by rfl, ?hyq25n10⟩) (by assumption) ?restq25n10
            case hyq25n10 => (intro w hSw; (try dsimp only at hSw); have q1 := cell_of hSw.1 1; have q2 := hSw.2; simp only [List.getElem?_toArray, List.getElem?_cons_zero, List.getElem?_cons_succ] at q1; go_simp <;> (try with_reducible rfl))
            try simp only [Act.put, List.setIfInBounds_toArray, List.set_cons_zero, List.set_cons_succ]
            refine wpAnyH_done (by kernel_rfl) ?_ _
            go_wp2
            go_loopw [129] (fun s129 wx => ∃ (k : Nat) (lc : List UInt8), k ≤ na ∧ s129 = .int .i64 (k : Int) ∧ lc.length = na ∧ RowT eBy 5 wx w.heap.size (.slice A2 na c2') lc ∧ Pl2 w g h q ⟨5, I, A, na, ca, la⟩ (writeD d I la) (writeD d I la) wx) (fun s _ => na - (intOf s).toNat)
            case atStart => exact ⟨0, la, Nat.zero_le _, rfl, HLB.out, RB4.out, P4.out⟩
            case round =>
              obtain ⟨k, lc, hk, rfl, hlc, rb, p⟩ := hrel
              by_cases hlt : k < na
              · obtain ⟨qb, rfl, y1, y2, y3⟩ := rowB_at rb hlc hlt
                obtain ⟨rb5, f5⟩ := y3 (lc.getD k 0 + 1)
                have P5 := Lib.hid (p.fr f5 (by simp) (by simp) (by simp) (by simp) (by simp) (by simp) (by simp))
                have RB5 := Lib.hid rb5
                have hw := u8_next (lc.getD k 0)
                have hlc5 : Hid ((lc.set k (lc.getD k 0 + 1)).length = na) := by rw [show (lc.set k (lc.getD k 0 + 1)).length = lc.length from List.length_set ..]; exact hlc
                generalize lc.set k (lc.getD k 0 + 1) = lc5 at RB5 hlc5
                generalize lc.getD k 0 = y at *
                obtain ⟨yn, hyn⟩ : ∃ yn, yn = y.toNat := ⟨_, rfl⟩
                obtain ⟨zn, hzn⟩ : ∃ zn, zn = (y + 1).toNat := ⟨_, rfl⟩
                rw [← hyn] at y1 hw
                rw [← hzn] at hw RB5 P5
                have HKK : Hid (k + 1 ≤ na) := hlt
                have hki : (k : Int) < (na : Int) := by omega
                have hk0 : (0 : Int) ≤ (k : Int) := by omega
                have hwk : IntKind.i64.wrap ((k : Int) + 1) = ((k + 1 : Nat) : Int) := by rw [IntWalk.i64_in _ (by have := HNB.out; unfold maxLen at this; omega)]; omega
                clear rb p y3 rb5 f5 hlc hk hlt hyn hzn
                go_wp2
                go_roundw
                case rel => exact ⟨k + 1, lc5, HKK.out, by go_num, hlc5.out, RB5.out, P5.out⟩
                case measure => simp [intOf]; omega
              · have hki : ¬ (k : Int) < (na : Int) := by omega
                have PF := Lib.hid p
                clear rb p hlc hk hlt
                go_wp2
                go_meet
                case rel => exact ⟨rfl, _, PF.out, BD.out.write _ _⟩
          · by_cases hK1 : K = 1
            · subst hK1
              have HDS : Hid (d.steps ≤ 1000000) := by show _ ≤ _; have := BD.out.s; have := HIM.out.2; omega
              have CS := Lib.hid (p_sync P0.out HDS.out)
              have CR' : Hid (∀ W1, Pl2 w g h q ⟨1, I, A, na, ca, la⟩ (if stepB d then keepD d else stepD d) d W1 → Calls Try.prog 18 #[.pointer (some ⟨h, 0, none⟩)] W1 fun r w' => r = .returned (.int .i64 (if stepB d then 0 else 7)) ∧ Pl2 w g h q ⟨1, I, A, na, ca, la⟩ (if stepB d then keepD d else stepD d) (if stepB d then keepD d else stepD d) w') := fun W1 p1 => p_rsync p1 HDS.out
              have BS := Lib.hid BD.out.sync
              generalize (if stepB d then (0 : Int) else 7) = e9 at CS CR'
              generalize (if stepB d then keepD d else stepD d) = d9 at CS CR' BS
              go_wp2_with fail
              refine CS.out.mono ?_
              rintro r W1 ⟨rfl, p1⟩
              have CR := Lib.hid (CR'.out W1 p1)
              clear p1 CS c0 c1 c2
              go_wp2_with fail
              refine CR.out.mono ?_
              rintro r W2 ⟨rfl, p2⟩
              have P2 := Lib.hid p2
              clear p2 CR CR'
              go_wp2
              go_meet
              case rel => exact ⟨rfl, _, P2.out, BS.out⟩
            · by_cases hK2 : K = 2
              · subst hK2
                have CS := Lib.hid (p_read P0.out I)
                go_wp2_with fail
                refine CS.out.mono ?_
                rintro r W1 ⟨v, rfl, o1, b1⟩
                have P1 := Lib.hid (P0.out.below b1)
                have CR := Lib.hid (p_rread P1.out I)
                clear CS c0 c1 c2
                have c1 := P1.out.c1
                simp only at c1
                obtain ⟨A2, c2', rfl, sl1, -⟩ := o1.form
                obtain ⟨nb, hnbe⟩ : ∃ nb, nb = (readL d I).length := ⟨_, rfl⟩
                rw [← hnbe] at o1
                have HNB : Hid (nb ≤ maxLen) := by rw [hnbe]; exact sl1.1
                have HC := Lib.hid (conv_by (w := W1) sl1 hnbe.symm c2')
                have O1 := Lib.hid o1
                have B1 := Lib.hid b1
                have HLE := Lib.hid hnbe
                rw [← hnbe]
                generalize readL d I = lr at *
                generalize readR d I = e9 at *
                clear o1 b1 sl1 hnbe
                go_wp2_with fail
                refine CR.out.mono ?_
                rintro r W2 ⟨rfl, rfl⟩
                clear CR c1
                go_wp2_with (refine wpList_value rfl (exec_convert rfl rfl HC.out) ?_)
                go_loopw [173] (fun s173 wx => ∃ (k : Nat) (lc : List UInt8), k ≤ nb ∧ s173 = .int .i64 (k : Int) ∧ lc.length = nb ∧ OwnB wx W0.heap.size (.slice A2 nb c2') lc ∧ Below W0.heap.size W0 wx) (fun s _ => nb - (intOf s).toNat)
                case atStart => exact ⟨0, lr, Nat.zero_le _, rfl, HLE.out.symm, O1.out, B1.out⟩
                case round =>
                  obtain ⟨k, lc, hk, rfl, hlc, rb, p⟩ := hrel
                  by_cases hlt : k < nb
                  · obtain ⟨qb, rfl, y1, y2, y3⟩ := ownB_at rb hlc hlt
                    obtain ⟨rb5, f5⟩ := y3 (lc.getD k 0 + 1)
                    have P5 := Lib.hid (p.trans f5)
                    have RB5 := Lib.hid rb5
                    have hw := u8_next (lc.getD k 0)
                    have hlc5 : Hid ((lc.set k (lc.getD k 0 + 1)).length = nb) := by rw [show (lc.set k (lc.getD k 0 + 1)).length = lc.length from List.length_set ..]; exact hlc
                    generalize lc.set k (lc.getD k 0 + 1) = lc5 at RB5 hlc5
                    generalize lc.getD k 0 = y at *
                    obtain ⟨yn, hyn⟩ : ∃ yn, yn = y.toNat := ⟨_, rfl⟩
                    obtain ⟨zn, hzn⟩ : ∃ zn, zn = (y + 1).toNat := ⟨_, rfl⟩
                    rw [← hyn] at y1 hw
                    rw [← hzn] at hw RB5 P5
                    have HKK : Hid (k + 1 ≤ nb) := hlt
                    have hki : (k : Int) < (nb : Int) := by omega
                    have hk0 : (0 : Int) ≤ (k : Int) := by omega
                    have hwk : IntKind.i64.wrap ((k : Int) + 1) = ((k + 1 : Nat) : Int) := by rw [IntWalk.i64_in _ (by have := HNB.out; unfold maxLen at this; omega)]; omega
                    clear rb p y3 rb5 f5 hlc hk hlt hyn hzn
                    go_wp2
                    go_roundw
                    case rel => exact ⟨k + 1, lc5, HKK.out, by go_num, hlc5.out, RB5.out, P5.out⟩
                    case measure => simp [intOf]; omega
                  · have hki : ¬ (k : Int) < (nb : Int) := by omega
                    have PF := Lib.hid (P0.out.below p)
                    clear rb p hlc hk hlt
                    go_wp2
                    go_meet
                    case rel => exact ⟨rfl, _, PF.out, BD.out.mono (by omega)⟩
              · by_cases hK3 : K = 3
                · subst hK3
                  have CS := Lib.hid (p_fuse P0.out)
                  have hmax : ∀ w, (Builtin.max_ #[3, 3] 3 #[.int .i64 I, .int .i64 (-1)]).run Try.prog w = .ok (.int .i64 (max I (-1))) w := fun w => run_max2 w _ _ _ _ _ rfl
                  simp only at CS
                  go_wp2_with fail
                  refine CS.out.mono ?_
                  rintro r W1 ⟨rfl, p1⟩
                  obtain ⟨p2, z2, y2, hy2⟩ := p_rfuse p1
                  have P2 := Lib.hid p2
                  clear CS c0 c1 c2
                  have c1 := p1.c1
                  simp only at c1 P2
                  clear p1 p2
                  generalize max I (-1) = e9 at *
                  go_wp2
                  go_meet
                  case rel => exact ⟨rfl, _, P2.out, BD.out.fuse _⟩
                · by_cases hK4 : K = 4
                  · subst hK4
                    have HDP : Hid (d.ps.length ≤ 100000) := by show _ ≤ _; have := BD.out.p; have := HIM.out.2; omega
                    have CS := Lib.hid (p_crash P0.out HDP.out)
                    simp only at CS
                    go_wp2_with fail
                    refine CS.out.mono ?_
                    rintro r W1 ⟨rfl, p1⟩
                    have CR := Lib.hid (p_rcrash p1 HDP.out)
                    clear CS c0 c1 c2
                    have c2 := p1.c2
                    simp only at c2 CR
                    clear p1
                    go_wp2_with fail
                    refine CR.out.mono ?_
                    rintro r W2 ⟨rfl, p2⟩
                    have P2 := Lib.hid p2
                    clear p2 CR
                    go_wp2
                    go_meet
                    case rel => exact ⟨rfl, _, P2.out, BD.out.crash _⟩
                  · · clear c1 c2
                      go_wp2
                      go_meet
                      case rel => exact ⟨rfl, _, P0.out, BD.out.mono (by omega)⟩
      case rest =>
        obtain ⟨rfl, d9, p9, bd9⟩ := hcut
        obtain ⟨kv, sv, av, wv, bx, r3⟩ := p9.rf.ex
        obtain ⟨A9, k9, rfl⟩ := r3.a.len
        rw [List.length_map] at bx
        have y5 := bx.c5
        have y2 := bx.c2
        have y6 := bx.c6
        have CD : Hid (∀ n, Calls Try.prog 13 #[.pointer (some ⟨g, 0, none⟩)] (wc.drewN n) fun e w' => e = .returned (.bool d9.down) ∧ w' = wc.drewN n) := fun n => (down_any _ g d9 _ (p9.st.dk.below (below_drewN wc n))).mono fun e w' h => ⟨h.1, h.2.symm⟩
        have CP : Hid (∀ n, Calls Try.prog 14 #[.pointer (some ⟨g, 0, none⟩)] (wc.drewN n) fun e w' => e = .returned (.int .i64 (d9.ps.length : Int)) ∧ w' = wc.drewN n) := fun n => (pend_any _ g d9 _ (p9.st.dk.below (below_drewN wc n))).mono fun e w' h => ⟨h.1, h.2.symm⟩
        have CT : Hid (∀ n, Calls Try.prog 15 #[.pointer (some ⟨g, 0, none⟩)] (wc.drewN n) fun e w' => e = .returned (.int .i64 d9.steps) ∧ w' = wc.drewN n) := fun n => (steps_any _ g d9 _ (p9.st.dk.below (below_drewN wc n))).mono fun e w' h => ⟨h.1, h.2.symm⟩
        have P9 := Lib.hid p9
        have hwi : IntKind.i64.wrap ((i : Int) + 1) = ((i + 1 : Nat) : Int) := by rw [IntWalk.i64_in _ (by have := HIM.out.2; omega)]; omega
        have BD9 := Lib.hid bd9
        clear p9 bd9 bx r3 c0 c1 c2 P0
        generalize d9.down = dn at CD y5
        generalize d9.ps.length = np at CP y2
        generalize d9.steps = ns at CT y6
        go_wp2
        go_quiet (first | (go_at_call 13; exact Calls.quiet_of_same (CD.out _)) | (go_at_call 14; exact Calls.quiet_of_same (CP.out _)) | (go_at_call 15; exact Calls.quiet_of_same (CT.out _)))
        go_wp2
        go_roundw
        case rel => exact ⟨i + 1, d9, HIM.out.1, HIM.out.2, by go_num, P9.out.st.below ⟨rfl, rfl, rfl, Nat.le_refl _, fun _ _ => rfl⟩, P9.out.rf.below ⟨rfl, rfl, rfl, Nat.le_refl _, fun _ _ => rfl⟩, BD9.out⟩
        case measure => have := HIM.out.1; simp [intOf]; omega
    · by_cases him2 : i < m
      · have hii : (i : Int) < (m : Int) := by omega
        have hi2 : ¬ (i : Int) < 100 := by omega
        clear him hi100 hlt HO BD
        go_wp2
        go_loopw [18] (fun s18 wx => ∃ j : Nat, j ≤ n ∧ j ≤ 20 ∧ s18 = .int .i64 (j : Int) ∧ Below wr.heap.size wr wx) (fun s _ => n - (intOf s).toNat)
        case atStart => exact ⟨0, Nat.zero_le _, Nat.zero_le _, rfl, Below.refl _ _⟩
        case round =>
          obtain ⟨j, hjn, hj20, rfl, hb⟩ := hrel
          have HB := Lib.hid hb
          clear hb
          by_cases hlt : j < n
          · have hji : (j : Int) < (n : Int) := by omega
            have hj0 : (0 : Int) ≤ (j : Int) := by omega
            by_cases hl2 : j < 20
            · have hj2 : (j : Int) < 20 := by omega
              have hwj : IntKind.i64.wrap ((j : Int) + 1) = ((j + 1 : Nat) : Int) := by rw [IntWalk.i64_in _ (by omega)]; omega
              have HJ : Hid (j + 1 ≤ n ∧ j + 1 ≤ 20) := ⟨hlt, hl2⟩
              have CS := Lib.hid (st_read (S.out.below HB.out) (j : Int))
              clear hlt hl2 hjn hj20
              go_wp2_with fail
              refine CS.out.mono ?_
              rintro r W1 ⟨v, rfl, o1, s1, b1⟩
              obtain ⟨A2, c2', rfl, sl1, -⟩ := o1.form
              have CR := Lib.hid (rread_any _ h d (j : Int) W1 ((R.out.below HB.out).below b1))
              obtain ⟨nb, hnbe⟩ : ∃ nb, nb = (readL d (j : Int)).length := ⟨_, rfl⟩
              have HC := Lib.hid (conv_by (w := W1) sl1 hnbe.symm c2')
              have HE := Lib.hid (HB.out.trans (b1.mono HB.out.size))
              rw [← hnbe]
              generalize readL d (j : Int) = lr at *
              generalize readR d (j : Int) = e9 at *
              clear o1 b1 s1 sl1 hnbe CS
              go_wp2_with fail
              refine CR.out.mono ?_
              rintro r W2 ⟨rfl, rfl⟩
              clear CR
              go_wp2_with (refine wpList_value rfl (exec_convert rfl rfl HC.out) ?_)
              go_roundw
              case rel => exact ⟨j + 1, HJ.out.1, HJ.out.2, by go_num, HE.out⟩
              case measure => have := HJ.out.1; simp [intOf]; omega
            · have hj2 : ¬ (j : Int) < 20 := by omega
              have HE := Lib.hid (S.out.bel.trans (HB.out.mono S.out.bel.size))
              clear hlt hl2 hjn hj20
              go_wp2
              go_ret
              exact ⟨rfl, HE.out⟩
          · have hji : ¬ (j : Int) < (n : Int) := by omega
            have HE := Lib.hid (S.out.bel.trans (HB.out.mono S.out.bel.size))
            clear hlt hjn hj20
            go_wp2
            go_ret
            exact ⟨rfl, HE.out⟩
      · have hii : ¬ (i : Int) < (m : Int) := by omega
        clear him hi100 hlt HO BD
        go_wp2
        go_loopw [18] (fun s18 wx => ∃ j : Nat, j ≤ n ∧ j ≤ 20 ∧ s18 = .int .i64 (j : Int) ∧ Below wr.heap.size wr wx) (fun s _ => n - (intOf s).toNat)
        case atStart => exact ⟨0, Nat.zero_le _, Nat.zero_le _, rfl, Below.refl _ _⟩
        case round =>
          obtain ⟨j, hjn, hj20, rfl, hb⟩ := hrel
          have HB := Lib.hid hb
          clear hb
          by_cases hlt : j < n
          · have hji : (j : Int) < (n : Int) := by omega
            have hj0 : (0 : Int) ≤ (j : Int) := by omega
            by_cases hl2 : j < 20
            · have hj2 : (j : Int) < 20 := by omega
              have hwj : IntKind.i64.wrap ((j : Int) + 1) = ((j + 1 : Nat) : Int) := by rw [IntWalk.i64_in _ (by omega)]; omega
              have HJ : Hid (j + 1 ≤ n ∧ j + 1 ≤ 20) := ⟨hlt, hl2⟩
              have CS := Lib.hid (st_read (S.out.below HB.out) (j : Int))
              clear hlt hl2 hjn hj20
              go_wp2_with fail
              refine CS.out.mono ?_
              rintro r W1 ⟨v, rfl, o1, s1, b1⟩
              obtain ⟨A2, c2', rfl, sl1, -⟩ := o1.form
              have CR := Lib.hid (rread_any _ h d (j : Int) W1 ((R.out.below HB.out).below b1))
              obtain ⟨nb, hnbe⟩ : ∃ nb, nb = (readL d (j : Int)).length := ⟨_, rfl⟩
              have HC := Lib.hid (conv_by (w := W1) sl1 hnbe.symm c2')
              have HE := Lib.hid (HB.out.trans (b1.mono HB.out.size))
              rw [← hnbe]
              generalize readL d (j : Int) = lr at *
              generalize readR d (j : Int) = e9 at *
              clear o1 b1 s1 sl1 hnbe CS
              go_wp2_with fail
              refine CR.out.mono ?_
              rintro r W2 ⟨rfl, rfl⟩
              clear CR
              go_wp2_with (refine wpList_value rfl (exec_convert rfl rfl HC.out) ?_)
              go_roundw
              case rel => exact ⟨j + 1, HJ.out.1, HJ.out.2, by go_num, HE.out⟩
              case measure => have := HJ.out.1; simp [intOf]; omega
            · have hj2 : ¬ (j : Int) < 20 := by omega
              have HE := Lib.hid (S.out.bel.trans (HB.out.mono S.out.bel.size))
              clear hlt hl2 hjn hj20
              go_wp2
              go_ret
              exact ⟨rfl, HE.out⟩
          · have hji : ¬ (j : Int) < (n : Int) := by omega
            have HE := Lib.hid (S.out.bel.trans (HB.out.mono S.out.bel.size))
            clear hlt hjn hj20
            go_wp2
            go_ret
            exact ⟨rfl, HE.out⟩
end Go.Proofs.Ytghfhjeaiiianaa
