/-
  The contract of the iterator over the parts of a half. Its conditions: the journal and its disk lie in memory, the half lies on the disk, which isn't down.
-/
import Derived.Test.YtppdckncnfffcaaJ7
namespace Go.Proofs.Ytppdckncnfffcaa
open Go.RowKit Go.Shelf
set_option maxRecDepth 100000
attribute [local go_sem] Oper.semAt_some

/-- What a round must keep: what lies below n₀; of what lies below n₁, and of all cells, all but the kinds l and the blocks ms. -/
def Kq (l ms : List Nat) (n₀ n₁ : Nat) (W W' : World) : Prop := Below n₀ W W' ∧ ∀ (b : Nat) (o : Obj), W.heap[b]? = some o → (b < n₁ ∨ o.isCells = true) → kd o ∉ l → b ∉ ms → W'.heap[b]? = some o
section
variable {l ms : List Nat} {n₀ n₁ : Nat} {A B C : World}
theorem Kq.refl (l ms : List Nat) (n₀ n₁ : Nat) (A : World) : Kq l ms n₀ n₁ A A := ⟨Below.refl _ _, fun _ _ h _ _ _ => h⟩
theorem Kq.t (h : Kq l ms n₀ n₁ A B) (k : Kq l ms n₀ n₁ B C) : Kq l ms n₀ n₁ A C := ⟨h.1.trans k.1, fun b o hb h1 h2 h3 => k.2 b o (h.2 b o hb h1 h2 h3) h1 h2 h3⟩
theorem Kq.below (h : Below A.heap.size A B) (hn : n₀ ≤ A.heap.size) : Kq l ms n₀ n₁ A B := ⟨h.mono hn, fun b _ hb _ _ _ => (h.block b (lt_of_heap hb)).trans hb⟩
theorem Kq.of_fr (h : Fr l ms n₀ A B) : Kq l ms n₀ n₁ A B := ⟨h.below, fun b o hb _ h2 h3 => h.keep b o hb h2 h3⟩
theorem Kq.b {w : World} (h0 : n₀ ≤ w.heap.size) (h1 : n₁ ≤ w.heap.size) (W : World) (k : Nat) (o o' : Obj) (hl : w.heap.size ≤ k) (h : W.heap[k]? = some o) (ho : o.isCells = false) : Kq l ms n₀ n₁ W (W.putObj k o') :=
  ⟨below_put o' h (by omega), fun b x hb hx _ _ => by
    rw [World.putObj_heap_other (fun e => ?_)]
    · exact hb
    · subst e
      rw [h] at hb
      cases hb
      rcases hx with hx | hx
      · omega
      · rw [ho] at hx
        cases hx⟩
theorem Kq.own {β : Type} {b : Nat} {w : World} (hw : n₀ ≤ w.heap.size) (h0 : n₀ ≤ b) (h1 : n₁ ≤ b) : OwnFrom b (fun (_ : β) W => Kq l ms n₀ n₁ w W) := by
  intro _ X Y row hs hg hr
  refine hs.t ⟨⟨hg.os, hg.tape, hg.output, hg.size, fun k hk => ?_⟩, fun k o hk hx _ _ => ?_⟩
  · exact hg.block k (Nat.lt_of_lt_of_le hk (Nat.le_trans hw hs.1.size)) (fun he => by have := (hr k he.symm).1; omega)
  · rw [hg.block k (lt_of_heap hk) (fun he => ?_)]
    · exact hk
    · obtain ⟨h2, o2, h3, h4⟩ := hr k he.symm
      rw [hk] at h3
      cases h3
      rcases hx with hx | hx
      · omega
      · rw [h4] at hx
        cases hx
theorem Kq.cell {b : Nat} {cs : Array Value} {t : TypeId} (h : Kq l ms n₀ n₁ A B) (hb : A.heap[b]? = some (.cells cs t (0, 0))) (ht : t ∉ l) (hm : b ∉ ms) : B.heap[b]? = some (.cells cs t (0, 0)) := h.2 b _ hb (.inr rfl) ht hm
end
/-- How a part is told. -/
def EvP (W : World) (x : Pt) (vs : Array Value) : Prop := ∃ A c, vs = #[ptV x A x.bs.length c] ∧ Sl eBy W A x.bs ∧ (A = none → c = 0)
def okP (p : Pt) (i : Nat) : Prop := p.num ≤ i ∧ p.rn ≤ (i : Int) ∧ -1 ≤ p.rn ∧ (p.num = p.of ∨ 0 ≤ p.rn)
theorem okP_next {p : Pt} {i : Nat} (s : Sec) (h : okP p i) : okP (nextP p s) (i + 1) := by
  obtain ⟨h1, h2, h3, h4⟩ := h
  unfold nextP
  split
  · exact ⟨by simp, by simp; omega, by simp; omega, .inr (by simp; omega)⟩
  · rename_i hne
    have : 0 ≤ p.rn := h4.resolve_left hne
    exact ⟨by simp; omega, by simp; omega, by simp; omega, .inr (by simpa using this)⟩
/-- A half's sectors. -/
def halfL (S : List Sec) (first size : Nat) : List Sec := (S.drop first).take size
theorem halfL_at {S : List Sec} {first size i : Nat} (hi : i < size) (h : first + size ≤ S.length) : (halfL S first size).drop i = at_ S (first + i) :: (halfL S first size).drop (i + 1) := by
  have hl : i < (halfL S first size).length := by simp [halfL]; omega
  rw [List.drop_eq_getElem_cons hl]
  congr 1
  have : (halfL S first size)[i]? = some (at_ S (first + i)) := by
    unfold halfL
    rw [List.getElem?_take, if_pos hi, List.getElem?_drop, at_get (by omega)]
  rw [List.getElem?_eq_getElem hl] at this
  exact Option.some.inj this
theorem halfL_0 {S : List Sec} {first size : Nat} (hi : 0 < size) (h : first + size ≤ S.length) : at_ (halfL S first size) 0 = at_ S first := by
  have := halfL_at hi h
  rw [List.drop_zero] at this
  rw [this]
  rfl
theorem store89new (w : World) (x y : Sec) : (Instr.storeAt 89 (.pointer (some ⟨w.heap.size, 0, none⟩)) (secV y)).run Try.prog (w.alloc (.cells (eSec.f x).toArray 89)) = .ok () (w.alloc (.cells (eSec.f y).toArray 89)) :=
  run_storeNew w _ _ size89 (by simp [eSec.len]; rfl) (by simp [eSec.len]; rfl) (fun v hv => eSec.one y v (by simpa using hv))
/-- What the iterator stands on. -/
structure PsI (w0 W : World) (bj bf g first : Nat) : Prop where
  cj : W.heap[bj]? = some (.cells #[.pointer (some ⟨g, 0, none⟩)] 29 (0, 0))
  cf : W.heap[bf]? = some (.cells #[.int .i64 (first : Int)] 3 (0, 0))
  bel : Below w0.heap.size w0 W
section
variable {w0 W W' : World} {bj bf g first : Nat}
theorem PsI.below (h : PsI w0 W bj bf g first) (hb : Below W.heap.size W W') : PsI w0 W' bj bf g first :=
  ⟨(hb.block _ (lt_of_heap h.cj)).trans h.cj, (hb.block _ (lt_of_heap h.cf)).trans h.cf, h.bel.trans (hb.mono h.bel.size)⟩
theorem PsI.kq {l ms : List Nat} {n₁ : Nat} (h : PsI w0 W bj bf g first) (hk : Kq l ms w0.heap.size n₁ W W') (h1 : 29 ∉ l) (h2 : 3 ∉ l) (h3 : bj ∉ ms) (h4 : bf ∉ ms) : PsI w0 W' bj bf g first :=
  ⟨hk.cell h.cj h1 h3, hk.cell h.cf h2 h4, h.bel.trans hk.1⟩
theorem PsI.fr {base : Nat} (h : PsI w0 W bj bf g first) (hf : Fr [101] [] base W W') (hb : w0.heap.size ≤ base) : PsI w0 W' bj bf g first :=
  ⟨hf.keep _ _ h.cj (by simp [kd]) (by simp), hf.keep _ _ h.cf (by simp [kd]) (by simp), h.bel.trans (hf.below.mono hb)⟩
end
theorem load101 {w : World} {q : Nat} {l r nu o : Int} {v : Value} (h : Bx5 w q l r nu o v) : (Instr.loadAt 101 (.pointer (some ⟨q, 0, none⟩))).run Try.prog w = .ok (.agg #[.int .i64 l, .int .i64 r, .int .i64 nu, .int .i64 o, v]) w := by
  have hl := run_loadVar_row (P := Try.prog) w q 101 101 _ (0, 0) _ h Try.underlying101 rfl (by rw [size101]; rfl)
  simp only [Instr.loadAt, Instr.sureAddr, Sem.run_bind, Sem.run_pure, Result.andThen_ok, hl]
theorem row101 {w : World} {q base : Nat} {l r nu o : Int} {v : Value} (h : Bx5 w q l r nu o v) (hb : base ≤ q) (l' r' nu' o' : Int) (v' : Value) : Fr [101] [] base w (w.setRow q #[.int .i64 l', .int .i64 r', .int .i64 nu', .int .i64 o', v']) :=
  (Fr.refl _ _ _ _).row h (.inl (by simp [kd])) hb _
/-- The iterator's loop. -/
structure LpI (w0 W wr : World) (bj bf g first q i : Nat) (J : List Pt → World → Prop) (H : List Sec) (L pre : List Pt) (cur : Pt) (A : Option Addr) (nc cc : Nat) : Prop where
  ps : PsI w0 wr bj bf g first
  bx : Bx5 wr q cur.lap cur.rn cur.num cur.of (.slice A nc cc)
  j : J pre wr
  l : L = pre ++ walk cur (H.drop i)
  ok : okP cur i
  sz : W.heap.size ≤ wr.heap.size
set_option maxHeartbeats 8000000 in
theorem parts_tells (w0 w : World) (g dg base first bj bf n₁ : Nat) (j : Jn) (d : Dk) (l ms : List Nat) (hj : JBox w0 g dg j) (hdk : DiskAt w0 base dg d) (hd : d.down = false) (hlen : first + j.size ≤ d.K.length) (hfs : first ≤ 4096) (hsz : 0 < j.size) (hs2 : j.size ≤ 4096)
    (hp : PsI w0 w bj bf g first) (hl : 29 ∉ l ∧ 3 ∉ l ∧ 101 ∉ l) (hm : bj ∉ ms ∧ bf ∉ ms ∧ ∀ m ∈ ms, m < w.heap.size) :
    Tells2 Try.prog 58 #[.pointer (some ⟨bj, 0, none⟩), .pointer (some ⟨bf, 0, none⟩)] EvP (Kq l ms w0.heap.size n₁) [101] (partsL (halfL (seen d.K d.ps) first j.size)) w := by
  intro ly J Jx W hW hJ hJx hJf hY hJ0
  have hdd : ∀ k : Nat, (Fence.wide.depth.isSome = true → 1 ≤ k) := fun k h => by cases h
  have hmx : Try.prog.follows .mixedOrders = true := by kernel_rfl
  have hf43 : Fence.wide.fn 43 := trivial
  have hf44 : Fence.wide.fn 44 := trivial
  have hPW := hp.below hW
  have hsm : Hid (∀ m ∈ ms, m < W.heap.size) := fun m hmm => Nat.lt_of_lt_of_le (hm.2.2 m hmm) hW.size
  have q0 := one_cell hPW.cj
  have q1 := one_cell hPW.cf
  obtain ⟨S, hS⟩ : ∃ S, S = seen d.K d.ps := ⟨_, rfl⟩
  have hSl : S.length = d.K.length := by rw [hS, seen_length]
  have RD : Hid (∀ (i : Nat) (V : World), Below w0.heap.size w0 V → i < j.size → Calls Try.prog 43 #[.pointer (some ⟨g, 0, none⟩), .int .i64 ((first + i : Nat) : Int)] V fun r w' => r = .returned (secV (at_ S (first + i))) ∧ Below V.heap.size V w') := by
    intro i V hV hi
    rw [hS]
    exact jread_any g dg base (first + i) j d V (hj.below hV) (hdk.below hV) hd (by omega)
  have C1 : Hid (∀ V : World, Below w0.heap.size w0 V → V.cell? ⟨g, 1, none⟩ = some (.int .i64 (j.size : Int))) := fun V hV => (hj.below hV).c1
  rw [← hS] at hY ⊢
  have HA : Hid (∀ i < j.size, (halfL S first j.size).drop i = at_ S (first + i) :: (halfL S first j.size).drop (i + 1)) := fun i hi => halfL_at hi (by omega)
  have HE0 : Hid ((halfL S first j.size).drop j.size = []) := List.drop_of_length_le (by simp [halfL]; omega)
  have H0 := Lib.hid (halfL_0 hsz (show first + j.size ≤ S.length by omega))
  obtain ⟨n, hn⟩ : ∃ n, n = j.size := ⟨_, rfl⟩
  rw [← hn] at RD C1 HA HE0 H0 hsz hs2 hY ⊢
  obtain ⟨H, hH⟩ : ∃ H, H = halfL S first n := ⟨_, rfl⟩
  rw [← hH] at HA HE0 H0 hY ⊢
  have R0 := Lib.hid (RD.out 0 W hPW.bel hsz)
  have HY := Lib.hid hY
  have HJF := Lib.hid hJf
  have HJ0 := Lib.hid hJ0
  have HP := Lib.hid hPW
  have HLL := Lib.hid hl
  have HMM := Lib.hid hm
  have hn1 : (n : Int) ≤ 4096 := by omega
  clear hj hdk hd hlen hS hSl hn hH hY hJf hJ0 hPW hJ hJx hp hl hm hW
  obtain ⟨s0, hs0⟩ : ∃ s0, s0 = at_ S (first + 0) := ⟨_, rfl⟩
  rw [← hs0] at R0
  rw [Nat.add_zero] at R0 hs0
  have HS0 : Hid (at_ H 0 = s0) := by show _ = _; rw [hs0]; exact H0.out
  clear hs0
  refine callsIn_of_wp Try.func58 rfl trivial ?_ rfl
  simp only [Try.ntmps58, List.size_toArray, List.length_cons, List.length_nil, Nat.reduceAdd, Nat.reduceSub, Array.replicate_succ, Array.replicate_zero, List.push_toArray, List.append_toArray, List.nil_append, List.cons_append]
  gi_wp2_with (first
    | ((try refine ⟨hdd _, ?_⟩); gi_at_call 43; refine (callsIn_wide.2 R0.out).mono ?_; rintro e w1 ⟨rfl, hb1⟩)
    | (refine wpListIn_value rfl rfl (fun _ h => by cases h) (exec_alloc rfl (run_alloc89 _)) ?_; refine wpListIn_unit rfl rfl (fun _ h => by cases h) (exec_store rfl rfl rfl (store89new _ _ s0)) ?_))
  have HL4 : Hid (((s0.v.drop 0).take 4).length = 4) := by
    show _ = _
    have := s0.h
    simp
    omega
  have HMX : Hid (s0.v.length ≤ maxLen) := by
    show _ ≤ _
    rw [s0.h]
    unfold maxLen
    omega
  have CN := Lib.hid (number_any _ 4 64 _ _ ((by_new w1 s0 89).sl HMX.out 0 4) HL4.out (by decide))
  obtain ⟨lap, hlap⟩ : ∃ lap, lap = lapF s0 := ⟨_, rfl⟩
  have e0 : num ((s0.v.drop 0).take 4) = lap := hlap.symm
  rw [e0] at CN
  have HLP : Hid (lapF (at_ H 0) = lap) := by show _ = _; rw [HS0.out, hlap]
  clear e0 hlap
  have hb3 : Below W.heap.size W ((w1.alloc (.cells (eSec.f s0).toArray 89)).alloc (.cells #[.int .i64 (lap : Int), .int .i64 (-1), .int .i64 0, .int .i64 0, .slice none 0 0] 101)) :=
    (hb1.alloc hb1.size _).alloc (by simp; have := hb1.size; omega) _
  have hq : Bx5 ((w1.alloc (.cells (eSec.f s0).toArray 89)).alloc (.cells #[.int .i64 (lap : Int), .int .i64 (-1), .int .i64 0, .int .i64 0, .slice none 0 0] 101)) (w1.heap.size + 1) (lap : Int) (-1) 0 0 (.slice none 0 0) := by
    have := heap_new (w1.alloc (.cells (eSec.f s0).toArray 89)) (.cells #[.int .i64 (lap : Int), .int .i64 (-1), .int .i64 0, .int .i64 0, .slice none 0 0] 101)
    simp only [World.size_alloc] at this
    exact this
  have HW0 : Hid (w0.heap.size ≤ W.heap.size) := HP.out.bel.size
  have HQW : Hid (W.heap.size ≤ (w1.heap.size + 1)) := by show _ ≤ _; have := hb1.size; omega
  have HJ3 := Lib.hid (HJF.out [] _ _ HJ0.out (Fr.of_below (l := [101]) (ms := []) hb3 (Nat.le_refl _)))
  have hP3 := HP.out.below hb3
  have k0 := one_cell hP3.cj
  have k1 := C1.out _ hP3.bel
  by_cases h0 : lap = 0
  · have e1 : partsL H = [] := by unfold partsL; rw [HLP.out, if_pos h0]
    have h0i : ((lap : Int) == 0) = true := by simp [h0]
    have HE : Hid (partsL H = []) := e1
    clear e1 h0 k0 k1 hP3 hq
    gi_wp2_with ((try refine ⟨hdd _, ?_⟩); gi_at_call 44; refine (callsIn_wide.2 CN.out).mono ?_; rintro e w2 ⟨rfl, rfl⟩)
    refine bodyPost_ret (results_none rfl _ _ _) rfl ?_
    refine ⟨⟨_, rfl⟩, .inl ?_⟩
    rw [HE.out]
    exact HJ3.out
  · have h0i : ((lap : Int) == 0) = false := by simp; omega
    have e1 : partsL H = walk (p0 lap) H := by unfold partsL; rw [HLP.out, if_neg h0]
    have HI0 : Hid (LpI w0 W _ bj bf g first (w1.heap.size + 1) 0 J H (partsL H) [] (p0 lap) none 0 0) := ⟨hP3, hq, HJ3.out, by rw [e1]; rfl, ⟨by simp [p0], by simp [p0], by simp [p0], .inl rfl⟩, hb3.size⟩
    clear e1 h0 hP3 hq
    gi_wp2_with ((try refine ⟨hdd _, ?_⟩); gi_at_call 44; refine (callsIn_wide.2 CN.out).mono ?_; rintro e w2 ⟨rfl, rfl⟩)
    gi_loopw [21] (fun s21 wr => ∃ (i : Nat) (pre : List Pt) (cur : Pt) (A : Option Addr) (nc cc : Nat), i ≤ n ∧ s21 = .int .i64 (i : Int) ∧ LpI w0 W wr bj bf g first (w1.heap.size + 1) i J H (partsL H) pre cur A nc cc) (fun s _ => n - (intOf s).toNat)
    case atStart => exact ⟨0, [], p0 lap, none, 0, 0, Nat.zero_le _, rfl, HI0.out⟩
    case round =>
      obtain ⟨i, pre, cur, Ac, nc, cc, hi, rfl, hlp⟩ := hrel
      have HLPI := Lib.hid hlp
      clear hlp HI0 k0 k1 h0i
      by_cases hlt : i < n
      · have hlti : (i : Int) < (n : Int) := by omega
        have hi0 : (0 : Int) ≤ (i : Int) := by omega
        have HIN : Hid (i < n) := hlt
        obtain ⟨s, hs⟩ : ∃ s, s = at_ S (first + i) := ⟨_, rfl⟩
        have HSI : Hid (at_ S (first + i) = s) := hs.symm
        have HD := Lib.hid (HA.out i hlt)
        have HSZ : Hid (W.heap.size ≤ wr.heap.size) := HLPI.out.sz
        have HB0 := Lib.hid (HLPI.out.ps.below (Below.refl _ wr).drew)
        have HX0 := Lib.hid (HLPI.out.bx.below (Below.refl _ wr).drew)
        have HO1 : Hid (cur.num ≤ 65536) := by show _ ≤ _; have := HLPI.out.ok.1; omega
        have HO2 : Hid (cur.rn ≤ 65536) := by show _ ≤ _; have := HLPI.out.ok.2.1; omega
        have HO3 : Hid (-1 ≤ cur.rn) := HLPI.out.ok.2.2.1
        have HO4 : Hid (cur.num = cur.of ∨ 0 ≤ cur.rn) := HLPI.out.ok.2.2.2
        have hHeld := HB0.out
        have hfi : IntKind.i64.wrap ((first : Int) + (i : Int)) = (first : Int) + (i : Int) := IntWalk.i64_in _ (by omega)
        have HFI : Hid (((first + i : Nat) : Int) = (first : Int) + (i : Int)) := by show _ = _; push_cast; rfl
        clear hs hlt hi
        gi_wp2
        refine region_wide hmx (by kernel_rfl) ?_ (wpAny_of_held (S := fun w' => PsI w0 w' bj bf g first) _ _ _ _ ?_)
        · rintro ⟨_, _, h⟩
          obtain ⟨⟨v, hv⟩, _⟩ := (show (∃ v, Ending.outgrown = Ending.returned v) ∧ _ from h)
          cases hv
        refine wpAnyH_take (i := 1) (oi := { dst := some 26, op := Op.load 29 (Operand.tmp 1), type := 29, pos := "journal.go:159", after := #[], guard := none }) (v := ?v7n1) rfl (by kernel_rfl) (by kernel_rfl) (by kernel_rfl) (fun _ _ _ h => h) (Or.inl ⟨by rfl, ?hy7n1⟩) (by assumption) ?rest7n1
        case hy7n1 => (intro w hSw; (try dsimp only at hSw); have q0 := one_cell hSw.cj; have q1 := one_cell hSw.cf; go_simp <;> (try with_reducible rfl))
        try simp only [Act.put, List.setIfInBounds_toArray, List.set_cons_zero, List.set_cons_succ]
        refine wpAnyH_take (i := 2) (oi := { dst := some 27, op := Op.load 3 (Operand.tmp 2), type := 3, pos := "journal.go:159", after := #[], guard := none }) (v := ?v7n2) rfl (by kernel_rfl) (by kernel_rfl) (by kernel_rfl) (fun _ _ _ h => h) (Or.inl ⟨by rfl, ?hy7n2⟩) (by assumption) ?rest7n2
        case hy7n2 => (intro w hSw; (try dsimp only at hSw); have q0 := one_cell hSw.cj; have q1 := one_cell hSw.cf; go_simp <;> (try with_reducible rfl))
        try simp only [Act.put, List.setIfInBounds_toArray, List.set_cons_zero, List.set_cons_succ]
        refine wpAnyH_take (i := 3) (oi := { dst := some 28, op := Op.move (Operand.tmp 6), type := 3, pos := "journal.go:159", after := #[], guard := none }) (v := ?v7n3) rfl (by kernel_rfl) (by kernel_rfl) (by kernel_rfl) (fun _ _ _ h => h) (Or.inl ⟨by rfl, ?hy7n3⟩) (by assumption) ?rest7n3
        case hy7n3 => (intro w hSw; (try dsimp only at hSw); have q0 := one_cell hSw.cj; have q1 := one_cell hSw.cf; go_simp <;> (try with_reducible rfl))
        try simp only [Act.put, List.setIfInBounds_toArray, List.set_cons_zero, List.set_cons_succ]
        refine wpAnyH_take (i := 4) (oi := { dst := some 29, op := Op.binOp BinOp.add 3 (Operand.tmp 27) (Operand.tmp 28) 3, type := 3, pos := "journal.go:159", after := #[{ on := 2, ground := Ground.data }, { on := 3, ground := Ground.data }], guard := none }) (v := ?v7n4) rfl (by kernel_rfl) (by kernel_rfl) (by kernel_rfl) (fun _ _ _ h => h) (Or.inl ⟨by rfl, ?hy7n4⟩) (by assumption) ?rest7n4
        case hy7n4 => (intro w hSw; (try dsimp only at hSw); have q0 := one_cell hSw.cj; have q1 := one_cell hSw.cf; go_simp <;> (try with_reducible rfl))
        try simp only [Act.put, List.setIfInBounds_toArray, List.set_cons_zero, List.set_cons_succ]
        refine wpAnyH_ready (rs := [0, 5]) (by kernel_rfl) (by simp) ?_
        refine AllReadyH.cons (o := { dst := some 25, op := Op.load 101 (Operand.tmp 5), type := 101, pos := "journal.go:159", after := #[], guard := none }) rfl (fun K hK => ?_) (AllReadyH.cons (o := { dst := some 30, op := Op.call { callee := Callee.value (Operand.func 43), args := #[Operand.tmp 26, Operand.tmp 29], argTypes := #[29, 3] }, type := 89, pos := "journal.go:159", after := #[{ on := 1, ground := Ground.data }, { on := 4, ground := Ground.data }], guard := none }) rfl (fun K hK => ?_) (AllReadyH.nil))
        · refine wp_value (exec_load rfl rfl (load101 HX0.out)) ?_
          refine hK.out _ _ (HB0.out) (fun hHeld => ?_)
          clear hK K
          try simp only [Act.put, List.setIfInBounds_toArray, List.set_cons_zero, List.set_cons_succ]
          refine wpAnyH_ready (rs := [5]) (by kernel_rfl) (by simp) ?_
          refine AllReadyH.cons (o := { dst := some 30, op := Op.call { callee := Callee.value (Operand.func 43), args := #[Operand.tmp 26, Operand.tmp 29], argTypes := #[29, 3] }, type := 89, pos := "journal.go:159", after := #[{ on := 1, ground := Ground.data }, { on := 4, ground := Ground.data }], guard := none }) rfl (fun K hK => ?_) AllReadyH.nil
          go_simp
          rw [← HFI.out]
          refine (RD.out i _ HB0.out.bel HIN.out).mono ?_
          rintro r wa ⟨rfl, ba⟩
          rw [HSI.out]
          have BA := Lib.hid (And.intro (HB0.out.below ba) (HX0.out.below ba))
          have FA := Lib.hid (Fr.of_below (l := [101]) (ms := []) (base := W.heap.size) (Below.trans (Below.refl _ wr).drew ba) HSZ.out)
          clear ba
          dsimp only
          refine hK.out _ _ (BA.out.1) (fun hHeld => ?_)
          clear hK K
          try simp only [Act.put, List.setIfInBounds_toArray, List.set_cons_zero, List.set_cons_succ]
          refine wpAnyH_ready (rs := [6]) (by kernel_rfl) (by simp) ?_
          refine AllReadyH.cons (o := { dst := some 31, op := Op.call { callee := Callee.value (Operand.func 59), args := #[Operand.tmp 25, Operand.tmp 30], argTypes := #[101, 89] }, type := 116, pos := "journal.go:159", after := #[{ on := 0, ground := Ground.data }, { on := 5, ground := Ground.data }, { on := 5, ground := Ground.chain }], guard := none }) rfl (fun K hK => ?_) AllReadyH.nil
          go_simp
          refine (next_any cur s Ac nc cc wa HO1.out HO2.out HO3.out HO4.out).mono ?_
          rintro r wb ⟨An, cn, rfl, hsn, han, had, bb⟩
          have HAD : Hid (∀ ad, An = some ad → w1.heap.size + 1 < ad.block) := fun ad he => Nat.lt_of_lt_of_le BA.out.2.lt (had ad he)
          have BB := Lib.hid (And.intro (BA.out.1.below bb) (BA.out.2.below bb))
          have FB := Lib.hid (FA.out.trans (Fr.of_below bb (Nat.le_trans HSZ.out FA.out.size)))
          have HSN := Lib.hid hsn
          have HAN := Lib.hid han
          clear bb hsn han had
          dsimp only
          refine hK.out _ _ (BB.out.1) (fun hHeld => ?_)
          clear hK K
          try simp only [Act.put, List.setIfInBounds_toArray, List.set_cons_zero, List.set_cons_succ]
          refine wpAnyH_take (i := 7) (oi := { dst := some 24, op := Op.move (Operand.tmp 31), type := 116, pos := "journal.go:159", after := #[{ on := 6, ground := Ground.data }], guard := none }) (v := ?v7n5) rfl (by kernel_rfl) (by kernel_rfl) (by kernel_rfl) (fun _ _ _ h => h) (Or.inl ⟨by rfl, ?hy7n5⟩) (by assumption) ?rest7n5
          case hy7n5 => (intro w hSw; (try dsimp only at hSw); have q0 := one_cell hSw.cj; have q1 := one_cell hSw.cf; go_simp <;> (try with_reducible rfl))
          try simp only [Act.put, List.setIfInBounds_toArray, List.set_cons_zero, List.set_cons_succ]
          refine wpAnyH_take (i := 8) (oi := { dst := some 32, op := Op.extract (Operand.tmp 24) 0, type := 101, pos := "journal.go:159", after := #[{ on := 7, ground := Ground.data }], guard := none }) (v := ?v7n6) rfl (by kernel_rfl) (by kernel_rfl) (by kernel_rfl) (fun _ _ _ h => h) (Or.inl ⟨by rfl, ?hy7n6⟩) (by assumption) ?rest7n6
          case hy7n6 => (intro w hSw; (try dsimp only at hSw); have q0 := one_cell hSw.cj; have q1 := one_cell hSw.cf; go_simp <;> (try with_reducible rfl))
          try simp only [Act.put, List.setIfInBounds_toArray, List.set_cons_zero, List.set_cons_succ]
          refine wpAnyH_take (i := 9) (oi := { dst := some 33, op := Op.extract (Operand.tmp 24) 1, type := 4, pos := "journal.go:159", after := #[{ on := 7, ground := Ground.data }, { on := 10, ground := Ground.gcOnly Departure.lateStores }], guard := none }) (v := ?v7n7) rfl (by kernel_rfl) (by kernel_rfl) (by kernel_rfl) (fun _ _ _ h => h) (Or.inl ⟨by rfl, ?hy7n7⟩) (by assumption) ?rest7n7
          case hy7n7 => (intro w hSw; (try dsimp only at hSw); have q0 := one_cell hSw.cj; have q1 := one_cell hSw.cf; go_simp <;> (try with_reducible rfl))
          try simp only [Act.put, List.setIfInBounds_toArray, List.set_cons_zero, List.set_cons_succ]
          refine wpAnyH_ready (rs := [10]) (by kernel_rfl) (by simp) ?_
          refine AllReadyH.cons (o := { dst := none, op := Op.store 101 (Operand.tmp 5) (Operand.tmp 32), type := 0, pos := "journal.go:159", after := #[{ on := 8, ground := Ground.data }, { on := 6, ground := Ground.chain }, { on := 0, ground := Ground.phase }, { on := 1, ground := Ground.phase }, { on := 2, ground := Ground.phase }, { on := 3, ground := Ground.phase }, { on := 4, ground := Ground.phase }, { on := 5, ground := Ground.phase }, { on := 6, ground := Ground.phase }, { on := 7, ground := Ground.phase }, { on := 8, ground := Ground.phase }, { on := 9, ground := Ground.textOnly Departure.lateStores }], guard := none }) rfl (fun K hK => ?_) AllReadyH.nil
          refine wp_unit (exec_store rfl rfl rfl (store101 BB.out.2 _ _ _ _ _ _ _)) ?_
          refine hK.out _ _ (BB.out.1.fr (row101 BB.out.2 HQW.out _ _ _ _ _) HW0.out) (fun hHeld => ?_)
          clear hK K
          try simp only [Act.put]
          refine wpAnyH_take (i := 11) (oi := { dst := some 7, op := Op.assign (Operand.tmp 33), type := 4, pos := "journal.go:159", after := #[{ on := 9, ground := Ground.data }, { on := 10, ground := Ground.chain }, { on := 0, ground := Ground.phase }, { on := 1, ground := Ground.phase }, { on := 2, ground := Ground.phase }, { on := 3, ground := Ground.phase }, { on := 4, ground := Ground.phase }, { on := 5, ground := Ground.phase }, { on := 6, ground := Ground.phase }, { on := 7, ground := Ground.phase }, { on := 8, ground := Ground.phase }, { on := 9, ground := Ground.phase }, { on := 10, ground := Ground.phase }], guard := none }) (v := ?v7n8) rfl (by kernel_rfl) (by kernel_rfl) (by kernel_rfl) (fun _ _ _ h => h) (Or.inl ⟨by rfl, ?hy7n8⟩) (by assumption) ?rest7n8
          case hy7n8 => (intro w hSw; (try dsimp only at hSw); have q0 := one_cell hSw.cj; have q1 := one_cell hSw.cf; go_simp <;> (try with_reducible rfl))
          try simp only [Act.put, List.setIfInBounds_toArray, List.set_cons_zero, List.set_cons_succ]
          refine wpAnyH_done (by kernel_rfl) ?_ _
          obtain ⟨x, hx⟩ : ∃ x, x = nextP cur s := ⟨_, rfl⟩
          have hlen2 : lenF s = x.bs.length := by rw [hx, nextP_bs, bsF_length]
          have HXB : Hid (bsF s = x.bs) := by show _ = _; rw [hx, nextP_bs]
          rw [← hx, hlen2]
          rw [HXB.out] at HSN
          clear hlen2
          have HXX := Lib.hid hx
          clear hx
          have X2 := BB.out.2.row x.lap x.rn x.num x.of (.slice An x.bs.length cn)
          have F2 := row101 BB.out.2 HQW.out x.lap x.rn x.num x.of (.slice An x.bs.length cn)
          obtain ⟨W2, hW2⟩ : ∃ W2, W2 = wb.setRow (w1.heap.size + 1) #[.int .i64 (x.lap : Int), .int .i64 x.rn, .int .i64 (x.num : Int), .int .i64 (x.of : Int), .slice An x.bs.length cn] := ⟨_, rfl⟩
          rw [← hW2] at X2 F2 ⊢
          have P2 := BB.out.1.fr F2 HW0.out
          have J2 := HJF.out pre wr W2 HLPI.out.j (FB.out.trans F2)
          have S2 : W.heap.size ≤ W2.heap.size := Nat.le_trans HSZ.out (FB.out.trans F2).size
          have SL2 : Sl eBy W2 An x.bs := by
            refine ⟨HSN.out.1, fun h0 => ?_⟩
            obtain ⟨b2, o2, e1, e2, e3⟩ := HSN.out.2 h0
            have hne : w1.heap.size + 1 < b2 := HAD.out _ e1
            refine ⟨b2, o2, e1, Nat.lt_of_lt_of_le e2 (by rw [hW2]; simp), fun k y hk i2 u hu => ?_⟩
            rw [hW2, ← e3 k y hk i2 u hu]
            unfold World.cell?
            rw [setRow_other wb (w1.heap.size + 1) b2 _ (by omega)]
          have L1 := HLPI.out.l
          rw [HD.out, HSI.out] at L1
          have OK2 : okP x (i + 1) := by rw [HXX.out]; exact okP_next s HLPI.out.ok
          cases hnb : nextB cur s with
          | false =>
            have e3 : partsL H = pre := by rw [L1]; simp [walk, hnb]
            have HE : Hid (J (partsL H) W2) := by show J _ _; rw [e3]; exact J2
            clear X2 F2 P2 J2 S2 SL2 L1 OK2 hnb hW2 e3
            gi_wp2_with (with_reducible refine ⟨(fun f h => by cases h), ?_⟩)
            refine bodyPost_ret (results_none rfl _ _ _) rfl ?_
            exact ⟨⟨_, rfl⟩, .inl HE.out⟩
          | true =>
            have e3 : partsL H = pre ++ (x :: walk x (H.drop (i + 1))) := by rw [L1, HXX.out]; simp [walk, hnb]
            have hpre : pre ++ [x] <+: partsL H := ⟨walk x (H.drop (i + 1)), by rw [e3]; simp⟩
            obtain ⟨fn, tmps, assign, body, hy, hR⟩ := HY.out pre x _ W2 J2 ⟨An, cn, rfl, SL2, HAN.out⟩ hpre
            have hR2 : RoundIn Fence.wide 9 Try.prog ly fn tmps assign body W2 (fun e W' => (e = .returned (.bool true) ∧ LpI w0 W W' bj bf g first (w1.heap.size + 1) (i + 1) J H (partsL H) (pre ++ [x]) x An x.bs.length cn) ∨ (e = .returned (.bool false) ∧ Jx (pre ++ [x]) W')) :=
              hR.mono fun e W' h => h.elim (fun ⟨h1, h2, h3, _⟩ => .inl ⟨h1, ⟨P2.kq h3 HLL.out.1 HLL.out.2.1 HMM.out.1 HMM.out.2.1, h3.cell X2 HLL.out.2.2 (fun hq => by have h5 := hsm.out _ hq; have h6 := HQW.out; omega), h2, by rw [e3]; simp, OK2, Nat.le_trans S2 h3.1.size⟩⟩) (fun ⟨h1, h2, _⟩ => .inr ⟨h1, h2⟩)
            dsimp only [ptV, ptC] at hy
            have HR2 := Lib.hid hR2
            have HPRE := Lib.hid hpre
            have c0 := X2.c0
            have c1 := X2.c1
            have c2 := X2.c2
            have c3 := X2.c3
            have c4 := X2.c4
            have HK : Hid (i + 1 ≤ n) := HIN.out
            clear X2 F2 P2 J2 S2 SL2 L1 OK2 hnb hW2 e3 hpre hR hR2
            gi_wp2_with ((try refine ⟨hdd _, ?_⟩); refine (round_any HR2.out).mono ?_; rintro e W3 (⟨rfl, hj3⟩ | ⟨rfl, hx3⟩))
            · go_roundw
              case rel => exact ⟨i + 1, pre ++ [x], x, An, _, cn, HK.out, by go_num, hj3⟩
              case measure => simp [intOf]; have := HK.out; omega
            · refine bodyPost_ret (results_none rfl _ _ _) rfl ?_
              exact ⟨⟨_, rfl⟩, .inr ⟨_, HPRE.out, hx3⟩⟩
        · go_simp
          rw [← HFI.out]
          refine (RD.out i _ HB0.out.bel HIN.out).mono ?_
          rintro r wa ⟨rfl, ba⟩
          rw [HSI.out]
          have BA := Lib.hid (And.intro (HB0.out.below ba) (HX0.out.below ba))
          have FA := Lib.hid (Fr.of_below (l := [101]) (ms := []) (base := W.heap.size) (Below.trans (Below.refl _ wr).drew ba) HSZ.out)
          clear ba
          dsimp only
          refine hK.out _ _ (BA.out.1) (fun hHeld => ?_)
          clear hK K
          try simp only [Act.put, List.setIfInBounds_toArray, List.set_cons_zero, List.set_cons_succ]
          refine wpAnyH_ready (rs := [0]) (by kernel_rfl) (by simp) ?_
          refine AllReadyH.cons (o := { dst := some 25, op := Op.load 101 (Operand.tmp 5), type := 101, pos := "journal.go:159", after := #[], guard := none }) rfl (fun K hK => ?_) AllReadyH.nil
          refine wp_value (exec_load rfl rfl (load101 BA.out.2)) ?_
          refine hK.out _ _ (BA.out.1) (fun hHeld => ?_)
          clear hK K
          try simp only [Act.put, List.setIfInBounds_toArray, List.set_cons_zero, List.set_cons_succ]
          refine wpAnyH_ready (rs := [6]) (by kernel_rfl) (by simp) ?_
          refine AllReadyH.cons (o := { dst := some 31, op := Op.call { callee := Callee.value (Operand.func 59), args := #[Operand.tmp 25, Operand.tmp 30], argTypes := #[101, 89] }, type := 116, pos := "journal.go:159", after := #[{ on := 0, ground := Ground.data }, { on := 5, ground := Ground.data }, { on := 5, ground := Ground.chain }], guard := none }) rfl (fun K hK => ?_) AllReadyH.nil
          go_simp
          refine (next_any cur s Ac nc cc wa HO1.out HO2.out HO3.out HO4.out).mono ?_
          rintro r wb ⟨An, cn, rfl, hsn, han, had, bb⟩
          have HAD : Hid (∀ ad, An = some ad → w1.heap.size + 1 < ad.block) := fun ad he => Nat.lt_of_lt_of_le BA.out.2.lt (had ad he)
          have BB := Lib.hid (And.intro (BA.out.1.below bb) (BA.out.2.below bb))
          have FB := Lib.hid (FA.out.trans (Fr.of_below bb (Nat.le_trans HSZ.out FA.out.size)))
          have HSN := Lib.hid hsn
          have HAN := Lib.hid han
          clear bb hsn han had
          dsimp only
          refine hK.out _ _ (BB.out.1) (fun hHeld => ?_)
          clear hK K
          try simp only [Act.put, List.setIfInBounds_toArray, List.set_cons_zero, List.set_cons_succ]
          refine wpAnyH_take (i := 7) (oi := { dst := some 24, op := Op.move (Operand.tmp 31), type := 116, pos := "journal.go:159", after := #[{ on := 6, ground := Ground.data }], guard := none }) (v := ?v7n9) rfl (by kernel_rfl) (by kernel_rfl) (by kernel_rfl) (fun _ _ _ h => h) (Or.inl ⟨by rfl, ?hy7n9⟩) (by assumption) ?rest7n9
          case hy7n9 => (intro w hSw; (try dsimp only at hSw); have q0 := one_cell hSw.cj; have q1 := one_cell hSw.cf; go_simp <;> (try with_reducible rfl))
          try simp only [Act.put, List.setIfInBounds_toArray, List.set_cons_zero, List.set_cons_succ]
          refine wpAnyH_take (i := 8) (oi := { dst := some 32, op := Op.extract (Operand.tmp 24) 0, type := 101, pos := "journal.go:159", after := #[{ on := 7, ground := Ground.data }], guard := none }) (v := ?v7n10) rfl (by kernel_rfl) (by kernel_rfl) (by kernel_rfl) (fun _ _ _ h => h) (Or.inl ⟨by rfl, ?hy7n10⟩) (by assumption) ?rest7n10
          case hy7n10 => (intro w hSw; (try dsimp only at hSw); have q0 := one_cell hSw.cj; have q1 := one_cell hSw.cf; go_simp <;> (try with_reducible rfl))
          try simp only [Act.put, List.setIfInBounds_toArray, List.set_cons_zero, List.set_cons_succ]
          refine wpAnyH_take (i := 9) (oi := { dst := some 33, op := Op.extract (Operand.tmp 24) 1, type := 4, pos := "journal.go:159", after := #[{ on := 7, ground := Ground.data }, { on := 10, ground := Ground.gcOnly Departure.lateStores }], guard := none }) (v := ?v7n11) rfl (by kernel_rfl) (by kernel_rfl) (by kernel_rfl) (fun _ _ _ h => h) (Or.inl ⟨by rfl, ?hy7n11⟩) (by assumption) ?rest7n11
          case hy7n11 => (intro w hSw; (try dsimp only at hSw); have q0 := one_cell hSw.cj; have q1 := one_cell hSw.cf; go_simp <;> (try with_reducible rfl))
          try simp only [Act.put, List.setIfInBounds_toArray, List.set_cons_zero, List.set_cons_succ]
          refine wpAnyH_ready (rs := [10]) (by kernel_rfl) (by simp) ?_
          refine AllReadyH.cons (o := { dst := none, op := Op.store 101 (Operand.tmp 5) (Operand.tmp 32), type := 0, pos := "journal.go:159", after := #[{ on := 8, ground := Ground.data }, { on := 6, ground := Ground.chain }, { on := 0, ground := Ground.phase }, { on := 1, ground := Ground.phase }, { on := 2, ground := Ground.phase }, { on := 3, ground := Ground.phase }, { on := 4, ground := Ground.phase }, { on := 5, ground := Ground.phase }, { on := 6, ground := Ground.phase }, { on := 7, ground := Ground.phase }, { on := 8, ground := Ground.phase }, { on := 9, ground := Ground.textOnly Departure.lateStores }], guard := none }) rfl (fun K hK => ?_) AllReadyH.nil
          refine wp_unit (exec_store rfl rfl rfl (store101 BB.out.2 _ _ _ _ _ _ _)) ?_
          refine hK.out _ _ (BB.out.1.fr (row101 BB.out.2 HQW.out _ _ _ _ _) HW0.out) (fun hHeld => ?_)
          clear hK K
          try simp only [Act.put]
          refine wpAnyH_take (i := 11) (oi := { dst := some 7, op := Op.assign (Operand.tmp 33), type := 4, pos := "journal.go:159", after := #[{ on := 9, ground := Ground.data }, { on := 10, ground := Ground.chain }, { on := 0, ground := Ground.phase }, { on := 1, ground := Ground.phase }, { on := 2, ground := Ground.phase }, { on := 3, ground := Ground.phase }, { on := 4, ground := Ground.phase }, { on := 5, ground := Ground.phase }, { on := 6, ground := Ground.phase }, { on := 7, ground := Ground.phase }, { on := 8, ground := Ground.phase }, { on := 9, ground := Ground.phase }, { on := 10, ground := Ground.phase }], guard := none }) (v := ?v7n12) rfl (by kernel_rfl) (by kernel_rfl) (by kernel_rfl) (fun _ _ _ h => h) (Or.inl ⟨by rfl, ?hy7n12⟩) (by assumption) ?rest7n12
          case hy7n12 => (intro w hSw; (try dsimp only at hSw); have q0 := one_cell hSw.cj; have q1 := one_cell hSw.cf; go_simp <;> (try with_reducible rfl))
          try simp only [Act.put, List.setIfInBounds_toArray, List.set_cons_zero, List.set_cons_succ]
          refine wpAnyH_done (by kernel_rfl) ?_ _
          obtain ⟨x, hx⟩ : ∃ x, x = nextP cur s := ⟨_, rfl⟩
          have hlen2 : lenF s = x.bs.length := by rw [hx, nextP_bs, bsF_length]
          have HXB : Hid (bsF s = x.bs) := by show _ = _; rw [hx, nextP_bs]
          rw [← hx, hlen2]
          rw [HXB.out] at HSN
          clear hlen2
          have HXX := Lib.hid hx
          clear hx
          have X2 := BB.out.2.row x.lap x.rn x.num x.of (.slice An x.bs.length cn)
          have F2 := row101 BB.out.2 HQW.out x.lap x.rn x.num x.of (.slice An x.bs.length cn)
          obtain ⟨W2, hW2⟩ : ∃ W2, W2 = wb.setRow (w1.heap.size + 1) #[.int .i64 (x.lap : Int), .int .i64 x.rn, .int .i64 (x.num : Int), .int .i64 (x.of : Int), .slice An x.bs.length cn] := ⟨_, rfl⟩
          rw [← hW2] at X2 F2 ⊢
          have P2 := BB.out.1.fr F2 HW0.out
          have J2 := HJF.out pre wr W2 HLPI.out.j (FB.out.trans F2)
          have S2 : W.heap.size ≤ W2.heap.size := Nat.le_trans HSZ.out (FB.out.trans F2).size
          have SL2 : Sl eBy W2 An x.bs := by
            refine ⟨HSN.out.1, fun h0 => ?_⟩
            obtain ⟨b2, o2, e1, e2, e3⟩ := HSN.out.2 h0
            have hne : w1.heap.size + 1 < b2 := HAD.out _ e1
            refine ⟨b2, o2, e1, Nat.lt_of_lt_of_le e2 (by rw [hW2]; simp), fun k y hk i2 u hu => ?_⟩
            rw [hW2, ← e3 k y hk i2 u hu]
            unfold World.cell?
            rw [setRow_other wb (w1.heap.size + 1) b2 _ (by omega)]
          have L1 := HLPI.out.l
          rw [HD.out, HSI.out] at L1
          have OK2 : okP x (i + 1) := by rw [HXX.out]; exact okP_next s HLPI.out.ok
          cases hnb : nextB cur s with
          | false =>
            have e3 : partsL H = pre := by rw [L1]; simp [walk, hnb]
            have HE : Hid (J (partsL H) W2) := by show J _ _; rw [e3]; exact J2
            clear X2 F2 P2 J2 S2 SL2 L1 OK2 hnb hW2 e3
            gi_wp2_with (with_reducible refine ⟨(fun f h => by cases h), ?_⟩)
            refine bodyPost_ret (results_none rfl _ _ _) rfl ?_
            exact ⟨⟨_, rfl⟩, .inl HE.out⟩
          | true =>
            have e3 : partsL H = pre ++ (x :: walk x (H.drop (i + 1))) := by rw [L1, HXX.out]; simp [walk, hnb]
            have hpre : pre ++ [x] <+: partsL H := ⟨walk x (H.drop (i + 1)), by rw [e3]; simp⟩
            obtain ⟨fn, tmps, assign, body, hy, hR⟩ := HY.out pre x _ W2 J2 ⟨An, cn, rfl, SL2, HAN.out⟩ hpre
            have hR2 : RoundIn Fence.wide 9 Try.prog ly fn tmps assign body W2 (fun e W' => (e = .returned (.bool true) ∧ LpI w0 W W' bj bf g first (w1.heap.size + 1) (i + 1) J H (partsL H) (pre ++ [x]) x An x.bs.length cn) ∨ (e = .returned (.bool false) ∧ Jx (pre ++ [x]) W')) :=
              hR.mono fun e W' h => h.elim (fun ⟨h1, h2, h3, _⟩ => .inl ⟨h1, ⟨P2.kq h3 HLL.out.1 HLL.out.2.1 HMM.out.1 HMM.out.2.1, h3.cell X2 HLL.out.2.2 (fun hq => by have h5 := hsm.out _ hq; have h6 := HQW.out; omega), h2, by rw [e3]; simp, OK2, Nat.le_trans S2 h3.1.size⟩⟩) (fun ⟨h1, h2, _⟩ => .inr ⟨h1, h2⟩)
            dsimp only [ptV, ptC] at hy
            have HR2 := Lib.hid hR2
            have HPRE := Lib.hid hpre
            have c0 := X2.c0
            have c1 := X2.c1
            have c2 := X2.c2
            have c3 := X2.c3
            have c4 := X2.c4
            have HK : Hid (i + 1 ≤ n) := HIN.out
            clear X2 F2 P2 J2 S2 SL2 L1 OK2 hnb hW2 e3 hpre hR hR2
            gi_wp2_with ((try refine ⟨hdd _, ?_⟩); refine (round_any HR2.out).mono ?_; rintro e W3 (⟨rfl, hj3⟩ | ⟨rfl, hx3⟩))
            · go_roundw
              case rel => exact ⟨i + 1, pre ++ [x], x, An, _, cn, HK.out, by go_num, hj3⟩
              case measure => simp [intOf]; have := HK.out; omega
            · refine bodyPost_ret (results_none rfl _ _ _) rfl ?_
              exact ⟨⟨_, rfl⟩, .inr ⟨_, HPRE.out, hx3⟩⟩
      · have hlti : ¬ (i : Int) < (n : Int) := by omega
        have hin : i = n := by omega
        have HE : Hid (J (partsL H) wr) := by
          have L1 := HLPI.out.l
          rw [hin, HE0.out] at L1
          have e3 : partsL H = pre := by rw [L1]; simp [walk]
          show J _ _
          rw [e3]
          exact HLPI.out.j
        clear hin hlt hi
        gi_wp2
        go_end0
        exact ⟨⟨_, rfl⟩, .inl HE.out⟩
end Go.Proofs.Ytppdckncnfffcaa
