/-
  The contracts of lay, of sync.Once's Do at it, and of laid: a ring's points. Their conditions: the ring lies in memory.
-/
import Derived.Test.YtnbgmobcfbgenaaGreatDoorW3
import Derived.Test.YtnbgmobcfbgenaaGreatDoorW5
import Derived.Deep.RegionLaw
namespace Go.Proofs.YtnbgmobcfbgenaaGreatDoor
open Go.RowKit Go.Maps
open Go.Sort (grow)

/-- append by the equation of its run, as a step of a region that draws its order. -/
theorem step_append_run {P : Program} {ops : Array Oper} {o : Oper} {a : Act} {w : World} {K : Act → World → Prop} {Q : Exit → Act → World → Prop} {E : Prop}
    (hg : o.guard = none) (s x : Operand) (t u : TypeId) (hop : o.op = Op.call { callee := Callee.builtin Builtin.append, args := #[s, x], argTypes := #[t, u] }) (v y : Value) (hs : a.eval s = v) (hx : a.eval x = y) (v' : Value) (w' : World)
    (hr : (Builtin.append_ #[t, u] o.type #[v, y]).run P w = .ok v' w') (hK : K (a.put o.dst v') w') : if Region.wanted o (yielded ops a.tmps) = true then Oper.wp P o a w K Q else E := by
  have hw : Region.wanted o (yielded ops a.tmps) = true := by simp [Region.wanted, hg]
  rw [if_pos hw]
  unfold Oper.wp
  simp [execOp, hop, resolve, invoke, builtin, hs, hx, hr, Result.andThen]
  exact hK
/-- What writes new memory alone, behind a step. -/
theorem Fr.newer {l ms l' ms' : List Nat} {base : Nat} {a b c : World} (h : Fr l ms base a b) (k : Fr l' ms' a.heap.size b c) (hb : base ≤ a.heap.size) : Fr l ms base a c :=
  ⟨h.below.trans (k.below.mono hb), fun j o hj ho hm => (k.below.block j (lt_of_heap hj)).trans (h.keep j o hj ho hm)⟩

/-- Points under way. -/
structure LayI (w : World) (base g : Nat) (s : Int) (v : Value) (S : List ByteArray) (p : Value) (L : List Pt) (wr : World) : Prop where
  box : Box wr g v 0 s p
  nodes : RowT eKy 9 wr base v S
  row : RowT ePt 59 wr w.heap.size p L
  fr : Fr [] [g] base w wr
section
variable {w wr : World} {base g : Nat} {s : Int} {v p : Value} {S : List ByteArray} {L : List Pt}
theorem LayI.kinds (h : LayI w base g s v S p L wr) : ∀ i ∈ [g], ∃ o, wr.heap[i]? = some o ∧ kd o = 51 := fun i hi => by
  rw [List.mem_singleton.mp hi]
  exact ⟨_, h.box, rfl⟩
theorem LayI.drew (h : LayI w base g s v S p L wr) : LayI w base g s v S p L wr.drew := by
  have hd := (Below.refl wr.heap.size wr).drew
  exact ⟨h.box.below hd, h.nodes.below hd, h.row.below hd, h.fr.drew⟩
/-- One point more. -/
structure LayUp (w : World) (base g : Nat) (s : Int) (v : Value) (S : List ByteArray) (p : Value) (L : List Pt) (wr : World) (x : Pt) (v' : Value) (W' : World) : Prop where
  run : (Builtin.append_ #[49, 49] 49 #[p, .slice (some ⟨wr.heap.size, 0, none⟩) 1 1]).run Tryz.prog (wr.drew.alloc (.cells #[.int .u64 (x.h : Int), .string x.n] 59)) = .ok v' W'
  c0 : (wr.alloc (.cells #[.int .u64 (x.h : Int), .string x.n] 59)).cell? ⟨g, 4, none⟩ = some p
  c4 : W'.cell? ⟨g, 4, none⟩ = some p
  fz : W'.frozen? ⟨g, 4, none⟩ = false
  out : LayI w base g s v S v' (L ++ [x]) (W'.setCell ⟨g, 4, none⟩ v')
theorem LayI.add (h0 : LayI w base g s v S p L wr) (hbs : base ≤ w.heap.size) (hg : base ≤ g) (hL : L.length ≤ 1000) (x : Pt) : ∃ v' W', LayUp w base g s v S p L wr x v' W' := by
  have h := h0.drew
  have b3 : Below wr.drew.heap.size wr.drew (wr.drew.alloc (.cells #[.int .u64 (x.h : Int), .string x.n] 59)) := (Below.refl _ _).alloc (Nat.le_refl _) _
  have hsz : w.heap.size ≤ wr.drew.heap.size := h.fr.size
  have row3 := h.row.below b3
  obtain ⟨v', W', hrun, ho', hg'⟩ := row3.app elP (Nat.le_trans hsz b3.size) (sl_one (E := ePt) wr.drew x 59) (n := 1) (c := 1) rfl (by simp) (by omega)
  have F1 := Fr.own row3 hg' (Nat.le_trans hsz b3.size)
  have bx := (h.box.below b3).fr F1 (by decide) (by simp)
  have F2 := bx.setFr hg 4 v'
  have hk : ∀ i ∈ [g], ∃ o, W'.heap[i]? = some o ∧ kd o = 51 := fun i hi => by
    rw [List.mem_singleton.mp hi]
    exact ⟨_, bx, rfl⟩
  refine ⟨v', W', hrun, ?_, bx.c4, bx.frozen 4, bx.set4 v', ?_, ho'.ring F2 hk (by decide), ?_⟩
  · exact (h0.box.below ((Below.refl _ _).alloc (Nat.le_refl _) _)).c4
  · exact ((h.nodes.below b3).fr F1 (by decide) (by simp)).ring F2 hk (by decide)
  · have FA : Fr [] [g] base w W' := h.fr.newer (l' := [59]) (ms' := []) ((Fr.of_below b3 hsz).trans F1) hbs
    exact FA.trans F2
end
theorem dig_size (j : Nat) : (dig j).size ≤ 2 := by
  unfold dig
  split
  · show 1 ≤ 2
    omega
  · show 2 ≤ 2
    omega
theorem slashed_size (a : ByteArray) : (a ++ slash).size = a.size + 1 := by
  rw [ByteArray.size_append]
  rfl
theorem ptext_size (a : ByteArray) (j : Nat) : (ptext a j).size ≤ a.size + 3 := by
  unfold ptext
  rw [ByteArray.size_append, slashed_size]
  have := dig_size j
  omega
theorem add_slash {a : ByteArray} (h : a.size ≤ 140737488351232) (w : World) : (Op.stringOp .add a ⟨#[47]⟩).run Tryz.prog w = .ok (.string (a ++ slash)) w :=
  run_string_add_sum w _ _ (by show a.size + 1 ≤ _; omega)
theorem add_dig {a : ByteArray} (h : a.size ≤ 140737488351232) (j : Nat) (w : World) : (Op.stringOp .add (a ++ slash) (dig j)).run Tryz.prog w = .ok (.string (ptext a j)) w :=
  run_string_add_sum w _ _ (by rw [slashed_size]; have := dig_size j; omega)
set_option maxRecDepth 100000 in
set_option maxHeartbeats 8000000 in
theorem lay_any (base g : Nat) (s : Int) (v : Value) (S : List ByteArray) (w : World) (hb : Box w g v 0 s (.slice none 0 0)) (hrow : RowT eKy 9 w base v S) (hbs : base ≤ w.heap.size) (hbg : base ≤ g) (h8 : S.length ≤ 8) (hz : Sized S) :
    Calls Tryz.prog 30 #[.pointer (some ⟨g, 0, none⟩)] w fun r w' => ∃ p, r = .returned (.tuple #[]) ∧ LayI w base g s v S p (laidP S) w' := by
  have HI0 : Hid (LayI w base g s v S (.slice none 0 0) (raw (S.take 0)) w) := by
    show LayI _ _ _ _ _ _ _ _ _
    exact ⟨hb, hrow, RowT.nil _, Fr.refl _ _ _ _⟩
  obtain ⟨A, c, rfl, sl, hlc, hA, hbk⟩ := hrow.sl (by unfold maxLen; omega)
  have c0 := hb.c0
  obtain ⟨n, hn⟩ : ∃ n, n = S.length := ⟨_, rfl⟩
  rw [← hn] at c0 h8
  have HN := Lib.hid hn
  have HZ := Lib.hid hz
  have HBS := Lib.hid hbs
  have HBG := Lib.hid hbg
  have H8 := Lib.hid h8
  have hnI : (n : Int) ≤ 8 := by omega
  clear hb hrow hbs hbg hz hA sl hlc hbk hn h8
  go_enter Tryz.func30, Tryz.ntmps30
  go_wp2
  go_loopw [10] (fun s10 wr => ∃ (i : Nat) (p : Value), i ≤ n ∧ s10 = .int .i64 (i : Int) ∧ LayI w base g s (.slice A S.length c) S p (raw (S.take i)) wr) (fun i _ => n - (intOf i).toNat)
  case atStart => exact ⟨0, _, Nat.zero_le _, rfl, HI0.out⟩
  case round =>
    obtain ⟨i, p, hi, rfl, hI⟩ := hrel
    have HI := Lib.hid hI
    clear hI HI0
    by_cases hlt : i < n
    · have hil : i < S.length := by rw [← HN.out]; exact hlt
      obtain ⟨A1, c1, e1, sl1, x1, x2, x3⟩ := HI.out.nodes.sl (by unfold maxLen; have := H8.out; have := HN.out; omega)
      have e2 : A1 = A := by cases e1; rfl
      subst e2
      obtain ⟨b, off, rfl, _, d0⟩ := at_ky sl1 hil
      have hlti : (i : Int) < (n : Int) := by omega
      have hi0 : (0 : Int) ≤ (i : Int) := by omega
      have HT := Lib.hid (raw_take hil)
      have HK : Hid (i + 1 ≤ n) := hlt
      have HA := Lib.hid (HZ.out _ (List.getElem_mem hil))
      have HRL : Hid ((raw (S.take i)).length ≤ 128) := by
        show _ ≤ _
        rw [raw_length, List.length_take]
        have := H8.out
        omega
      generalize S[i] = a at d0 HT HA
      clear hil hi e1 sl1 x1 x2 x3
      go_wp2
      go_loopw [14] (fun s14 wi => ∃ (j : Nat) (q : Value), j ≤ 16 ∧ s14 = .int .i64 (j : Int) ∧ LayI w base g s (.slice (some ⟨b, off, none⟩) S.length c) S q (raw (S.take i) ++ ptsOf a j) wi) (fun i _ => 16 - (intOf i).toNat)
      case atStart => exact ⟨0, p, Nat.zero_le _, rfl, by rw [ptsOf_zero, List.append_nil]; exact HI.out⟩
      case round =>
        obtain ⟨j, q, hj, rfl, hJ⟩ := hrel
        have HJ := Lib.hid hJ
        clear hJ HI
        by_cases hlt2 : j < 16
        · have hji : (j : Int) < 16 := by omega
          have hj0 : (0 : Int) ≤ (j : Int) := by omega
          have CI := Lib.hid (fun W => itoa_any j hlt2 W)
          have CH := Lib.hid (fun W => hash_any (ptext a j) W (by have := ptext_size a j; have := HA.out; unfold maxLen; omega))
          have s1 := add_slash HA.out
          have s2 := add_dig HA.out j
          obtain ⟨v', W', U⟩ := HJ.out.add HBS.out HBG.out (by rw [List.length_append, ptsOf_length]; have := HRL.out; omega) ⟨hsh (ptext a j), a⟩
          have c4 := HJ.out.box.c4
          obtain ⟨A4, m4, cc4, e4⟩ : ∃ A4 m4 cc4, v' = .slice A4 m4 cc4 := by
            obtain ⟨A4, cc4, e4, _⟩ := U.out.row.form
            exact ⟨_, _, _, e4⟩
          subst e4
          have k0 := U.c0
          have k4 := U.c4
          have kf := U.fz
          have UR := Lib.hid U.run
          have UO := Lib.hid U.out
          have HJ2 : Hid (j + 1 ≤ 16) := hlt2
          clear hlt2 hj U
          go_wp2_with fail
          go_region_law (first
            | (refine step_append_run rfl _ _ 49 49 rfl _ _ rfl rfl _ _ UR.out ?_)
            | (go_simp; go_at_call 48; refine (CI.out _).mono ?_; rintro r wa ⟨rfl, rfl⟩)
            | (go_simp; go_at_call 22; refine (CH.out _).mono ?_; rintro r wa ⟨rfl, rfl⟩))
          all_goals
            go_wp2
            go_roundw
            case rel => exact ⟨j + 1, _, HJ2.out, by go_num, by rw [ptsOf_succ, ← List.append_assoc]; exact UO.out⟩
            case measure => simp [intOf]; omega
        · have hji : ¬ (j : Int) < 16 := by omega
          have HE : Hid (j = 16) := by show _ = _; omega
          clear hlt2 hj
          go_wp2
          go_roundw
          case rel => exact ⟨i + 1, q, HK.out, by go_num, by rw [HT.out]; have h := HJ.out; rw [HE.out] at h; exact h⟩
          case measure => simp [intOf]; omega
    · have hlti : ¬ (i : Int) < (n : Int) := by omega
      have HE : Hid (raw (S.take i) = raw S) := by show _ = _; rw [List.take_of_length_le (by rw [← HN.out]; omega)]
      have c4 := HI.out.box.c4
      have CS := Lib.hid (sortp_any HI.out.row (by rw [HE.out, raw_length]; have := H8.out; have := HN.out; omega))
      rw [HE.out] at HI CS
      clear hi hlt
      go_wp2_with fail
      refine CS.out.mono ?_
      rintro r w3 ⟨rfl, row3, f3⟩
      have HD : Hid (LayI w base g s (.slice A S.length c) S p (laidP S) w3) := by
        have h := HI.out
        exact ⟨h.box.fr f3 (by decide) (by simp), h.nodes.fr f3 (by decide) (by simp), row3, h.fr.newer f3 HBS.out⟩
      clear row3 f3
      go_wp2
      first | (refine bodyPost_ret (results_none rfl _ _ _) rfl ?_) | go_end0
      exact ⟨p, rfl, HD.out⟩
end Go.Proofs.YtnbgmobcfbgenaaGreatDoor
