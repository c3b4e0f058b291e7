/-
  The contracts of Start and Append. Their conditions: the journal, its disk and the record lie in memory, the disk's steps and pending writes are below a bound.
-/
import Derived.Test.YtppdckncnfffcaaJ15
namespace Go.Proofs.Ytppdckncnfffcaa
open Go.RowKit
set_option maxRecDepth 100000

theorem jstart_nil (A : Option Addr) (n c : Nat) (w : World) : Calls Try.prog 17 #[.pointer none, .slice A n c] w fun r w' => r = .returned (.int .i64 1) ∧ w = w' := by
  go_enter Try.func17, Try.ntmps17
  go_wp2
  go_ret
  exact ⟨rfl, rfl⟩
theorem jappend_nil (A : Option Addr) (n c : Nat) (w : World) : Calls Try.prog 15 #[.pointer none, .slice A n c] w fun r w' => r = .returned (.int .i64 1) ∧ w = w' := by
  go_enter Try.func15, Try.ntmps15
  go_wp2
  go_ret
  exact ⟨rfl, rfl⟩
/-- What a call of a journal leaves. -/
def JPost (w : World) (base g dg : Nat) (x : Dk × Jn × Int) (r : Ending) (w' : World) : Prop := r = .returned (.int .i64 x.2.2) ∧ DiskAt w' base dg x.1 ∧ JBox w' g dg x.2.1 ∧ Fr kD [g] base w w'
def wrF (d : Dk) (j : Jn) (lap first recs used : Nat) (r : List UInt8) : Dk × Jn × Int :=
  ((wrA d (first + used) (secsOf lap recs r)).1, wrJ j lap first recs used (partsN r.length) (wrA d (first + used) (secsOf lap recs r)).2, if (wrA d (first + used) (secsOf lap recs r)).2 then 0 else 7)
def lookD (d : Dk) (j : Jn) : Jn := if d.down then j else lookJ (seen d.K d.ps) j
def fullJ (j : Jn) (r : List UInt8) : Bool := decide (j.size < partsN r.length) || decide (2147483647 ≤ j.last)
def startF (d : Dk) (j : Jn) (r : List UInt8) : Dk × Jn × Int :=
  if j.over then (d, j, 7) else if fullJ (lookD d j) r then (d, lookD d j, 5) else wrF d (lookD d j) ((lookD d j).last + 1) (lookD d j).free 0 0 r
def appendF (d : Dk) (j : Jn) (r : List UInt8) : Dk × Jn × Int :=
  if j.over then (d, j, 7) else if j.lap = 0 then (d, j, 1) else if roomN j < partsN r.length then (d, j, 5) else wrF d j j.lap j.first j.recs j.used r
theorem parts_nat (n : Nat) (w : World) (h : n ≤ 1000000) : Calls Try.prog 26 #[.int .i64 (n : Int)] w fun r w' => r = .returned (.int .i64 (partsN n : Int)) ∧ w = w' := by
  have h1 := parts_any (n : Int) w (by omega)
  have e0 : partsI (n : Int) = (partsN n : Int) := by simp [partsI]; omega
  rw [e0] at h1
  exact h1
/-- look, of a disk that may be down. -/
theorem lookD_any (g dg base : Nat) (j : Jn) (d : Dk) (w : World) (hj : JBox w g dg j) (hdk : DiskAt w base dg d) (hlen : 2 * j.size ≤ d.K.length) (hsz : 0 < j.size) (hbg : base ≤ g) (hbs : base ≤ w.heap.size) :
    Calls Try.prog 33 #[.pointer (some ⟨g, 0, none⟩)] w fun r w' => (∃ v, r = .returned v) ∧ JBox w' g dg (lookD d j) ∧ Fr [] [g] base w w' := by
  have hgl := hdk.good.len
  cases hd : d.down with
  | true =>
    refine (look_down g dg base j d w hj hdk hd).mono ?_
    rintro r w' ⟨vr, xs, rfl, _, h1, h2⟩
    have e : lookD d j = j := by simp [lookD, hd]
    rw [e]
    exact ⟨⟨_, rfl⟩, h1, h2⟩
  | false =>
    refine (look_any g dg base j d w hj hdk hd hlen hsz (by omega) hbg hbs).mono ?_
    rintro r w' ⟨vr, xs, rfl, _, h1, h2⟩
    have e : lookD d j = lookJ (seen d.K d.ps) j := by simp [lookD, hd]
    rw [e]
    exact ⟨⟨_, rfl⟩, h1, h2⟩
set_option maxHeartbeats 4000000 in
theorem jstart_any (g dg base n c : Nat) (j : Jn) (d : Dk) (r : List UInt8) (A : Option Addr) (w : World) (hj : JBox w g dg j) (hdk : DiskAt w base dg d) (hlen : 2 * j.size ≤ d.K.length) (hsz : 0 < j.size) (hfree : j.free ≤ j.size) (hbg : base ≤ g) (hbs : base ≤ w.heap.size)
    (hn : r.length = n) (hc : n ≤ c) (hA : A = none → c = 0) (hr : n ≤ 1000000) (hst : d.steps + 10000 ≤ 1000000) (hps : d.ps.length + 10000 ≤ 100000)
    (hSl : ∀ w', Fr (101 :: 76 :: kD) [] base w w' → Sl eBy w' A r) : Calls Try.prog 17 #[.pointer (some ⟨g, 0, none⟩), .slice A n c] w (JPost w base g dg (startF d j r)) := by
  have CB := Lib.hid (bload_any hj.c8)
  cases ho : j.over with
  | true =>
    rw [ho] at CB
    have e : startF d j r = (d, j, 7) := by simp [startF, ho]
    rw [e]
    have HE : Hid (JPost w base g dg (d, j, 7) (.returned (.int .i64 7)) w) := ⟨rfl, hdk, hj, Fr.refl _ _ _ _⟩
    clear hj hdk hSl e ho
    go_enter Try.func17, Try.ntmps17
    go_wp2_with (go_at_call 38; refine CB.out.mono ?_; rintro r w1 ⟨rfl, rfl⟩)
    go_ret
    exact HE.out
  | false =>
    rw [ho] at CB
    have CL := Lib.hid (lookD_any g dg base j d w hj hdk hlen hsz hbg hbs)
    have e : startF d j r = if fullJ (lookD d j) r then (d, lookD d j, 5) else wrF d (lookD d j) ((lookD d j).last + 1) (lookD d j).free 0 0 r := by simp [startF, ho]
    rw [e]
    have hls : (lookD d j).size = j.size := by unfold lookD; split <;> rfl
    have hlf : (lookD d j).free ≤ j.size := by
      unfold lookD
      split
      · exact hfree
      · show lookF _ _ ≤ _
        unfold lookF
        split
        · omega
        · exact Nat.le_refl _
    obtain ⟨j1, hj1⟩ : ∃ j1, j1 = lookD d j := ⟨_, rfl⟩
    rw [← hj1] at CL hls hlf ⊢
    have HDK := Lib.hid hdk
    have HSL := Lib.hid hSl
    have HJ := Lib.hid hj
    have hgl := hdk.good.len
    obtain ⟨X, hX⟩ : ∃ X, X = (if fullJ j1 r then (d, j1, 5) else wrF d j1 (j1.last + 1) j1.free 0 0 r) := ⟨_, rfl⟩
    rw [← hX]
    have HX := Lib.hid hX
    have HLS := Lib.hid hls
    have HLF := Lib.hid hlf
    clear hj hdk hSl e ho hj1 hls hlf hX
    go_enter Try.func17, Try.ntmps17
    go_upto_region 6 with (first | (go_at_call 38; refine CB.out.mono ?_; rintro r w1 ⟨rfl, rfl⟩) | (go_at_call 33; refine CL.out.mono ?_; rintro r w1 ⟨⟨v, rfl⟩, h1, h2⟩))
    have HJ1 := Lib.hid h1
    have HF1 := Lib.hid h2
    have CP := Lib.hid (parts_nat n w1.drew hr)
    have hfull : fullJ j1 r = (decide (j1.size < partsN n) || decide (2147483647 ≤ j1.last)) := by unfold fullJ; rw [hn]
    have hdk1 : DiskAt w1 base dg d := HDK.out.keep HF1.out (by simp) (by simp) (by simp) (fun i hi => by simp at hi; subst hi; exact ⟨_, HJ.out, by simp [kd]⟩)
    have HDK1 := Lib.hid hdk1
    have HE5 : Hid (fullJ j1 r = true → JPost w base g dg (d, j1, 5) (.returned (.int .i64 5)) w1.drew) := by
      intro _
      exact ⟨rfl, HDK1.out.below (Below.refl _ _).drew, HJ1.out.below (Below.refl _ _).drew, (HF1.out.mono (by simp) (by simp)).drew⟩
    obtain ⟨N, hN⟩ : ∃ N, N = partsN n := ⟨_, rfl⟩
    rw [← hN] at CP hfull
    have HNN := Lib.hid hN
    clear h1 h2 CB CL hdk1 hN
    by_cases hp : j1.size < N
    · have hft : fullJ j1 r = true := by rw [hfull]; simp [hp]
      have HE := Lib.hid (HE5.out hft)
      have hX := HX.out
      rw [hft, if_pos rfl] at hX
      subst hX
      have hpi : decide (j1.size < N) = true := decide_eq_true hp
      clear HE5 hfull hp hft
      refine wp_region_held_drew (S := fun w' => JBox w' g dg j1) (by kernel_rfl) (HJ1.out.below (Below.refl _ _).drew) (fun hHeld => ?_)
      refine wpAnyH_take (i := 0) (oi := { dst := some 13, op := Op.move (Operand.tmp 1), type := 38, pos := "journal.go:54", after := #[], guard := none }) (v := ?v6tn1) rfl (by kernel_rfl) (by kernel_rfl) (by kernel_rfl) (fun _ _ _ h => h) (Or.inl ⟨by rfl, ?hy6tn1⟩) (by assumption) ?rest6tn1
      case hy6tn1 => (intro w hSw; (try dsimp only at hSw); have q1 := hSw.c1; have q7 := hSw.c7; go_simp <;> (try with_reducible rfl))
      try simp only [Act.put, List.setIfInBounds_toArray, List.set_cons_zero, List.set_cons_succ]
      refine wpAnyH_take (i := 1) (oi := { dst := some 14, op := Op.call { callee := Callee.builtin Builtin.len, args := #[Operand.tmp 13], argTypes := #[38] }, type := 3, pos := "journal.go:54", after := #[{ on := 0, ground := Ground.data }], guard := none }) (v := ?v6tn2) rfl (by kernel_rfl) (by kernel_rfl) (by kernel_rfl) (fun _ _ _ h => h) (Or.inl ⟨by rfl, ?hy6tn2⟩) (by assumption) ?rest6tn2
      case hy6tn2 => (intro w hSw; (try dsimp only at hSw); have q1 := hSw.c1; have q7 := hSw.c7; go_simp <;> (try with_reducible rfl))
      try simp only [Act.put, List.setIfInBounds_toArray, List.set_cons_zero, List.set_cons_succ]
      refine wpAnyH_take (i := 3) (oi := { dst := some 16, op := Op.move (Operand.tmp 0), type := 29, pos := "journal.go:54", after := #[], guard := none }) (v := ?v6tn3) rfl (by kernel_rfl) (by kernel_rfl) (by kernel_rfl) (fun _ _ _ h => h) (Or.inl ⟨by rfl, ?hy6tn3⟩) (by assumption) ?rest6tn3
      case hy6tn3 => (intro w hSw; (try dsimp only at hSw); have q1 := hSw.c1; have q7 := hSw.c7; go_simp <;> (try with_reducible rfl))
      try simp only [Act.put, List.setIfInBounds_toArray, List.set_cons_zero, List.set_cons_succ]
      refine wpAnyH_take (i := 4) (oi := { dst := some 17, op := Op.nilCheck (Operand.tmp 16), type := 0, pos := "journal.go:54", after := #[{ on := 3, ground := Ground.data }], guard := none }) (v := ?v6tn4) rfl (by kernel_rfl) (by kernel_rfl) (by kernel_rfl) (fun _ _ _ h => h) (Or.inl ⟨by rfl, ?hy6tn4⟩) (by assumption) ?rest6tn4
      case hy6tn4 => (intro w hSw; (try dsimp only at hSw); have q1 := hSw.c1; have q7 := hSw.c7; go_simp <;> (try with_reducible rfl))
      try simp only [Act.put, List.setIfInBounds_toArray, List.set_cons_zero, List.set_cons_succ]
      refine wpAnyH_take (i := 5) (oi := { dst := some 18, op := Op.fieldAddr 76 (Operand.tmp 17) 1, type := 0, pos := "journal.go:54", after := #[{ on := 4, ground := Ground.data }], guard := none }) (v := ?v6tn5) rfl (by kernel_rfl) (by kernel_rfl) (by kernel_rfl) (fun _ _ _ h => h) (Or.inl ⟨by rfl, ?hy6tn5⟩) (by assumption) ?rest6tn5
      case hy6tn5 => (intro w hSw; (try dsimp only at hSw); have q1 := hSw.c1; have q7 := hSw.c7; go_simp <;> (try with_reducible rfl))
      try simp only [Act.put, List.setIfInBounds_toArray, List.set_cons_zero, List.set_cons_succ]
      refine wpAnyH_take (i := 6) (oi := { dst := some 19, op := Op.load 3 (Operand.tmp 18), type := 3, pos := "journal.go:54", after := #[{ on := 5, ground := Ground.data }], guard := none }) (v := ?v6tn6) rfl (by kernel_rfl) (by kernel_rfl) (by kernel_rfl) (fun _ _ _ h => h) (Or.inl ⟨by rfl, ?hy6tn6⟩) (by assumption) ?rest6tn6
      case hy6tn6 => (intro w hSw; (try dsimp only at hSw); have q1 := hSw.c1; have q7 := hSw.c7; go_simp <;> (try with_reducible rfl))
      try simp only [Act.put, List.setIfInBounds_toArray, List.set_cons_zero, List.set_cons_succ]
      refine wpAnyH_ready (rs := [2]) (by kernel_rfl) (by simp) ?_
      refine AllReadyH.cons (o := { dst := some 15, op := Op.call { callee := Callee.value (Operand.func 26), args := #[Operand.tmp 14], argTypes := #[3] }, type := 3, pos := "journal.go:54", after := #[{ on := 1, ground := Ground.data }], guard := none }) rfl (fun K hK => ?_) AllReadyH.nil
      go_simp
      refine CP.out.mono ?_
      rintro r wz ⟨rfl, rfl⟩
      dsimp only
      refine hK.out _ _ (HJ1.out.below (Below.refl _ _).drew) (fun hHeld => ?_)
      clear hK K
      try simp only [Act.put, List.setIfInBounds_toArray, List.set_cons_zero, List.set_cons_succ]
      refine wpAnyH_take (i := 7) (oi := { dst := some 20, op := Op.binOp BinOp.gtr 3 (Operand.tmp 15) (Operand.tmp 19) 3, type := 4, pos := "journal.go:54", after := #[{ on := 2, ground := Ground.data }, { on := 6, ground := Ground.data }], guard := none }) (v := ?v6tn7) rfl (by kernel_rfl) (by kernel_rfl) (by kernel_rfl) (fun _ _ _ h => h) (Or.inl ⟨by rfl, ?hy6tn7⟩) (by assumption) ?rest6tn7
      case hy6tn7 => (intro w hSw; (try dsimp only at hSw); have q1 := hSw.c1; have q7 := hSw.c7; go_simp <;> (try with_reducible rfl))
      try simp only [Act.put, List.setIfInBounds_toArray, List.set_cons_zero, List.set_cons_succ]
      refine wpAnyH_take (i := 8) (oi := { dst := some 21, op := Op.move (Operand.tmp 20), type := 4, pos := "journal.go:54", after := #[{ on := 7, ground := Ground.data }, { on := 2, ground := Ground.chain }], guard := none }) (v := ?v6tn8) rfl (by kernel_rfl) (by kernel_rfl) (by kernel_rfl) (fun _ _ _ h => h) (Or.inl ⟨by rfl, ?hy6tn8⟩) (by assumption) ?rest6tn8
      case hy6tn8 => (intro w hSw; (try dsimp only at hSw); have q1 := hSw.c1; have q7 := hSw.c7; go_simp <;> (try with_reducible rfl))
      try simp only [Act.put, List.setIfInBounds_toArray, List.set_cons_zero, List.set_cons_succ]
      refine wpAnyH_take (i := 9) (oi := { dst := some 22, op := Op.move (Operand.tmp 0), type := 29, pos := "journal.go:54", after := #[{ on := 8, ground := Ground.guard }], guard := some (8, false) }) (v := undef) rfl (by kernel_rfl) (by kernel_rfl) (by kernel_rfl) (fun _ _ _ h => h) (Or.inr ⟨by rfl, rfl⟩) (by assumption) ?_
      try simp only [Act.put, List.setIfInBounds_toArray, List.set_cons_zero, List.set_cons_succ]
      refine wpAnyH_take (i := 10) (oi := { dst := some 23, op := Op.nilCheck (Operand.tmp 22), type := 0, pos := "journal.go:54", after := #[{ on := 9, ground := Ground.data }, { on := 8, ground := Ground.guard }], guard := some (8, false) }) (v := undef) rfl (by kernel_rfl) (by kernel_rfl) (by kernel_rfl) (fun _ _ _ h => h) (Or.inr ⟨by rfl, rfl⟩) (by assumption) ?_
      try simp only [Act.put, List.setIfInBounds_toArray, List.set_cons_zero, List.set_cons_succ]
      refine wpAnyH_take (i := 11) (oi := { dst := some 24, op := Op.fieldAddr 76 (Operand.tmp 23) 4, type := 0, pos := "journal.go:54", after := #[{ on := 10, ground := Ground.data }, { on := 8, ground := Ground.guard }], guard := some (8, false) }) (v := undef) rfl (by kernel_rfl) (by kernel_rfl) (by kernel_rfl) (fun _ _ _ h => h) (Or.inr ⟨by rfl, rfl⟩) (by assumption) ?_
      try simp only [Act.put, List.setIfInBounds_toArray, List.set_cons_zero, List.set_cons_succ]
      refine wpAnyH_take (i := 12) (oi := { dst := some 25, op := Op.load 3 (Operand.tmp 24), type := 3, pos := "journal.go:54", after := #[{ on := 11, ground := Ground.data }, { on := 8, ground := Ground.guard }], guard := some (8, false) }) (v := undef) rfl (by kernel_rfl) (by kernel_rfl) (by kernel_rfl) (fun _ _ _ h => h) (Or.inr ⟨by rfl, rfl⟩) (by assumption) ?_
      try simp only [Act.put, List.setIfInBounds_toArray, List.set_cons_zero, List.set_cons_succ]
      refine wpAnyH_take (i := 13) (oi := { dst := some 26, op := Op.binOp BinOp.geq 3 (Operand.tmp 25) (Operand.const (Value.int IntKind.i64 2147483647)) 3, type := 4, pos := "journal.go:54", after := #[{ on := 12, ground := Ground.data }, { on := 8, ground := Ground.guard }], guard := some (8, false) }) (v := undef) rfl (by kernel_rfl) (by kernel_rfl) (by kernel_rfl) (fun _ _ _ h => h) (Or.inr ⟨by rfl, rfl⟩) (by assumption) ?_
      try simp only [Act.put, List.setIfInBounds_toArray, List.set_cons_zero, List.set_cons_succ]
      refine wpAnyH_take (i := 14) (oi := { dst := some 27, op := Op.pick (Operand.tmp 21) (Operand.const (Value.bool true)) (Operand.tmp 26), type := 4, pos := "journal.go:54", after := #[{ on := 8, ground := Ground.data }, { on := 13, ground := Ground.data }], guard := none }) (v := ?v6tn9) rfl (by kernel_rfl) (by kernel_rfl) (by kernel_rfl) (fun _ _ _ h => h) (Or.inl ⟨by rfl, ?hy6tn9⟩) (by assumption) ?rest6tn9
      case hy6tn9 => (intro w hSw; (try dsimp only at hSw); have q1 := hSw.c1; have q7 := hSw.c7; go_simp <;> (try with_reducible rfl))
      try simp only [Act.put, List.setIfInBounds_toArray, List.set_cons_zero, List.set_cons_succ]
      refine wpAnyH_done (by kernel_rfl) ?_ _
      go_wp2_with fail
      go_ret
      exact HE.out
    · have hpi : decide (j1.size < N) = false := decide_eq_false hp
      by_cases hq : 2147483647 ≤ j1.last
      · have hft : fullJ j1 r = true := by rw [hfull]; simp [hq]
        have HE := Lib.hid (HE5.out hft)
        have hX := HX.out
        rw [hft, if_pos rfl] at hX
        subst hX
        have hqi : decide ((2147483647 : Int) ≤ (j1.last : Int)) = true := decide_eq_true (by omega)
        clear HE5 hfull hp hft
        refine wp_region_held_drew (S := fun w' => JBox w' g dg j1) (by kernel_rfl) (HJ1.out.below (Below.refl _ _).drew) (fun hHeld => ?_)
        refine wpAnyH_take (i := 0) (oi := { dst := some 13, op := Op.move (Operand.tmp 1), type := 38, pos := "journal.go:54", after := #[], guard := none }) (v := ?v6un1) rfl (by kernel_rfl) (by kernel_rfl) (by kernel_rfl) (fun _ _ _ h => h) (Or.inl ⟨by rfl, ?hy6un1⟩) (by assumption) ?rest6un1
        case hy6un1 => (intro w hSw; (try dsimp only at hSw); have q1 := hSw.c1; have q7 := hSw.c7; go_simp <;> (try with_reducible rfl))
        try simp only [Act.put, List.setIfInBounds_toArray, List.set_cons_zero, List.set_cons_succ]
        refine wpAnyH_take (i := 1) (oi := { dst := some 14, op := Op.call { callee := Callee.builtin Builtin.len, args := #[Operand.tmp 13], argTypes := #[38] }, type := 3, pos := "journal.go:54", after := #[{ on := 0, ground := Ground.data }], guard := none }) (v := ?v6un2) rfl (by kernel_rfl) (by kernel_rfl) (by kernel_rfl) (fun _ _ _ h => h) (Or.inl ⟨by rfl, ?hy6un2⟩) (by assumption) ?rest6un2
        case hy6un2 => (intro w hSw; (try dsimp only at hSw); have q1 := hSw.c1; have q7 := hSw.c7; go_simp <;> (try with_reducible rfl))
        try simp only [Act.put, List.setIfInBounds_toArray, List.set_cons_zero, List.set_cons_succ]
        refine wpAnyH_take (i := 3) (oi := { dst := some 16, op := Op.move (Operand.tmp 0), type := 29, pos := "journal.go:54", after := #[], guard := none }) (v := ?v6un3) rfl (by kernel_rfl) (by kernel_rfl) (by kernel_rfl) (fun _ _ _ h => h) (Or.inl ⟨by rfl, ?hy6un3⟩) (by assumption) ?rest6un3
        case hy6un3 => (intro w hSw; (try dsimp only at hSw); have q1 := hSw.c1; have q7 := hSw.c7; go_simp <;> (try with_reducible rfl))
        try simp only [Act.put, List.setIfInBounds_toArray, List.set_cons_zero, List.set_cons_succ]
        refine wpAnyH_take (i := 4) (oi := { dst := some 17, op := Op.nilCheck (Operand.tmp 16), type := 0, pos := "journal.go:54", after := #[{ on := 3, ground := Ground.data }], guard := none }) (v := ?v6un4) rfl (by kernel_rfl) (by kernel_rfl) (by kernel_rfl) (fun _ _ _ h => h) (Or.inl ⟨by rfl, ?hy6un4⟩) (by assumption) ?rest6un4
        case hy6un4 => (intro w hSw; (try dsimp only at hSw); have q1 := hSw.c1; have q7 := hSw.c7; go_simp <;> (try with_reducible rfl))
        try simp only [Act.put, List.setIfInBounds_toArray, List.set_cons_zero, List.set_cons_succ]
        refine wpAnyH_take (i := 5) (oi := { dst := some 18, op := Op.fieldAddr 76 (Operand.tmp 17) 1, type := 0, pos := "journal.go:54", after := #[{ on := 4, ground := Ground.data }], guard := none }) (v := ?v6un5) rfl (by kernel_rfl) (by kernel_rfl) (by kernel_rfl) (fun _ _ _ h => h) (Or.inl ⟨by rfl, ?hy6un5⟩) (by assumption) ?rest6un5
        case hy6un5 => (intro w hSw; (try dsimp only at hSw); have q1 := hSw.c1; have q7 := hSw.c7; go_simp <;> (try with_reducible rfl))
        try simp only [Act.put, List.setIfInBounds_toArray, List.set_cons_zero, List.set_cons_succ]
        refine wpAnyH_take (i := 6) (oi := { dst := some 19, op := Op.load 3 (Operand.tmp 18), type := 3, pos := "journal.go:54", after := #[{ on := 5, ground := Ground.data }], guard := none }) (v := ?v6un6) rfl (by kernel_rfl) (by kernel_rfl) (by kernel_rfl) (fun _ _ _ h => h) (Or.inl ⟨by rfl, ?hy6un6⟩) (by assumption) ?rest6un6
        case hy6un6 => (intro w hSw; (try dsimp only at hSw); have q1 := hSw.c1; have q7 := hSw.c7; go_simp <;> (try with_reducible rfl))
        try simp only [Act.put, List.setIfInBounds_toArray, List.set_cons_zero, List.set_cons_succ]
        refine wpAnyH_ready (rs := [2]) (by kernel_rfl) (by simp) ?_
        refine AllReadyH.cons (o := { dst := some 15, op := Op.call { callee := Callee.value (Operand.func 26), args := #[Operand.tmp 14], argTypes := #[3] }, type := 3, pos := "journal.go:54", after := #[{ on := 1, ground := Ground.data }], guard := none }) rfl (fun K hK => ?_) AllReadyH.nil
        go_simp
        refine CP.out.mono ?_
        rintro r wz ⟨rfl, rfl⟩
        dsimp only
        refine hK.out _ _ (HJ1.out.below (Below.refl _ _).drew) (fun hHeld => ?_)
        clear hK K
        try simp only [Act.put, List.setIfInBounds_toArray, List.set_cons_zero, List.set_cons_succ]
        refine wpAnyH_take (i := 7) (oi := { dst := some 20, op := Op.binOp BinOp.gtr 3 (Operand.tmp 15) (Operand.tmp 19) 3, type := 4, pos := "journal.go:54", after := #[{ on := 2, ground := Ground.data }, { on := 6, ground := Ground.data }], guard := none }) (v := ?v6un7) rfl (by kernel_rfl) (by kernel_rfl) (by kernel_rfl) (fun _ _ _ h => h) (Or.inl ⟨by rfl, ?hy6un7⟩) (by assumption) ?rest6un7
        case hy6un7 => (intro w hSw; (try dsimp only at hSw); have q1 := hSw.c1; have q7 := hSw.c7; go_simp <;> (try with_reducible rfl))
        try simp only [Act.put, List.setIfInBounds_toArray, List.set_cons_zero, List.set_cons_succ]
        refine wpAnyH_take (i := 8) (oi := { dst := some 21, op := Op.move (Operand.tmp 20), type := 4, pos := "journal.go:54", after := #[{ on := 7, ground := Ground.data }, { on := 2, ground := Ground.chain }], guard := none }) (v := ?v6un8) rfl (by kernel_rfl) (by kernel_rfl) (by kernel_rfl) (fun _ _ _ h => h) (Or.inl ⟨by rfl, ?hy6un8⟩) (by assumption) ?rest6un8
        case hy6un8 => (intro w hSw; (try dsimp only at hSw); have q1 := hSw.c1; have q7 := hSw.c7; go_simp <;> (try with_reducible rfl))
        try simp only [Act.put, List.setIfInBounds_toArray, List.set_cons_zero, List.set_cons_succ]
        refine wpAnyH_take (i := 9) (oi := { dst := some 22, op := Op.move (Operand.tmp 0), type := 29, pos := "journal.go:54", after := #[{ on := 8, ground := Ground.guard }], guard := some (8, false) }) (v := ?v6un9) rfl (by kernel_rfl) (by kernel_rfl) (by kernel_rfl) (fun _ _ _ h => h) (Or.inl ⟨by rfl, ?hy6un9⟩) (by assumption) ?rest6un9
        case hy6un9 => (intro w hSw; (try dsimp only at hSw); have q1 := hSw.c1; have q7 := hSw.c7; go_simp <;> (try with_reducible rfl))
        try simp only [Act.put, List.setIfInBounds_toArray, List.set_cons_zero, List.set_cons_succ]
        refine wpAnyH_take (i := 10) (oi := { dst := some 23, op := Op.nilCheck (Operand.tmp 22), type := 0, pos := "journal.go:54", after := #[{ on := 9, ground := Ground.data }, { on := 8, ground := Ground.guard }], guard := some (8, false) }) (v := ?v6un10) rfl (by kernel_rfl) (by kernel_rfl) (by kernel_rfl) (fun _ _ _ h => h) (Or.inl ⟨by rfl, ?hy6un10⟩) (by assumption) ?rest6un10
        case hy6un10 => (intro w hSw; (try dsimp only at hSw); have q1 := hSw.c1; have q7 := hSw.c7; go_simp <;> (try with_reducible rfl))
        try simp only [Act.put, List.setIfInBounds_toArray, List.set_cons_zero, List.set_cons_succ]
        refine wpAnyH_take (i := 11) (oi := { dst := some 24, op := Op.fieldAddr 76 (Operand.tmp 23) 4, type := 0, pos := "journal.go:54", after := #[{ on := 10, ground := Ground.data }, { on := 8, ground := Ground.guard }], guard := some (8, false) }) (v := ?v6un11) rfl (by kernel_rfl) (by kernel_rfl) (by kernel_rfl) (fun _ _ _ h => h) (Or.inl ⟨by rfl, ?hy6un11⟩) (by assumption) ?rest6un11
        case hy6un11 => (intro w hSw; (try dsimp only at hSw); have q1 := hSw.c1; have q7 := hSw.c7; go_simp <;> (try with_reducible rfl))
        try simp only [Act.put, List.setIfInBounds_toArray, List.set_cons_zero, List.set_cons_succ]
        refine wpAnyH_take (i := 12) (oi := { dst := some 25, op := Op.load 3 (Operand.tmp 24), type := 3, pos := "journal.go:54", after := #[{ on := 11, ground := Ground.data }, { on := 8, ground := Ground.guard }], guard := some (8, false) }) (v := ?v6un12) rfl (by kernel_rfl) (by kernel_rfl) (by kernel_rfl) (fun _ _ _ h => h) (Or.inl ⟨by rfl, ?hy6un12⟩) (by assumption) ?rest6un12
        case hy6un12 => (intro w hSw; (try dsimp only at hSw); have q1 := hSw.c1; have q7 := hSw.c7; go_simp <;> (try with_reducible rfl))
        try simp only [Act.put, List.setIfInBounds_toArray, List.set_cons_zero, List.set_cons_succ]
        refine wpAnyH_take (i := 13) (oi := { dst := some 26, op := Op.binOp BinOp.geq 3 (Operand.tmp 25) (Operand.const (Value.int IntKind.i64 2147483647)) 3, type := 4, pos := "journal.go:54", after := #[{ on := 12, ground := Ground.data }, { on := 8, ground := Ground.guard }], guard := some (8, false) }) (v := ?v6un13) rfl (by kernel_rfl) (by kernel_rfl) (by kernel_rfl) (fun _ _ _ h => h) (Or.inl ⟨by rfl, ?hy6un13⟩) (by assumption) ?rest6un13
        case hy6un13 => (intro w hSw; (try dsimp only at hSw); have q1 := hSw.c1; have q7 := hSw.c7; go_simp <;> (try with_reducible rfl))
        try simp only [Act.put, List.setIfInBounds_toArray, List.set_cons_zero, List.set_cons_succ]
        refine wpAnyH_take (i := 14) (oi := { dst := some 27, op := Op.pick (Operand.tmp 21) (Operand.const (Value.bool true)) (Operand.tmp 26), type := 4, pos := "journal.go:54", after := #[{ on := 8, ground := Ground.data }, { on := 13, ground := Ground.data }], guard := none }) (v := ?v6un14) rfl (by kernel_rfl) (by kernel_rfl) (by kernel_rfl) (fun _ _ _ h => h) (Or.inl ⟨by rfl, ?hy6un14⟩) (by assumption) ?rest6un14
        case hy6un14 => (intro w hSw; (try dsimp only at hSw); have q1 := hSw.c1; have q7 := hSw.c7; go_simp <;> (try with_reducible rfl))
        try simp only [Act.put, List.setIfInBounds_toArray, List.set_cons_zero, List.set_cons_succ]
        refine wpAnyH_done (by kernel_rfl) ?_ _
        go_wp2_with fail
        go_ret
        exact HE.out
      · have hqi : decide ((2147483647 : Int) ≤ (j1.last : Int)) = false := decide_eq_false (by omega)
        have hff : fullJ j1 r = false := by rw [hfull]; simp [hp, hq]
        have hX := HX.out
        rw [hff] at hX
        simp only [Bool.false_eq_true, if_false] at hX
        have HXX := Lib.hid hX
        clear HE5 hfull hX
        refine wp_region_held_drew (S := fun w' => JBox w' g dg j1) (by kernel_rfl) (HJ1.out.below (Below.refl _ _).drew) (fun hHeld => ?_)
        refine wpAnyH_take (i := 0) (oi := { dst := some 13, op := Op.move (Operand.tmp 1), type := 38, pos := "journal.go:54", after := #[], guard := none }) (v := ?v6vn1) rfl (by kernel_rfl) (by kernel_rfl) (by kernel_rfl) (fun _ _ _ h => h) (Or.inl ⟨by rfl, ?hy6vn1⟩) (by assumption) ?rest6vn1
        case hy6vn1 => (intro w hSw; (try dsimp only at hSw); have q1 := hSw.c1; have q7 := hSw.c7; go_simp <;> (try with_reducible rfl))
        try simp only [Act.put, List.setIfInBounds_toArray, List.set_cons_zero, List.set_cons_succ]
        refine wpAnyH_take (i := 1) (oi := { dst := some 14, op := Op.call { callee := Callee.builtin Builtin.len, args := #[Operand.tmp 13], argTypes := #[38] }, type := 3, pos := "journal.go:54", after := #[{ on := 0, ground := Ground.data }], guard := none }) (v := ?v6vn2) rfl (by kernel_rfl) (by kernel_rfl) (by kernel_rfl) (fun _ _ _ h => h) (Or.inl ⟨by rfl, ?hy6vn2⟩) (by assumption) ?rest6vn2
        case hy6vn2 => (intro w hSw; (try dsimp only at hSw); have q1 := hSw.c1; have q7 := hSw.c7; go_simp <;> (try with_reducible rfl))
        try simp only [Act.put, List.setIfInBounds_toArray, List.set_cons_zero, List.set_cons_succ]
        refine wpAnyH_take (i := 3) (oi := { dst := some 16, op := Op.move (Operand.tmp 0), type := 29, pos := "journal.go:54", after := #[], guard := none }) (v := ?v6vn3) rfl (by kernel_rfl) (by kernel_rfl) (by kernel_rfl) (fun _ _ _ h => h) (Or.inl ⟨by rfl, ?hy6vn3⟩) (by assumption) ?rest6vn3
        case hy6vn3 => (intro w hSw; (try dsimp only at hSw); have q1 := hSw.c1; have q7 := hSw.c7; go_simp <;> (try with_reducible rfl))
        try simp only [Act.put, List.setIfInBounds_toArray, List.set_cons_zero, List.set_cons_succ]
        refine wpAnyH_take (i := 4) (oi := { dst := some 17, op := Op.nilCheck (Operand.tmp 16), type := 0, pos := "journal.go:54", after := #[{ on := 3, ground := Ground.data }], guard := none }) (v := ?v6vn4) rfl (by kernel_rfl) (by kernel_rfl) (by kernel_rfl) (fun _ _ _ h => h) (Or.inl ⟨by rfl, ?hy6vn4⟩) (by assumption) ?rest6vn4
        case hy6vn4 => (intro w hSw; (try dsimp only at hSw); have q1 := hSw.c1; have q7 := hSw.c7; go_simp <;> (try with_reducible rfl))
        try simp only [Act.put, List.setIfInBounds_toArray, List.set_cons_zero, List.set_cons_succ]
        refine wpAnyH_take (i := 5) (oi := { dst := some 18, op := Op.fieldAddr 76 (Operand.tmp 17) 1, type := 0, pos := "journal.go:54", after := #[{ on := 4, ground := Ground.data }], guard := none }) (v := ?v6vn5) rfl (by kernel_rfl) (by kernel_rfl) (by kernel_rfl) (fun _ _ _ h => h) (Or.inl ⟨by rfl, ?hy6vn5⟩) (by assumption) ?rest6vn5
        case hy6vn5 => (intro w hSw; (try dsimp only at hSw); have q1 := hSw.c1; have q7 := hSw.c7; go_simp <;> (try with_reducible rfl))
        try simp only [Act.put, List.setIfInBounds_toArray, List.set_cons_zero, List.set_cons_succ]
        refine wpAnyH_take (i := 6) (oi := { dst := some 19, op := Op.load 3 (Operand.tmp 18), type := 3, pos := "journal.go:54", after := #[{ on := 5, ground := Ground.data }], guard := none }) (v := ?v6vn6) rfl (by kernel_rfl) (by kernel_rfl) (by kernel_rfl) (fun _ _ _ h => h) (Or.inl ⟨by rfl, ?hy6vn6⟩) (by assumption) ?rest6vn6
        case hy6vn6 => (intro w hSw; (try dsimp only at hSw); have q1 := hSw.c1; have q7 := hSw.c7; go_simp <;> (try with_reducible rfl))
        try simp only [Act.put, List.setIfInBounds_toArray, List.set_cons_zero, List.set_cons_succ]
        refine wpAnyH_ready (rs := [2]) (by kernel_rfl) (by simp) ?_
        refine AllReadyH.cons (o := { dst := some 15, op := Op.call { callee := Callee.value (Operand.func 26), args := #[Operand.tmp 14], argTypes := #[3] }, type := 3, pos := "journal.go:54", after := #[{ on := 1, ground := Ground.data }], guard := none }) rfl (fun K hK => ?_) AllReadyH.nil
        go_simp
        refine CP.out.mono ?_
        rintro r wz ⟨rfl, rfl⟩
        dsimp only
        refine hK.out _ _ (HJ1.out.below (Below.refl _ _).drew) (fun hHeld => ?_)
        clear hK K
        try simp only [Act.put, List.setIfInBounds_toArray, List.set_cons_zero, List.set_cons_succ]
        refine wpAnyH_take (i := 7) (oi := { dst := some 20, op := Op.binOp BinOp.gtr 3 (Operand.tmp 15) (Operand.tmp 19) 3, type := 4, pos := "journal.go:54", after := #[{ on := 2, ground := Ground.data }, { on := 6, ground := Ground.data }], guard := none }) (v := ?v6vn7) rfl (by kernel_rfl) (by kernel_rfl) (by kernel_rfl) (fun _ _ _ h => h) (Or.inl ⟨by rfl, ?hy6vn7⟩) (by assumption) ?rest6vn7
        case hy6vn7 => (intro w hSw; (try dsimp only at hSw); have q1 := hSw.c1; have q7 := hSw.c7; go_simp <;> (try with_reducible rfl))
        try simp only [Act.put, List.setIfInBounds_toArray, List.set_cons_zero, List.set_cons_succ]
        refine wpAnyH_take (i := 8) (oi := { dst := some 21, op := Op.move (Operand.tmp 20), type := 4, pos := "journal.go:54", after := #[{ on := 7, ground := Ground.data }, { on := 2, ground := Ground.chain }], guard := none }) (v := ?v6vn8) rfl (by kernel_rfl) (by kernel_rfl) (by kernel_rfl) (fun _ _ _ h => h) (Or.inl ⟨by rfl, ?hy6vn8⟩) (by assumption) ?rest6vn8
        case hy6vn8 => (intro w hSw; (try dsimp only at hSw); have q1 := hSw.c1; have q7 := hSw.c7; go_simp <;> (try with_reducible rfl))
        try simp only [Act.put, List.setIfInBounds_toArray, List.set_cons_zero, List.set_cons_succ]
        refine wpAnyH_take (i := 9) (oi := { dst := some 22, op := Op.move (Operand.tmp 0), type := 29, pos := "journal.go:54", after := #[{ on := 8, ground := Ground.guard }], guard := some (8, false) }) (v := ?v6vn9) rfl (by kernel_rfl) (by kernel_rfl) (by kernel_rfl) (fun _ _ _ h => h) (Or.inl ⟨by rfl, ?hy6vn9⟩) (by assumption) ?rest6vn9
        case hy6vn9 => (intro w hSw; (try dsimp only at hSw); have q1 := hSw.c1; have q7 := hSw.c7; go_simp <;> (try with_reducible rfl))
        try simp only [Act.put, List.setIfInBounds_toArray, List.set_cons_zero, List.set_cons_succ]
        refine wpAnyH_take (i := 10) (oi := { dst := some 23, op := Op.nilCheck (Operand.tmp 22), type := 0, pos := "journal.go:54", after := #[{ on := 9, ground := Ground.data }, { on := 8, ground := Ground.guard }], guard := some (8, false) }) (v := ?v6vn10) rfl (by kernel_rfl) (by kernel_rfl) (by kernel_rfl) (fun _ _ _ h => h) (Or.inl ⟨by rfl, ?hy6vn10⟩) (by assumption) ?rest6vn10
        case hy6vn10 => (intro w hSw; (try dsimp only at hSw); have q1 := hSw.c1; have q7 := hSw.c7; go_simp <;> (try with_reducible rfl))
        try simp only [Act.put, List.setIfInBounds_toArray, List.set_cons_zero, List.set_cons_succ]
        refine wpAnyH_take (i := 11) (oi := { dst := some 24, op := Op.fieldAddr 76 (Operand.tmp 23) 4, type := 0, pos := "journal.go:54", after := #[{ on := 10, ground := Ground.data }, { on := 8, ground := Ground.guard }], guard := some (8, false) }) (v := ?v6vn11) rfl (by kernel_rfl) (by kernel_rfl) (by kernel_rfl) (fun _ _ _ h => h) (Or.inl ⟨by rfl, ?hy6vn11⟩) (by assumption) ?rest6vn11
        case hy6vn11 => (intro w hSw; (try dsimp only at hSw); have q1 := hSw.c1; have q7 := hSw.c7; go_simp <;> (try with_reducible rfl))
        try simp only [Act.put, List.setIfInBounds_toArray, List.set_cons_zero, List.set_cons_succ]
        refine wpAnyH_take (i := 12) (oi := { dst := some 25, op := Op.load 3 (Operand.tmp 24), type := 3, pos := "journal.go:54", after := #[{ on := 11, ground := Ground.data }, { on := 8, ground := Ground.guard }], guard := some (8, false) }) (v := ?v6vn12) rfl (by kernel_rfl) (by kernel_rfl) (by kernel_rfl) (fun _ _ _ h => h) (Or.inl ⟨by rfl, ?hy6vn12⟩) (by assumption) ?rest6vn12
        case hy6vn12 => (intro w hSw; (try dsimp only at hSw); have q1 := hSw.c1; have q7 := hSw.c7; go_simp <;> (try with_reducible rfl))
        try simp only [Act.put, List.setIfInBounds_toArray, List.set_cons_zero, List.set_cons_succ]
        refine wpAnyH_take (i := 13) (oi := { dst := some 26, op := Op.binOp BinOp.geq 3 (Operand.tmp 25) (Operand.const (Value.int IntKind.i64 2147483647)) 3, type := 4, pos := "journal.go:54", after := #[{ on := 12, ground := Ground.data }, { on := 8, ground := Ground.guard }], guard := some (8, false) }) (v := ?v6vn13) rfl (by kernel_rfl) (by kernel_rfl) (by kernel_rfl) (fun _ _ _ h => h) (Or.inl ⟨by rfl, ?hy6vn13⟩) (by assumption) ?rest6vn13
        case hy6vn13 => (intro w hSw; (try dsimp only at hSw); have q1 := hSw.c1; have q7 := hSw.c7; go_simp <;> (try with_reducible rfl))
        try simp only [Act.put, List.setIfInBounds_toArray, List.set_cons_zero, List.set_cons_succ]
        refine wpAnyH_take (i := 14) (oi := { dst := some 27, op := Op.pick (Operand.tmp 21) (Operand.const (Value.bool true)) (Operand.tmp 26), type := 4, pos := "journal.go:54", after := #[{ on := 8, ground := Ground.data }, { on := 13, ground := Ground.data }], guard := none }) (v := ?v6vn14) rfl (by kernel_rfl) (by kernel_rfl) (by kernel_rfl) (fun _ _ _ h => h) (Or.inl ⟨by rfl, ?hy6vn14⟩) (by assumption) ?rest6vn14
        case hy6vn14 => (intro w hSw; (try dsimp only at hSw); have q1 := hSw.c1; have q7 := hSw.c7; go_simp <;> (try with_reducible rfl))
        try simp only [Act.put, List.setIfInBounds_toArray, List.set_cons_zero, List.set_cons_succ]
        refine wpAnyH_done (by kernel_rfl) ?_ _
        go_upto_region 8 with fail
        have hli : (j1.last : Int) ≤ 2147483647 := by omega
        have hlen1 : 2 * j1.size ≤ d.K.length := by rw [HLS.out]; exact hlen
        have hroom : j1.free + 0 + partsN n ≤ d.K.length := by
          have h1 := HLF.out
          have h2 := HLS.out
          have h3 := HNN.out
          omega
        have hwr : IntKind.i64.wrap ((j1.last : Int) + 1) = (j1.last : Int) + 1 := IntWalk.i64_in _ (by omega)
        have CW1 := jwrite_any base g dg (j1.last + 1) j1.free 0 0 n c j1 d r A w1.drew.drew (HJ1.out.below (Below.refl _ _).drew.drew) (HDK1.out.below (Below.refl _ _).drew.drew) hbg (Nat.le_trans hbs HF1.out.size) hn hc hA hr hroom hst hps (by omega)
          (fun w' hw' => HSL.out w' (((HF1.out.toKind HJ.out).mono (by simp [kd]) (by simp)).drew.drew.trans hw'))
        push_cast at CW1
        have CW : Hid (Calls Try.prog 39 #[.pointer (some ⟨g, 0, none⟩), .agg #[.int .i64 ((j1.last : Int) + 1), .int .i64 (j1.free : Int), .int .i64 0, .int .i64 0], .slice A n c] w1.drew.drew (JPost w1.drew.drew base g dg (wrF d j1 (j1.last + 1) j1.free 0 0 r))) :=
          Calls.mono CW1 (fun e w' h => h)
        have L7 : Hid ((Instr.loadAt 3 (.pointer (some ⟨g, 7, none⟩))).run Try.prog w1.drew.drew = .ok (.int .i64 (j1.last : Int)) w1.drew.drew) := by
          have := ((HJ1.out.below (Below.refl _ _).drew).below (Below.refl _ _).drew).c7
          show _ = _
          simp [go_sem, this]
        have L6 : Hid ((Instr.loadAt 3 (.pointer (some ⟨g, 6, none⟩))).run Try.prog w1.drew.drew = .ok (.int .i64 (j1.free : Int)) w1.drew.drew) := by
          have := ((HJ1.out.below (Below.refl _ _).drew).below (Below.refl _ _).drew).c6
          show _ = _
          simp [go_sem, this]
        have HB8 : Hid (Below base w1 w1.drew.drew) := (Below.refl _ _).drew.drew
        clear CW1
        refine wp_region_held_drew (S := fun w' => Below base w1 w') (by kernel_rfl) (HB8.out) (fun hHeld => ?_)
        refine wpAnyH_take (i := 0) (oi := { dst := some 28, op := Op.move (Operand.tmp 0), type := 29, pos := "journal.go:57", after := #[], guard := none }) (v := ?v8n1) rfl (by kernel_rfl) (by kernel_rfl) (by kernel_rfl) (fun _ _ _ h => h) (Or.inl ⟨by rfl, ?hy8n1⟩) (by assumption) ?rest8n1
        case hy8n1 => (intro w hSw; (try dsimp only at hSw); go_simp <;> (try with_reducible rfl))
        try simp only [Act.put, List.setIfInBounds_toArray, List.set_cons_zero, List.set_cons_succ]
        refine wpAnyH_take (i := 1) (oi := { dst := some 29, op := Op.move (Operand.tmp 0), type := 29, pos := "journal.go:57", after := #[], guard := none }) (v := ?v8n2) rfl (by kernel_rfl) (by kernel_rfl) (by kernel_rfl) (fun _ _ _ h => h) (Or.inl ⟨by rfl, ?hy8n2⟩) (by assumption) ?rest8n2
        case hy8n2 => (intro w hSw; (try dsimp only at hSw); go_simp <;> (try with_reducible rfl))
        try simp only [Act.put, List.setIfInBounds_toArray, List.set_cons_zero, List.set_cons_succ]
        refine wpAnyH_take (i := 2) (oi := { dst := some 30, op := Op.nilCheck (Operand.tmp 29), type := 0, pos := "journal.go:57", after := #[{ on := 1, ground := Ground.data }], guard := none }) (v := ?v8n3) rfl (by kernel_rfl) (by kernel_rfl) (by kernel_rfl) (fun _ _ _ h => h) (Or.inl ⟨by rfl, ?hy8n3⟩) (by assumption) ?rest8n3
        case hy8n3 => (intro w hSw; (try dsimp only at hSw); go_simp <;> (try with_reducible rfl))
        try simp only [Act.put, List.setIfInBounds_toArray, List.set_cons_zero, List.set_cons_succ]
        refine wpAnyH_take (i := 3) (oi := { dst := some 31, op := Op.fieldAddr 76 (Operand.tmp 30) 4, type := 0, pos := "journal.go:57", after := #[{ on := 2, ground := Ground.data }], guard := none }) (v := ?v8n4) rfl (by kernel_rfl) (by kernel_rfl) (by kernel_rfl) (fun _ _ _ h => h) (Or.inl ⟨by rfl, ?hy8n4⟩) (by assumption) ?rest8n4
        case hy8n4 => (intro w hSw; (try dsimp only at hSw); go_simp <;> (try with_reducible rfl))
        try simp only [Act.put, List.setIfInBounds_toArray, List.set_cons_zero, List.set_cons_succ]
        refine wpAnyH_take (i := 6) (oi := { dst := some 34, op := Op.move (Operand.tmp 0), type := 29, pos := "journal.go:57", after := #[], guard := none }) (v := ?v8n5) rfl (by kernel_rfl) (by kernel_rfl) (by kernel_rfl) (fun _ _ _ h => h) (Or.inl ⟨by rfl, ?hy8n5⟩) (by assumption) ?rest8n5
        case hy8n5 => (intro w hSw; (try dsimp only at hSw); go_simp <;> (try with_reducible rfl))
        try simp only [Act.put, List.setIfInBounds_toArray, List.set_cons_zero, List.set_cons_succ]
        refine wpAnyH_take (i := 7) (oi := { dst := some 35, op := Op.nilCheck (Operand.tmp 34), type := 0, pos := "journal.go:57", after := #[{ on := 6, ground := Ground.data }], guard := none }) (v := ?v8n6) rfl (by kernel_rfl) (by kernel_rfl) (by kernel_rfl) (fun _ _ _ h => h) (Or.inl ⟨by rfl, ?hy8n6⟩) (by assumption) ?rest8n6
        case hy8n6 => (intro w hSw; (try dsimp only at hSw); go_simp <;> (try with_reducible rfl))
        try simp only [Act.put, List.setIfInBounds_toArray, List.set_cons_zero, List.set_cons_succ]
        refine wpAnyH_take (i := 8) (oi := { dst := some 36, op := Op.fieldAddr 76 (Operand.tmp 35) 3, type := 0, pos := "journal.go:57", after := #[{ on := 7, ground := Ground.data }], guard := none }) (v := ?v8n7) rfl (by kernel_rfl) (by kernel_rfl) (by kernel_rfl) (fun _ _ _ h => h) (Or.inl ⟨by rfl, ?hy8n7⟩) (by assumption) ?rest8n7
        case hy8n7 => (intro w hSw; (try dsimp only at hSw); go_simp <;> (try with_reducible rfl))
        try simp only [Act.put, List.setIfInBounds_toArray, List.set_cons_zero, List.set_cons_succ]
        refine wpAnyH_take (i := 11) (oi := { dst := some 39, op := Op.move (Operand.tmp 1), type := 38, pos := "journal.go:57", after := #[], guard := none }) (v := ?v8n8) rfl (by kernel_rfl) (by kernel_rfl) (by kernel_rfl) (fun _ _ _ h => h) (Or.inl ⟨by rfl, ?hy8n8⟩) (by assumption) ?rest8n8
        case hy8n8 => (intro w hSw; (try dsimp only at hSw); go_simp <;> (try with_reducible rfl))
        try simp only [Act.put, List.setIfInBounds_toArray, List.set_cons_zero, List.set_cons_succ]
        refine wpAnyH_ready (rs := [4, 9]) (by kernel_rfl) (by simp) ?_
        refine AllReadyH.cons (o := { dst := some 32, op := Op.load 3 (Operand.tmp 31), type := 3, pos := "journal.go:57", after := #[{ on := 3, ground := Ground.data }], guard := none }) rfl (fun K hK => ?_) (AllReadyH.cons (o := { dst := some 37, op := Op.load 3 (Operand.tmp 36), type := 3, pos := "journal.go:57", after := #[{ on := 8, ground := Ground.data }], guard := none }) rfl (fun K hK => ?_) (AllReadyH.nil))
        · refine wp_value (exec_load rfl rfl L7.out) ?_
          refine hK.out _ _ (HB8.out) (fun hHeld => ?_)
          clear hK K
          try simp only [Act.put, List.setIfInBounds_toArray, List.set_cons_zero, List.set_cons_succ]
          refine wpAnyH_take (i := 5) (oi := { dst := some 33, op := Op.binOp BinOp.add 3 (Operand.tmp 32) (Operand.const (Value.int IntKind.i64 1)) 3, type := 3, pos := "journal.go:57", after := #[{ on := 4, ground := Ground.data }], guard := none }) (v := ?v8n9) rfl (by kernel_rfl) (by kernel_rfl) (by kernel_rfl) (fun _ _ _ h => h) (Or.inl ⟨by rfl, ?hy8n9⟩) (by assumption) ?rest8n9
          case hy8n9 => (intro w hSw; (try dsimp only at hSw); go_simp <;> (try with_reducible rfl))
          try simp only [Act.put, List.setIfInBounds_toArray, List.set_cons_zero, List.set_cons_succ]
          refine wpAnyH_ready (rs := [9]) (by kernel_rfl) (by simp) ?_
          refine AllReadyH.cons (o := { dst := some 37, op := Op.load 3 (Operand.tmp 36), type := 3, pos := "journal.go:57", after := #[{ on := 8, ground := Ground.data }], guard := none }) rfl (fun K hK => ?_) AllReadyH.nil
          refine wp_value (exec_load rfl rfl L6.out) ?_
          refine hK.out _ _ (HB8.out) (fun hHeld => ?_)
          clear hK K
          try simp only [Act.put, List.setIfInBounds_toArray, List.set_cons_zero, List.set_cons_succ]
          refine wpAnyH_take (i := 10) (oi := { dst := some 38, op := Op.build 71 #[(0, Operand.tmp 33), (1, Operand.tmp 37)], type := 71, pos := "journal.go:57", after := #[{ on := 5, ground := Ground.data }, { on := 9, ground := Ground.data }], guard := none }) (v := ?v8n10) rfl (by kernel_rfl) (by kernel_rfl) (by kernel_rfl) (fun _ _ _ h => h) (Or.inl ⟨by rfl, ?hy8n10⟩) (by assumption) ?rest8n10
          case hy8n10 => (intro w hSw; (try dsimp only at hSw); go_simp <;> (try with_reducible rfl))
          try simp only [Act.put, List.setIfInBounds_toArray, List.set_cons_zero, List.set_cons_succ]
          refine wpAnyH_ready (rs := [12]) (by kernel_rfl) (by simp) ?_
          refine AllReadyH.cons (o := { dst := some 40, op := Op.call { callee := Callee.value (Operand.func 39), args := #[Operand.tmp 28, Operand.tmp 38, Operand.tmp 39], argTypes := #[29, 71, 38] }, type := 25, pos := "journal.go:57", after := #[{ on := 0, ground := Ground.data }, { on := 10, ground := Ground.data }, { on := 11, ground := Ground.data }], guard := none }) rfl (fun K hK => ?_) AllReadyH.nil
          go_simp
          refine CW.out.mono ?_
          rintro r wz ⟨rfl, e1, e2, e3⟩
          have HX1 := Lib.hid e1
          have HX2 := Lib.hid e2
          have HX3 := Lib.hid e3
          clear e1 e2 e3
          dsimp only
          refine hK.out _ _ (HB8.out.trans HX3.out.below) (fun hHeld => ?_)
          clear hK K
          try simp only [Act.put, List.setIfInBounds_toArray, List.set_cons_zero, List.set_cons_succ]
          refine wpAnyH_take (i := 13) (oi := { dst := some 4, op := Op.assign (Operand.tmp 40), type := 25, pos := "journal.go:57", after := #[{ on := 12, ground := Ground.data }, { on := 12, ground := Ground.chain }, { on := 0, ground := Ground.phase }, { on := 1, ground := Ground.phase }, { on := 2, ground := Ground.phase }, { on := 3, ground := Ground.phase }, { on := 4, ground := Ground.phase }, { on := 5, ground := Ground.phase }, { on := 6, ground := Ground.phase }, { on := 7, ground := Ground.phase }, { on := 8, ground := Ground.phase }, { on := 9, ground := Ground.phase }, { on := 10, ground := Ground.phase }, { on := 11, ground := Ground.phase }, { on := 12, ground := Ground.phase }], guard := none }) (v := ?v8n11) rfl (by kernel_rfl) (by kernel_rfl) (by kernel_rfl) (fun _ _ _ h => h) (Or.inl ⟨by rfl, ?hy8n11⟩) (by assumption) ?rest8n11
          case hy8n11 => (intro w hSw; (try dsimp only at hSw); go_simp <;> (try with_reducible rfl))
          try simp only [Act.put, List.setIfInBounds_toArray, List.set_cons_zero, List.set_cons_succ]
          refine wpAnyH_done (by kernel_rfl) ?_ _
          go_wp2_with fail
          go_ret
          rw [HXX.out]
          exact ⟨rfl, HX1.out, HX2.out, ((HF1.out.mono (by simp) (by simp)).drew.drew).trans HX3.out⟩
        · refine wp_value (exec_load rfl rfl L6.out) ?_
          refine hK.out _ _ (HB8.out) (fun hHeld => ?_)
          clear hK K
          try simp only [Act.put, List.setIfInBounds_toArray, List.set_cons_zero, List.set_cons_succ]
          refine wpAnyH_ready (rs := [4]) (by kernel_rfl) (by simp) ?_
          refine AllReadyH.cons (o := { dst := some 32, op := Op.load 3 (Operand.tmp 31), type := 3, pos := "journal.go:57", after := #[{ on := 3, ground := Ground.data }], guard := none }) rfl (fun K hK => ?_) AllReadyH.nil
          refine wp_value (exec_load rfl rfl L7.out) ?_
          refine hK.out _ _ (HB8.out) (fun hHeld => ?_)
          clear hK K
          try simp only [Act.put, List.setIfInBounds_toArray, List.set_cons_zero, List.set_cons_succ]
          refine wpAnyH_take (i := 5) (oi := { dst := some 33, op := Op.binOp BinOp.add 3 (Operand.tmp 32) (Operand.const (Value.int IntKind.i64 1)) 3, type := 3, pos := "journal.go:57", after := #[{ on := 4, ground := Ground.data }], guard := none }) (v := ?v8n12) rfl (by kernel_rfl) (by kernel_rfl) (by kernel_rfl) (fun _ _ _ h => h) (Or.inl ⟨by rfl, ?hy8n12⟩) (by assumption) ?rest8n12
          case hy8n12 => (intro w hSw; (try dsimp only at hSw); go_simp <;> (try with_reducible rfl))
          try simp only [Act.put, List.setIfInBounds_toArray, List.set_cons_zero, List.set_cons_succ]
          refine wpAnyH_take (i := 10) (oi := { dst := some 38, op := Op.build 71 #[(0, Operand.tmp 33), (1, Operand.tmp 37)], type := 71, pos := "journal.go:57", after := #[{ on := 5, ground := Ground.data }, { on := 9, ground := Ground.data }], guard := none }) (v := ?v8n13) rfl (by kernel_rfl) (by kernel_rfl) (by kernel_rfl) (fun _ _ _ h => h) (Or.inl ⟨by rfl, ?hy8n13⟩) (by assumption) ?rest8n13
          case hy8n13 => (intro w hSw; (try dsimp only at hSw); go_simp <;> (try with_reducible rfl))
          try simp only [Act.put, List.setIfInBounds_toArray, List.set_cons_zero, List.set_cons_succ]
          refine wpAnyH_ready (rs := [12]) (by kernel_rfl) (by simp) ?_
          refine AllReadyH.cons (o := { dst := some 40, op := Op.call { callee := Callee.value (Operand.func 39), args := #[Operand.tmp 28, Operand.tmp 38, Operand.tmp 39], argTypes := #[29, 71, 38] }, type := 25, pos := "journal.go:57", after := #[{ on := 0, ground := Ground.data }, { on := 10, ground := Ground.data }, { on := 11, ground := Ground.data }], guard := none }) rfl (fun K hK => ?_) AllReadyH.nil
          go_simp
          refine CW.out.mono ?_
          rintro r wz ⟨rfl, e1, e2, e3⟩
          have HX1 := Lib.hid e1
          have HX2 := Lib.hid e2
          have HX3 := Lib.hid e3
          clear e1 e2 e3
          dsimp only
          refine hK.out _ _ (HB8.out.trans HX3.out.below) (fun hHeld => ?_)
          clear hK K
          try simp only [Act.put, List.setIfInBounds_toArray, List.set_cons_zero, List.set_cons_succ]
          refine wpAnyH_take (i := 13) (oi := { dst := some 4, op := Op.assign (Operand.tmp 40), type := 25, pos := "journal.go:57", after := #[{ on := 12, ground := Ground.data }, { on := 12, ground := Ground.chain }, { on := 0, ground := Ground.phase }, { on := 1, ground := Ground.phase }, { on := 2, ground := Ground.phase }, { on := 3, ground := Ground.phase }, { on := 4, ground := Ground.phase }, { on := 5, ground := Ground.phase }, { on := 6, ground := Ground.phase }, { on := 7, ground := Ground.phase }, { on := 8, ground := Ground.phase }, { on := 9, ground := Ground.phase }, { on := 10, ground := Ground.phase }, { on := 11, ground := Ground.phase }, { on := 12, ground := Ground.phase }], guard := none }) (v := ?v8n14) rfl (by kernel_rfl) (by kernel_rfl) (by kernel_rfl) (fun _ _ _ h => h) (Or.inl ⟨by rfl, ?hy8n14⟩) (by assumption) ?rest8n14
          case hy8n14 => (intro w hSw; (try dsimp only at hSw); go_simp <;> (try with_reducible rfl))
          try simp only [Act.put, List.setIfInBounds_toArray, List.set_cons_zero, List.set_cons_succ]
          refine wpAnyH_done (by kernel_rfl) ?_ _
          go_wp2_with fail
          go_ret
          rw [HXX.out]
          exact ⟨rfl, HX1.out, HX2.out, ((HF1.out.mono (by simp) (by simp)).drew.drew).trans HX3.out⟩
set_option maxHeartbeats 4000000 in
theorem jappend_any (g dg base n c : Nat) (j : Jn) (d : Dk) (r : List UInt8) (A : Option Addr) (w : World) (hj : JBox w g dg j) (hdk : DiskAt w base dg d) (hs2 : j.size ≤ 4096) (hus : j.used ≤ j.size) (hfs : j.first + j.size ≤ d.K.length) (hrc : j.recs ≤ 4096) (hbg : base ≤ g) (hbs : base ≤ w.heap.size)
    (hn : r.length = n) (hc : n ≤ c) (hA : A = none → c = 0) (hr : n ≤ 1000000) (hst : d.steps + 10000 ≤ 1000000) (hps : d.ps.length + 10000 ≤ 100000)
    (hSl : ∀ w', Fr (101 :: 76 :: kD) [] base w w' → Sl eBy w' A r) : Calls Try.prog 15 #[.pointer (some ⟨g, 0, none⟩), .slice A n c] w (JPost w base g dg (appendF d j r)) := by
  have CB := Lib.hid (bload_any hj.c8)
  have CL := Lib.hid (lap_any g dg j w hj)
  have HJ := Lib.hid hj
  have HDK := Lib.hid hdk
  have HSL := Lib.hid hSl
  obtain ⟨X, hX⟩ : ∃ X, X = appendF d j r := ⟨_, rfl⟩
  rw [← hX]
  unfold appendF at hX
  rw [hn] at hX
  clear hj hdk hSl
  cases ho : j.over with
  | true =>
    rw [ho] at CB hX
    simp only [if_true] at hX
    subst hX
    have HE : Hid (JPost w base g dg (d, j, 7) (.returned (.int .i64 7)) w) := ⟨rfl, HDK.out, HJ.out, Fr.refl _ _ _ _⟩
    clear ho
    go_enter Try.func15, Try.ntmps15
    go_wp2_with (go_at_call 38; refine CB.out.mono ?_; rintro r w1 ⟨rfl, rfl⟩)
    go_ret
    exact HE.out
  | false =>
    rw [ho] at CB hX
    simp only [Bool.false_eq_true, if_false] at hX
    clear ho
    by_cases h0 : j.lap = 0
    · rw [if_pos h0] at hX
      subst hX
      have HE : Hid (JPost w base g dg (d, j, 1) (.returned (.int .i64 1)) w) := ⟨rfl, HDK.out, HJ.out, Fr.refl _ _ _ _⟩
      rw [h0] at CL
      clear h0
      go_enter Try.func15, Try.ntmps15
      go_wp2_with (first | (go_at_call 38; refine CB.out.mono ?_; rintro r w1 ⟨rfl, rfl⟩) | (go_at_call 28; refine CL.out.mono ?_; rintro r w1 ⟨rfl, rfl⟩))
      go_ret
      exact HE.out
    · rw [if_neg h0] at hX
      have h0i : ¬ (j.lap : Int) = 0 := by omega
      have CP := Lib.hid (parts_nat n w hr)
      have CR := Lib.hid (jroom_any g dg j w HJ.out hs2 hus)
      obtain ⟨N, hN⟩ : ∃ N, N = partsN n := ⟨_, rfl⟩
      obtain ⟨R, hR⟩ : ∃ R, R = roomN j := ⟨_, rfl⟩
      have hRle : R ≤ j.size - j.used := by
        rw [hR]
        unfold roomN
        split
        · omega
        · split <;> omega
      rw [← hN] at CP
      rw [← hR] at CR
      rw [← hN, ← hR] at hX
      have HN := Lib.hid hN
      have HLP := Lib.hid h0
      clear hN hR h0
      by_cases hp : R < N
      · rw [if_pos hp] at hX
        subst hX
        have hpi : decide (R < N) = true := decide_eq_true hp
        clear hp
        go_enter Try.func15, Try.ntmps15
        go_wp2_with (first | (go_at_call 38; refine CB.out.mono ?_; rintro r w1 ⟨rfl, rfl⟩) | (go_at_call 28; refine CL.out.mono ?_; rintro r w1 ⟨rfl, rfl⟩) | (go_at_call 26; refine CP.out.mono ?_; rintro r w1 ⟨rfl, rfl⟩) | (go_at_call 24; refine CR.out.mono ?_; rintro r w2 ⟨rfl, b2⟩))
        go_ret
        exact ⟨rfl, HDK.out.below b2, HJ.out.below b2, Fr.of_below b2 hbs⟩
      · rw [if_neg hp] at hX
        have hpi : decide (R < N) = false := decide_eq_false hp
        have HX := Lib.hid hX
        have hroom : j.first + j.used + partsN n ≤ d.K.length := by have := HN.out; omega
        clear hp hX
        go_enter Try.func15, Try.ntmps15
        go_upto_region 9 with (first | (go_at_call 38; refine CB.out.mono ?_; rintro r w1 ⟨rfl, rfl⟩) | (go_at_call 28; refine CL.out.mono ?_; rintro r w1 ⟨rfl, rfl⟩) | (go_at_call 26; refine CP.out.mono ?_; rintro r w1 ⟨rfl, rfl⟩) | (go_at_call 24; refine CR.out.mono ?_; rintro r w2 ⟨rfl, b2⟩))
        have hj2 := HJ.out.below b2
        have c2 := hj2.c2
        have c3 := hj2.c3
        have c4 := hj2.c4
        have c5 := hj2.c5
        have HF2 : Hid (Fr (101 :: 76 :: kD) [] base w w2) := Fr.of_below b2 hbs
        have HB2 := Lib.hid b2
        have CW : Hid (Calls Try.prog 39 #[.pointer (some ⟨g, 0, none⟩), .agg #[.int .i64 (j.lap : Int), .int .i64 (j.first : Int), .int .i64 (j.recs : Int), .int .i64 (j.used : Int)], .slice A n c] w2 (JPost w2 base g dg (wrF d j j.lap j.first j.recs j.used r))) :=
          Calls.mono (jwrite_any base g dg j.lap j.first j.recs j.used n c j d r A w2 hj2 (HDK.out.below b2) hbg (Nat.le_trans hbs b2.size) hn hc hA hr hroom hst hps hrc (fun w' hw' => HSL.out w' (HF2.out.trans hw'))) (fun e w' h => h)
        clear hj2 b2
        go_wp2_with (go_at_call 39; refine CW.out.mono ?_; rintro r w3 ⟨rfl, e1, e2, e3⟩)
        go_ret
        rw [HX.out]
        exact ⟨rfl, e1, e2, (Fr.of_below HB2.out hbs).trans e3⟩
end Go.Proofs.Ytppdckncnfffcaa
