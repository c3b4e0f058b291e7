/-
  The contract of look. Its conditions: the journal and its disk lie in memory, both halves lie on the disk.
-/
import Derived.Test.YtppdckncnfffcaaJ10
import Derived.Deep.CutBlock
namespace Go.Proofs.Ytppdckncnfffcaa
open Go.RowKit
set_option maxRecDepth 100000

/-- The greatest number at the end of the first k sectors. -/
def lastU (S : List Sec) : Nat → Nat
  | 0 => 0
  | k + 1 => max (lastU S k) (lapE (at_ S k))
theorem lapE_lt (s : Sec) : lapE s < 4294967296 := by
  have h := num_lt (s.v.drop 60)
  rw [List.length_drop, s.h] at h
  exact h
theorem lastU_lt (S : List Sec) (k : Nat) : lastU S k < 4294967296 := by
  induction k with
  | zero => show 0 < 4294967296; decide
  | succ k ih =>
    have := lapE_lt (at_ S k)
    simp only [lastU]
    omega
def pickB (S : List Sec) (n : Nat) : Bool := decide ((foundL (halfL S 0 n)).length = 0) || decide (foundN (halfL S n n) > foundN (halfL S 0 n))
def lookL (S : List Sec) (n : Nat) : List (List UInt8) := if pickB S n then foundL (halfL S n n) else foundL (halfL S 0 n)
def lookF (S : List Sec) (n : Nat) : Nat := if pickB S n then 0 else n
def lookJ (S : List Sec) (j : Jn) : Jn := { j with last := lastU S (2 * j.size), free := lookF S j.size }
def LookPost (w : World) (base g dg : Nat) (j : Jn) (L : List (List UInt8)) (r : Ending) (w' : World) : Prop :=
  ∃ vr xs, r = .returned vr ∧ RecsV w' w.heap.size vr xs L ∧ JBox w' g dg j ∧ Fr [] [g] base w w'
theorem look_down (g dg base : Nat) (j : Jn) (d : Dk) (w : World) (hj : JBox w g dg j) (hdk : DiskAt w base dg d) (hd : d.down = true) :
    Calls Try.prog 33 #[.pointer (some ⟨g, 0, none⟩)] w (LookPost w base g dg j []) := by
  have CD := Lib.hid (down_any base dg d w hdk)
  rw [hd] at CD
  have c0 := hj.c0
  have HE : Hid (LookPost w base g dg j [] (.returned (.slice none 0 0)) w) := ⟨_, [], rfl, ⟨RowT.nil _, rfl, fun k x r h => by simp at h⟩, hj, Fr.refl _ _ _ _⟩
  clear hj hdk hd
  go_enter Try.func33, Try.ntmps33
  go_wp2_with fail
  refine CD.out.mono ?_
  rintro r w1 ⟨rfl, rfl⟩
  go_wp2
  go_ret
  exact HE.out
set_option maxHeartbeats 4000000 in
theorem look_any (g dg base : Nat) (j : Jn) (d : Dk) (w : World) (hj : JBox w g dg j) (hdk : DiskAt w base dg d) (hd : d.down = false) (hlen : 2 * j.size ≤ d.K.length) (hsz : 0 < j.size) (hs2 : j.size ≤ 2048) (hbg : base ≤ g) (hbs : base ≤ w.heap.size) :
    Calls Try.prog 33 #[.pointer (some ⟨g, 0, none⟩)] w (LookPost w base g dg (lookJ (seen d.K d.ps) j) (lookL (seen d.K d.ps) j.size)) := by
  have CD := Lib.hid (down_any base dg d w hdk)
  rw [hd] at CD
  obtain ⟨S, hS⟩ : ∃ S, S = seen d.K d.ps := ⟨_, rfl⟩
  have hdm : ∀ V : World, Fr [] [g] base w V → DiskAt V base dg d := fun V hf => hdk.keep hf (by simp) (by simp) (by simp) (fun i hi => by simp at hi; subst hi; exact ⟨_, hj, by simp [kd]⟩)
  have RD : Hid (∀ (i : Nat) (j2 : Jn) (V : World), JBox V g dg j2 → Fr [] [g] base w V → i < 2 * j.size → Calls Try.prog 43 #[.pointer (some ⟨g, 0, none⟩), .int .i64 (i : Int)] V fun r w' => r = .returned (secV (at_ S i)) ∧ Below V.heap.size V w') := by
    intro i j2 V h1 h2 h3
    rw [hS]
    exact jread_any g dg base i j2 d V h1 (hdm V h2) hd (by omega)
  have FO : Hid (∀ (first : Nat) (j2 : Jn) (V : World), JBox V g dg j2 → Fr [] [g] base w V → j2.size = j.size → first ≤ j.size → Calls Try.prog 45 #[.pointer (some ⟨g, 0, none⟩), .int .i64 (first : Int)] V fun r w' => ∃ vr xs, r = .returned (.tuple #[.int .i64 (foundN (halfL S first j.size) : Int), vr]) ∧ RecsV w' V.heap.size vr xs (foundL (halfL S first j.size)) ∧ Below V.heap.size V w') := by
    intro first j2 V h1 h2 h3 h4
    rw [hS, ← h3]
    exact found_any g dg base first j2 d V h1 (hdm V h2) hd (by omega) (by omega) (by omega) (by omega)
  rw [← hS]
  have c0 := hj.c0
  have c7 := hj.c7
  have c1 : (w.setCell ⟨g, 7, none⟩ (.int .i64 0)).cell? ⟨g, 1, none⟩ = some (.int .i64 (j.size : Int)) := (hj.set7 0).c1
  have f7 := hj.frozen 7
  have HJ0 : Hid (JBox (w.setCell ⟨g, 7, none⟩ (.int .i64 0)) g dg { j with last := lastU S 0 }) := hj.set7 0
  have HF0 : Hid (Fr [] [g] base w (w.setCell ⟨g, 7, none⟩ (.int .i64 0))) := (Fr.refl _ _ _ _).set hj (.inr (by simp)) hbg _
  obtain ⟨n, hn⟩ : ∃ n, n = j.size := ⟨_, rfl⟩
  have HN := Lib.hid hn
  rw [← hn] at RD FO c1 hs2 hsz ⊢
  have hw2 : IntKind.i64.wrap (2 * (n : Int)) = 2 * (n : Int) := IntWalk.i64_in _ (by omega)
  have HBG := Lib.hid hbg
  have HBS := Lib.hid hbs
  clear hj hdk hd hlen hS hn hbg hbs hdm
  go_enter Try.func33, Try.ntmps33
  go_wp2_with fail
  refine CD.out.mono ?_
  rintro r w1 ⟨rfl, rfl⟩
  go_wp2_with fail
  clear c0 c7 c1 f7
  go_loopw [22] (fun s22 wr => ∃ k : Nat, k ≤ 2 * n ∧ s22 = .int .i64 (k : Int) ∧ JBox wr g dg { j with last := lastU S k } ∧ Fr [] [g] base w wr) (fun s _ => 2 * n - (intOf s).toNat)
  case atStart => exact ⟨0, Nat.zero_le _, rfl, HJ0.out, HF0.out⟩
  case round =>
    obtain ⟨k, hk, rfl, hjb, hfr⟩ := hrel
    have HJ := Lib.hid hjb
    have HF := Lib.hid hfr
    clear hjb hfr HJ0 HF0
    by_cases hlt : k < 2 * n
    · have hlti : (k : Int) < 2 * (n : Int) := by omega
      have hk0 : (0 : Int) ≤ (k : Int) := by omega
      have R1 := Lib.hid (RD.out k _ wr HJ.out HF.out hlt)
      obtain ⟨s, hs⟩ : ∃ s, s = at_ S k := ⟨_, rfl⟩
      rw [← hs] at R1
      have HU : Hid (lastU S (k + 1) = max (lastU S k) (lapE s)) := by show _ = _; rw [hs]; rfl
      have hul := lastU_lt S k
      have hel := lapE_lt s
      obtain ⟨u, hu⟩ : ∃ u, u = lastU S k := ⟨_, rfl⟩
      rw [← hu] at HJ HU hul
      have HK : Hid (k + 1 ≤ 2 * n) := hlt
      clear hs hlt hk hu
      go_wp2_with (first
        | (go_at_call 43; refine R1.out.mono ?_; rintro e wa ⟨rfl, ba⟩)
        | (refine wpList_value rfl (exec_alloc rfl (run_alloc89 _)) ?_; refine wpList_unit rfl (exec_store rfl rfl rfl (store89new _ _ s)) ?_))
      have bw : Below wr.heap.size wr ((wa.alloc (.cells (eSec.f s).toArray 89)).drew) := ((ba.alloc ba.size _)).drew
      have HJ2 := Lib.hid (HJ.out.below bw)
      have HF2 := Lib.hid (HF.out.trans (Fr.of_below bw (Nat.le_trans HBS.out HF.out.size)))
      have hby : By ((wa.alloc (.cells (eSec.f s).toArray 89)).drew) wa.heap.size 89 s.v := (by_new wa s 89).below (Below.refl _ _).drew
      have HSL : Hid (Sl eBy ((wa.alloc (.cells (eSec.f s).toArray 89)).drew) (some ⟨wa.heap.size, 60, none⟩) ((s.v.drop 60).take 4)) := hby.sl (by rw [s.h]; unfold maxLen; omega) 60 4
      have HL4 : Hid (((s.v.drop 60).take 4).length = 4) := by show _ = _; have := s.h; simp; omega
      have HNE : Hid (num ((s.v.drop 60).take 4) = lapE s) := by
        show _ = _
        unfold lapE
        rw [List.take_of_length_le (by rw [List.length_drop, s.h]; decide)]
      obtain ⟨m, hm⟩ : ∃ m, m = max u (lapE s) := ⟨_, rfl⟩
      have hmax : ∀ w, (Builtin.max_ #[3, 3] 3 #[.int .i64 (u : Int), .int .i64 (lapE s : Int)]).run Try.prog w = .ok (.int .i64 (m : Int)) w := fun w => run_max2 w _ _ _ _ _ (by omega)
      have HLD : Hid ((Instr.loadAt 3 (.pointer (some ⟨g, 7, none⟩))).run Try.prog ((wa.alloc (.cells (eSec.f s).toArray 89)).drew) = .ok (.int .i64 (u : Int)) ((wa.alloc (.cells (eSec.f s).toArray 89)).drew)) := by
        have := HJ2.out.c7
        show _ = _
        simp [go_sem, this]
      have HC7 := Lib.hid HJ2.out.c7
      have HF7 := Lib.hid (HJ2.out.frozen 7)
      have HJ3 : Hid (JBox (((wa.alloc (.cells (eSec.f s).toArray 89)).drew).setCell ⟨g, 7, none⟩ (.int .i64 (m : Int))) g dg { j with last := lastU S (k + 1) }) := by
        have := HJ2.out.set7 m
        show JBox _ _ _ _
        rw [HU.out, ← hm]
        exact this
      have HF3 : Hid (Fr [] [g] base w (((wa.alloc (.cells (eSec.f s).toArray 89)).drew).setCell ⟨g, 7, none⟩ (.int .i64 (m : Int)))) := HF2.out.set HJ2.out (.inr (by simp)) HBG.out _
      clear bw hby hm ba
      refine wp_region_held_drew (S := fun w' => Below base w w') (by kernel_rfl) (HF2.out.below) (fun hHeld => ?_)
      refine wpAnyH_take (i := 0) (oi := { dst := some 28, op := Op.move (Operand.tmp 0), type := 29, pos := "journal.go:121", after := #[], guard := none }) (v := ?v8n1) rfl (by kernel_rfl) (by kernel_rfl) (by kernel_rfl) (fun _ _ _ h => h) (Or.inl ⟨by rfl, ?hy8n1⟩) (by assumption) ?rest8n1
      case hy8n1 => (intro w hSw; (try dsimp only at hSw); go_simp <;> (try with_reducible rfl))
      try simp only [Act.put, List.setIfInBounds_toArray, List.set_cons_zero, List.set_cons_succ]
      refine wpAnyH_take (i := 1) (oi := { dst := some 29, op := Op.move (Operand.tmp 0), type := 29, pos := "journal.go:121", after := #[], guard := none }) (v := ?v8n2) rfl (by kernel_rfl) (by kernel_rfl) (by kernel_rfl) (fun _ _ _ h => h) (Or.inl ⟨by rfl, ?hy8n2⟩) (by assumption) ?rest8n2
      case hy8n2 => (intro w hSw; (try dsimp only at hSw); go_simp <;> (try with_reducible rfl))
      try simp only [Act.put, List.setIfInBounds_toArray, List.set_cons_zero, List.set_cons_succ]
      refine wpAnyH_take (i := 2) (oi := { dst := some 30, op := Op.nilCheck (Operand.tmp 29), type := 0, pos := "journal.go:121", after := #[{ on := 1, ground := Ground.data }], guard := none }) (v := ?v8n3) rfl (by kernel_rfl) (by kernel_rfl) (by kernel_rfl) (fun _ _ _ h => h) (Or.inl ⟨by rfl, ?hy8n3⟩) (by assumption) ?rest8n3
      case hy8n3 => (intro w hSw; (try dsimp only at hSw); go_simp <;> (try with_reducible rfl))
      try simp only [Act.put, List.setIfInBounds_toArray, List.set_cons_zero, List.set_cons_succ]
      refine wpAnyH_take (i := 3) (oi := { dst := some 31, op := Op.fieldAddr 76 (Operand.tmp 30) 4, type := 0, pos := "journal.go:121", after := #[{ on := 2, ground := Ground.data }], guard := none }) (v := ?v8n4) rfl (by kernel_rfl) (by kernel_rfl) (by kernel_rfl) (fun _ _ _ h => h) (Or.inl ⟨by rfl, ?hy8n4⟩) (by assumption) ?rest8n4
      case hy8n4 => (intro w hSw; (try dsimp only at hSw); go_simp <;> (try with_reducible rfl))
      try simp only [Act.put, List.setIfInBounds_toArray, List.set_cons_zero, List.set_cons_succ]
      refine wpAnyH_take (i := 5) (oi := { dst := some 33, op := Op.slice 89 (Operand.tmp 4) (some (Operand.const (Value.int IntKind.i64 60))) none none, type := 38, pos := "journal.go:121", after := #[], guard := none }) (v := ?v8n5) rfl (by kernel_rfl) (by kernel_rfl) (by kernel_rfl) (fun _ _ _ h => h) (Or.inl ⟨by rfl, ?hy8n5⟩) (by assumption) ?rest8n5
      case hy8n5 => (intro w hSw; (try dsimp only at hSw); go_simp <;> (try with_reducible rfl))
      try simp only [Act.put, List.setIfInBounds_toArray, List.set_cons_zero, List.set_cons_succ]
      refine wpAnyH_ready (rs := [4, 6]) (by kernel_rfl) (by simp) ?_
      refine AllReadyH.cons (o := { dst := some 32, op := Op.load 3 (Operand.tmp 31), type := 3, pos := "journal.go:121", after := #[{ on := 3, ground := Ground.data }], guard := none }) rfl (fun K hK => ?_) (AllReadyH.cons (o := { dst := some 34, op := Op.call { callee := Callee.value (Operand.func 44), args := #[Operand.tmp 33], argTypes := #[38] }, type := 3, pos := "journal.go:121", after := #[{ on := 5, ground := Ground.data }], guard := none }) rfl (fun K hK => ?_) (AllReadyH.nil))
      · refine wp_value (exec_load rfl rfl HLD.out) ?_
        refine hK.out _ _ (HF2.out.below) (fun hHeld => ?_)
        clear hK K
        try simp only [Act.put, List.setIfInBounds_toArray, List.set_cons_zero, List.set_cons_succ]
        refine wpAnyH_ready (rs := [6]) (by kernel_rfl) (by simp) ?_
        refine AllReadyH.cons (o := { dst := some 34, op := Op.call { callee := Callee.value (Operand.func 44), args := #[Operand.tmp 33], argTypes := #[38] }, type := 3, pos := "journal.go:121", after := #[{ on := 5, ground := Ground.data }], guard := none }) rfl (fun K hK => ?_) AllReadyH.nil
        go_simp
        refine (number_any _ 4 4 _ _ HSL.out HL4.out (by decide)).mono ?_
        rintro r wz ⟨rfl, rfl⟩
        rw [HNE.out]
        dsimp only
        refine hK.out _ _ (HF2.out.below) (fun hHeld => ?_)
        clear hK K
        try simp only [Act.put, List.setIfInBounds_toArray, List.set_cons_zero, List.set_cons_succ]
        refine wpAnyH_take (i := 7) (oi := { dst := some 35, op := Op.call { callee := Callee.builtin Builtin.max, args := #[Operand.tmp 32, Operand.tmp 34], argTypes := #[3, 3] }, type := 3, pos := "journal.go:121", after := #[{ on := 4, ground := Ground.data }, { on := 6, ground := Ground.data }], guard := none }) (v := ?v8n6) rfl (by kernel_rfl) (by kernel_rfl) (by kernel_rfl) (fun _ _ _ h => h) (Or.inl ⟨by rfl, ?hy8n6⟩) (by assumption) ?rest8n6
        case hy8n6 => (intro w hSw; (try dsimp only at hSw); go_simp <;> (try with_reducible rfl))
        try simp only [Act.put, List.setIfInBounds_toArray, List.set_cons_zero, List.set_cons_succ]
        refine wpAnyH_take (i := 8) (oi := { dst := some 36, op := Op.nilCheck (Operand.tmp 28), type := 0, pos := "journal.go:121", after := #[{ on := 0, ground := Ground.data }, { on := 0, ground := Ground.phase }, { on := 1, ground := Ground.phase }, { on := 2, ground := Ground.phase }, { on := 3, ground := Ground.phase }, { on := 4, ground := Ground.phase }, { on := 5, ground := Ground.phase }, { on := 6, ground := Ground.phase }, { on := 7, ground := Ground.phase }], guard := none }) (v := ?v8n7) rfl (by kernel_rfl) (by kernel_rfl) (by kernel_rfl) (fun _ _ _ h => h) (Or.inl ⟨by rfl, ?hy8n7⟩) (by assumption) ?rest8n7
        case hy8n7 => (intro w hSw; (try dsimp only at hSw); go_simp <;> (try with_reducible rfl))
        try simp only [Act.put, List.setIfInBounds_toArray, List.set_cons_zero, List.set_cons_succ]
        refine wpAnyH_take (i := 9) (oi := { dst := some 37, op := Op.fieldAddr 76 (Operand.tmp 36) 4, type := 0, pos := "journal.go:121", after := #[{ on := 8, ground := Ground.data }, { on := 0, ground := Ground.phase }, { on := 1, ground := Ground.phase }, { on := 2, ground := Ground.phase }, { on := 3, ground := Ground.phase }, { on := 4, ground := Ground.phase }, { on := 5, ground := Ground.phase }, { on := 6, ground := Ground.phase }, { on := 7, ground := Ground.phase }], guard := none }) (v := ?v8n8) rfl (by kernel_rfl) (by kernel_rfl) (by kernel_rfl) (fun _ _ _ h => h) (Or.inl ⟨by rfl, ?hy8n8⟩) (by assumption) ?rest8n8
        case hy8n8 => (intro w hSw; (try dsimp only at hSw); go_simp <;> (try with_reducible rfl))
        try simp only [Act.put, List.setIfInBounds_toArray, List.set_cons_zero, List.set_cons_succ]
        refine wpAnyH_ready (rs := [10]) (by kernel_rfl) (by simp) ?_
        refine AllReadyH.cons (o := { dst := none, op := Op.store 3 (Operand.tmp 37) (Operand.tmp 35), type := 0, pos := "journal.go:121", after := #[{ on := 9, ground := Ground.data }, { on := 7, ground := Ground.data }, { on := 6, ground := Ground.chain }, { on := 0, ground := Ground.phase }, { on := 1, ground := Ground.phase }, { on := 2, ground := Ground.phase }, { on := 3, ground := Ground.phase }, { on := 4, ground := Ground.phase }, { on := 5, ground := Ground.phase }, { on := 6, ground := Ground.phase }, { on := 7, ground := Ground.phase }], guard := none }) rfl (fun K hK => ?_) AllReadyH.nil
        refine wp_unit (exec_store rfl rfl rfl (store3 HC7.out HF7.out)) ?_
        refine hK.out _ _ (HF3.out.below) (fun hHeld => ?_)
        clear hK K
        try simp only [Act.put]
        refine wpAnyH_done (by kernel_rfl) ?_ _
        go_wp2_with fail
        go_roundw
        case rel => exact ⟨k + 1, HK.out, by go_num, HJ3.out, HF3.out⟩
        case measure => simp [intOf]; have := HK.out; omega
      · go_simp
        refine (number_any _ 4 4 _ _ HSL.out HL4.out (by decide)).mono ?_
        rintro r wz ⟨rfl, rfl⟩
        rw [HNE.out]
        dsimp only
        refine hK.out _ _ (HF2.out.below) (fun hHeld => ?_)
        clear hK K
        try simp only [Act.put, List.setIfInBounds_toArray, List.set_cons_zero, List.set_cons_succ]
        refine wpAnyH_ready (rs := [4]) (by kernel_rfl) (by simp) ?_
        refine AllReadyH.cons (o := { dst := some 32, op := Op.load 3 (Operand.tmp 31), type := 3, pos := "journal.go:121", after := #[{ on := 3, ground := Ground.data }], guard := none }) rfl (fun K hK => ?_) AllReadyH.nil
        refine wp_value (exec_load rfl rfl HLD.out) ?_
        refine hK.out _ _ (HF2.out.below) (fun hHeld => ?_)
        clear hK K
        try simp only [Act.put, List.setIfInBounds_toArray, List.set_cons_zero, List.set_cons_succ]
        refine wpAnyH_take (i := 7) (oi := { dst := some 35, op := Op.call { callee := Callee.builtin Builtin.max, args := #[Operand.tmp 32, Operand.tmp 34], argTypes := #[3, 3] }, type := 3, pos := "journal.go:121", after := #[{ on := 4, ground := Ground.data }, { on := 6, ground := Ground.data }], guard := none }) (v := ?v8n9) rfl (by kernel_rfl) (by kernel_rfl) (by kernel_rfl) (fun _ _ _ h => h) (Or.inl ⟨by rfl, ?hy8n9⟩) (by assumption) ?rest8n9
        case hy8n9 => (intro w hSw; (try dsimp only at hSw); go_simp <;> (try with_reducible rfl))
        try simp only [Act.put, List.setIfInBounds_toArray, List.set_cons_zero, List.set_cons_succ]
        refine wpAnyH_take (i := 8) (oi := { dst := some 36, op := Op.nilCheck (Operand.tmp 28), type := 0, pos := "journal.go:121", after := #[{ on := 0, ground := Ground.data }, { on := 0, ground := Ground.phase }, { on := 1, ground := Ground.phase }, { on := 2, ground := Ground.phase }, { on := 3, ground := Ground.phase }, { on := 4, ground := Ground.phase }, { on := 5, ground := Ground.phase }, { on := 6, ground := Ground.phase }, { on := 7, ground := Ground.phase }], guard := none }) (v := ?v8n10) rfl (by kernel_rfl) (by kernel_rfl) (by kernel_rfl) (fun _ _ _ h => h) (Or.inl ⟨by rfl, ?hy8n10⟩) (by assumption) ?rest8n10
        case hy8n10 => (intro w hSw; (try dsimp only at hSw); go_simp <;> (try with_reducible rfl))
        try simp only [Act.put, List.setIfInBounds_toArray, List.set_cons_zero, List.set_cons_succ]
        refine wpAnyH_take (i := 9) (oi := { dst := some 37, op := Op.fieldAddr 76 (Operand.tmp 36) 4, type := 0, pos := "journal.go:121", after := #[{ on := 8, ground := Ground.data }, { on := 0, ground := Ground.phase }, { on := 1, ground := Ground.phase }, { on := 2, ground := Ground.phase }, { on := 3, ground := Ground.phase }, { on := 4, ground := Ground.phase }, { on := 5, ground := Ground.phase }, { on := 6, ground := Ground.phase }, { on := 7, ground := Ground.phase }], guard := none }) (v := ?v8n11) rfl (by kernel_rfl) (by kernel_rfl) (by kernel_rfl) (fun _ _ _ h => h) (Or.inl ⟨by rfl, ?hy8n11⟩) (by assumption) ?rest8n11
        case hy8n11 => (intro w hSw; (try dsimp only at hSw); go_simp <;> (try with_reducible rfl))
        try simp only [Act.put, List.setIfInBounds_toArray, List.set_cons_zero, List.set_cons_succ]
        refine wpAnyH_ready (rs := [10]) (by kernel_rfl) (by simp) ?_
        refine AllReadyH.cons (o := { dst := none, op := Op.store 3 (Operand.tmp 37) (Operand.tmp 35), type := 0, pos := "journal.go:121", after := #[{ on := 9, ground := Ground.data }, { on := 7, ground := Ground.data }, { on := 6, ground := Ground.chain }, { on := 0, ground := Ground.phase }, { on := 1, ground := Ground.phase }, { on := 2, ground := Ground.phase }, { on := 3, ground := Ground.phase }, { on := 4, ground := Ground.phase }, { on := 5, ground := Ground.phase }, { on := 6, ground := Ground.phase }, { on := 7, ground := Ground.phase }], guard := none }) rfl (fun K hK => ?_) AllReadyH.nil
        refine wp_unit (exec_store rfl rfl rfl (store3 HC7.out HF7.out)) ?_
        refine hK.out _ _ (HF3.out.below) (fun hHeld => ?_)
        clear hK K
        try simp only [Act.put]
        refine wpAnyH_done (by kernel_rfl) ?_ _
        go_wp2_with fail
        go_roundw
        case rel => exact ⟨k + 1, HK.out, by go_num, HJ3.out, HF3.out⟩
        case measure => simp [intOf]; have := HK.out; omega
    · have hlti : ¬ (k : Int) < 2 * (n : Int) := by omega
      have hkn : k = 2 * n := by omega
      rw [hkn] at HJ
      have F0 := Lib.hid (FO.out 0 _ wr HJ.out HF.out HN.out.symm (Nat.zero_le _))
      have C1 := HJ.out.c1
      have c1 : wr.cell? ⟨g, 1, none⟩ = some (.int .i64 (n : Int)) := by rw [HN.out]; exact C1
      have HBW : Hid (base ≤ wr.heap.size) := Nat.le_trans HBS.out HF.out.size
      have HWW : Hid (w.heap.size ≤ wr.heap.size) := HF.out.size
      clear C1 hlt hk
      go_upto_region 11 with (go_at_call 45; refine F0.out.mono ?_; rintro e w1 ⟨v0, xs0, rfl, hr0, hb0⟩)
      obtain ⟨A0, k0, rfl, _⟩ := hr0.row.form
      have c1b : w1.cell? ⟨g, 1, none⟩ = some (.int .i64 (n : Int)) := by
        have := (HJ.out.below hb0).c1
        rw [HN.out]
        exact this
      obtain ⟨m0, hm0⟩ : ∃ m0, m0 = xs0.length := ⟨_, rfl⟩
      have HR0 := Lib.hid hr0
      have HM0 := Lib.hid hm0
      have HB0 := Lib.hid hb0
      rw [← hm0]
      clear hr0 hb0 hm0
      have HJ1 := Lib.hid (HJ.out.below HB0.out)
      have HF1 := Lib.hid (HF.out.trans (Fr.of_below HB0.out HBW.out))
      have F1 := Lib.hid (FO.out n _ w1 HJ1.out HF1.out HN.out.symm (Nat.le_refl _))
      have hx0 : m0 = (foundL (halfL S 0 n)).length := by rw [HM0.out]; exact HR0.out.rcd.1
      have HX0 := Lib.hid hx0
      clear hx0
      have hpb : pickB S n = (decide (m0 = 0) || decide (foundN (halfL S n n) > foundN (halfL S 0 n))) := by rw [HX0.out]; rfl
      have HPB := Lib.hid hpb
      clear hpb c1
      go_upto_region 12 with (go_at_call 45; refine F1.out.mono ?_; rintro e w2 ⟨v1, xs1, rfl, hr1, hb1⟩)
      obtain ⟨A1, k1, rfl, _⟩ := hr1.row.form
      obtain ⟨m1, hm1⟩ : ∃ m1, m1 = xs1.length := ⟨_, rfl⟩
      have HJ2 := Lib.hid (HJ1.out.below hb1)
      have HF2 := Lib.hid (HF1.out.trans (Fr.of_below hb1 (Nat.le_trans HBW.out HB0.out.size)))
      have HS1 : Hid (w.heap.size ≤ w1.heap.size) := Nat.le_trans HWW.out HB0.out.size
      have HR0b := Lib.hid ((HR0.out.below hb1).down HWW.out)
      have HR1b := Lib.hid (hr1.down HS1.out)
      rw [← HM0.out] at HR0b
      rw [← hm1] at HR1b ⊢
      have HLJ : Hid (lookJ S j = { j with last := lastU S (2 * n), free := lookF S n }) := by show _ = _; unfold lookJ; rw [HN.out]
      generalize hl0 : foundL (halfL S 0 n) = L0 at *
      generalize hl1 : foundL (halfL S n n) = L1 at *
      have c6 := HJ2.out.c6
      have f6 := HJ2.out.frozen 6
      have c1c : w2.cell? ⟨g, 1, none⟩ = some (.int .i64 (n : Int)) := by
        have := HJ2.out.c1
        rw [HN.out]
        exact this
      have HA0 : Hid (pickB S n = true → LookPost w base g dg (lookJ S j) (lookL S n) (.returned (.slice A1 m1 k1)) (w2.setCell ⟨g, 6, none⟩ (.int .i64 0))) := by
        intro hp
        rw [HLJ.out, show lookF S n = 0 by simp [lookF, hp], show lookL S n = L1 by simp [lookL, hp, hl1]]
        have hf : Fr [] [g] base w2 (w2.setCell ⟨g, 6, none⟩ (.int .i64 0)) := (Fr.refl _ _ _ _).set HJ2.out (.inr (by simp)) HBG.out _
        exact ⟨_, xs1, rfl, ⟨HR1b.out.row.fr hf (by simp) (fun i hi => by simp at hi; subst hi; exact ⟨_, HJ2.out, by simp [kd]⟩), HR1b.out.rcd.1, fun k x r e1 e2 => (HR1b.out.rcd.2 k x r e1 e2).fr hf (by simp) (fun i hi => by simp at hi; subst hi; exact ⟨_, HJ2.out, by simp [kd]⟩)⟩, HJ2.out.set6 0, HF2.out.trans hf⟩
      have HA1 : Hid (pickB S n = false → LookPost w base g dg (lookJ S j) (lookL S n) (.returned (.slice A0 m0 k0)) (w2.setCell ⟨g, 6, none⟩ (.int .i64 (n : Int)))) := by
        intro hp
        rw [HLJ.out, show lookF S n = n by simp [lookF, hp], show lookL S n = L0 by simp [lookL, hp, hl0]]
        have hf : Fr [] [g] base w2 (w2.setCell ⟨g, 6, none⟩ (.int .i64 (n : Int))) := (Fr.refl _ _ _ _).set HJ2.out (.inr (by simp)) HBG.out _
        exact ⟨_, xs0, rfl, ⟨HR0b.out.row.fr hf (by simp) (fun i hi => by simp at hi; subst hi; exact ⟨_, HJ2.out, by simp [kd]⟩), HR0b.out.rcd.1, fun k x r e1 e2 => (HR0b.out.rcd.2 k x r e1 e2).fr hf (by simp) (fun i hi => by simp at hi; subst hi; exact ⟨_, HJ2.out, by simp [kd]⟩)⟩, HJ2.out.set6 n, HF2.out.trans hf⟩
      generalize foundN (halfL S 0 n) = a0 at *
      generalize foundN (halfL S n n) = a1 at *
      clear hr1 hb1 hm1 c1b hl0 hl1
      by_cases h0 : m0 = 0
      · have hp : pickB S n = true := by rw [HPB.out]; simp [h0]
        have HE := Lib.hid (HA0.out hp)
        have h0b : ((m0 : Int) == 0) = true := by simp [h0]
        clear hp h0 HA0 HA1 HPB
        go_wp2_with fail
        go_ret
        exact HE.out
      · have h0b : ((m0 : Int) == 0) = false := by simp; omega
        by_cases h1 : a1 > a0
        · have hp : pickB S n = true := by rw [HPB.out]; simp [h1]
          have HE := Lib.hid (HA0.out hp)
          have h1i : (a0 : Int) < (a1 : Int) := by omega
          clear hp h0 h1 HA0 HA1 HPB
          go_wp2_with fail
          go_ret
          exact HE.out
        · have hp : pickB S n = false := by rw [HPB.out]; simp [h0]; omega
          have HE := Lib.hid (HA1.out hp)
          have h1i : ¬ (a0 : Int) < (a1 : Int) := by omega
          clear hp h0 h1 HA0 HA1 HPB
          go_wp2_with fail
          go_ret
          exact HE.out
end Go.Proofs.Ytppdckncnfffcaa
