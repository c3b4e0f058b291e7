/-
  A ring in memory. The contracts of slices.Clone, New and Nodes. Their conditions: the ring, and what is handed in, lies in memory.
-/
import Derived.Test.YtnbgmobcfbgenaaGreatDoorW4
import Derived.Lib.SliceRun
namespace Go.Proofs.YtnbgmobcfbgenaaGreatDoor
open Go.RowKit Go.Maps
open Go.Sort (grow)

/-- Texts that lie in memory which is there. -/
def Sized (l : List ByteArray) : Prop := ∀ a ∈ l, a.size ≤ 140737488351232
theorem Sized.take {l : List ByteArray} (h : Sized l) (k : Nat) : Sized (l.take k) := fun a ha => h a (List.mem_of_mem_take ha)
/-- A ring's own block. -/
def Box (w : World) (g : Nat) (v : Value) (d s : Int) (p : Value) : Prop := w.heap[g]? = some (.cells #[v, .int .u32 d, .int .i32 s, .int .u32 0, p] 51 (0, 0))
section
variable {w w' : World} {g : Nat} {v p : Value} {d s : Int} {l ms : List Nat} {base : Nat}
theorem Box.lt (h : Box w g v d s p) : g < w.heap.size := lt_of_heap h
theorem Box.c0 (h : Box w g v d s p) : w.cell? ⟨g, 0, none⟩ = some v := by simp [World.cell?, show w.heap[g]? = _ from h]
theorem Box.c1 (h : Box w g v d s p) : w.cell? ⟨g, 1, none⟩ = some (.int .u32 d) := by simp [World.cell?, show w.heap[g]? = _ from h]
theorem Box.c2 (h : Box w g v d s p) : w.cell? ⟨g, 2, none⟩ = some (.int .i32 s) := by simp [World.cell?, show w.heap[g]? = _ from h]
theorem Box.c4 (h : Box w g v d s p) : w.cell? ⟨g, 4, none⟩ = some p := by simp [World.cell?, show w.heap[g]? = _ from h]
theorem Box.frozen (h : Box w g v d s p) (o : Nat) : w.frozen? ⟨g, o, none⟩ = false := by simp [World.frozen?, show w.heap[g]? = _ from h]
theorem Box.set0 (h : Box w g v d s p) (x : Value) : Box (w.setCell ⟨g, 0, none⟩ x) g x d s p := by
  unfold Box at h ⊢
  simp [World.setCell, Array.getElem?_modify, h]
theorem Box.set1 (h : Box w g v d s p) (x : Int) : Box (w.setCell ⟨g, 1, none⟩ (.int .u32 x)) g v x s p := by
  unfold Box at h ⊢
  simp [World.setCell, Array.getElem?_modify, h]
theorem Box.set2 (h : Box w g v d s p) (x : Int) : Box (w.setCell ⟨g, 2, none⟩ (.int .i32 x)) g v d x p := by
  unfold Box at h ⊢
  simp [World.setCell, Array.getElem?_modify, h]
theorem Box.set4 (h : Box w g v d s p) (x : Value) : Box (w.setCell ⟨g, 4, none⟩ x) g v d s x := by
  unfold Box at h ⊢
  simp [World.setCell, Array.getElem?_modify, h]
theorem Box.below (h : Box w g v d s p) (hb : Below w.heap.size w w') : Box w' g v d s p := (hb.block g h.lt).trans h
theorem Box.fr (h : Box w g v d s p) (hf : Fr l ms base w w') (hl : 51 ∉ l) (hm : g ∉ ms) : Box w' g v d s p := hf.keep g _ h hl hm
theorem Box.setFr (h : Box w g v d s p) (hb : base ≤ g) (o : Nat) (x : Value) : Fr [] [g] base w (w.setCell ⟨g, o, none⟩ x) := (Fr.refl _ _ _ _).set h (.inr (by simp)) hb x
end
/-- A step that writes a row's own block. -/
theorem Fr.own {α : Type} {E : Enc α} {e : TypeId} {w w' : World} {base : Nat} {v : Value} {l : List α} (h : RowT E e w base v l) (hg : w.grownBy w' v.ownBlock) (hb : base ≤ w.heap.size) : Fr [e] [] base w w' := by
  cases hv : v.ownBlock with
  | none =>
    rw [hv] at hg
    exact Fr.of_below (Below.of_none hg) hb
  | some k =>
    rw [hv] at hg
    obtain ⟨h1, cs, h2⟩ := h.own hv
    exact (Fr.refl _ _ _ _).grown hg h2 (.inl (by simp [kd])) h1
/-- slices.Sort at a row of the call's own. -/
theorem sort_any {w : World} {base : Nat} {v : Value} {V : List ByteArray} (h : RowT eKy 9 w base v V) (hn : V.Nodup) (hl : V.length ≤ 100000) (hb : base ≤ w.heap.size) :
    Calls Tryz.prog 17 #[v] w fun r w' => r = .returned (.tuple #[]) ∧ RowT eKy 9 w' base v (srt V) ∧ Fr [9] [] base w w' := by
  have hs := (nodup_eq (krises_srt hn).nodup hn fun _ => mem_srt)
  rcases h.2 with ⟨rfl, hz⟩ | ⟨g, cap, cur, rfl, _⟩
  · have hV : V = [] := List.eq_nil_of_length_eq_zero hz
    subst hV
    refine (sort_none w).mono ?_
    rintro r w' ⟨rfl, rfl⟩
    exact ⟨rfl, RowT.nil _, Fr.refl _ _ _ _⟩
  · have hk := h.own (k := g) rfl
    obtain ⟨_, cs, hcs⟩ := hk
    refine (sort_row h hn hl).mono ?_
    rintro r w' ⟨rfl, h1, h2, h3⟩
    exact ⟨rfl, h1, (Fr.refl _ _ _ _).grown h2 hcs (.inl (by simp [kd])) h3⟩
/-- slices.SortFunc at a row of the call's own. -/
theorem sortp_any {w : World} {base : Nat} {v : Value} {V : List Pt} (h : RowT ePt 59 w base v V) (hl : V.length ≤ 100000) :
    Calls Tryz.prog 49 #[v, .func (.func 50) #[] #[]] w fun r w' => r = .returned (.tuple #[]) ∧ RowT ePt 59 w' base v (sortP V) ∧ Fr [59] [] base w w' := by
  rcases h.2 with ⟨rfl, hz⟩ | ⟨g, cap, cur, rfl, _⟩
  · have hV : V = [] := List.eq_nil_of_length_eq_zero hz
    subst hV
    refine (sort_pts_none w).mono ?_
    rintro r w' ⟨rfl, rfl⟩
    have e : sortP [] = [] := by simp [sortP]
    rw [e]
    exact ⟨rfl, RowT.nil _, Fr.refl _ _ _ _⟩
  · have hk := h.own (k := g) rfl
    obtain ⟨_, cs, hcs⟩ := hk
    refine (sort_pts h hl).mono ?_
    rintro r w' ⟨rfl, h1, h2, h3⟩
    exact ⟨rfl, h1, (Fr.refl _ _ _ _).grown h2 hcs (.inl (by simp [kd])) h3⟩

/-- A ring of the nodes S, in block g. -/
structure RingAt (w : World) (base g : Nat) (S : List ByteArray) : Prop where
  box : ∃ v d p, Box w g v d 0 p ∧ RowT eKy 9 w base v S ∧ ((d = 0 ∧ p = .slice none 0 0) ∨ (d = 1 ∧ RowT ePt 59 w base p (laidP S)))
  bg : base ≤ g
  rs : KRises S
  len : S.length ≤ 8
  sz : Sized S
section
variable {w w' : World} {base base' g : Nat} {S : List ByteArray} {ms : List Nat}
theorem RingAt.kind (h : RingAt w base g S) : ∃ o, w.heap[g]? = some o ∧ kd o = 51 := by
  obtain ⟨v, d, p, hb, _⟩ := h.box
  exact ⟨_, hb, rfl⟩
theorem RingAt.lt (h : RingAt w base g S) : g < w.heap.size := by
  obtain ⟨o, ho, _⟩ := h.kind
  exact lt_of_heap ho
theorem RingAt.below (h : RingAt w base g S) (hb : Below w.heap.size w w') : RingAt w' base g S := by
  obtain ⟨v, d, p, h1, h2, h3⟩ := h.box
  exact ⟨⟨v, d, p, h1.below hb, h2.below hb, h3.imp id fun h => ⟨h.1, h.2.below hb⟩⟩, h.bg, h.rs, h.len, h.sz⟩
theorem RingAt.fr (h : RingAt w base g S) (hf : Fr [] ms base' w w') (hm : g ∉ ms) (hk : ∀ i ∈ ms, ∃ o, w.heap[i]? = some o ∧ kd o = 51) : RingAt w' base g S := by
  obtain ⟨v, d, p, h1, h2, h3⟩ := h.box
  have k1 : ∀ i ∈ ms, ∃ o, w.heap[i]? = some o ∧ kd o ≠ 9 := fun i hi => by
    obtain ⟨o, ho, e⟩ := hk i hi
    exact ⟨o, ho, by rw [e]; decide⟩
  have k2 : ∀ i ∈ ms, ∃ o, w.heap[i]? = some o ∧ kd o ≠ 59 := fun i hi => by
    obtain ⟨o, ho, e⟩ := hk i hi
    exact ⟨o, ho, by rw [e]; decide⟩
  exact ⟨⟨v, d, p, h1.fr hf (by simp) hm, h2.fr hf (by simp) k1, h3.imp id fun h => ⟨h.1, h.2.fr hf (by simp) k2⟩⟩, h.bg, h.rs, h.len, h.sz⟩
theorem RingAt.down (h : RingAt w base g S) (hb : base' ≤ base) : RingAt w base' g S := by
  obtain ⟨v, d, p, h1, h2, h3⟩ := h.box
  exact ⟨⟨v, d, p, h1, h2.down hb, h3.imp id fun h => ⟨h.1, h.2.down hb⟩⟩, Nat.le_trans hb h.bg, h.rs, h.len, h.sz⟩
/-- A row that was there stays, whatever a ring does. -/
theorem RowT.ring {e : TypeId} {α : Type} {E : Enc α} {v : Value} {l : List α} (h : RowT E e w base v l) (hf : Fr [] ms base' w w') (hk : ∀ i ∈ ms, ∃ o, w.heap[i]? = some o ∧ kd o = 51) (he : 51 ≠ e) : RowT E e w' base v l :=
  h.fr hf (by simp) fun i hi => by
    obtain ⟨o, ho, e2⟩ := hk i hi
    exact ⟨o, ho, by rw [e2]; exact he⟩
theorem RingAt.kinds (h : RingAt w base g S) : ∀ i ∈ [g], ∃ o, w.heap[i]? = some o ∧ kd o = 51 := fun i hi => by
  rw [List.mem_singleton.mp hi]
  exact h.kind
end

/-! ### New -/
/-- A ring under way. -/
structure NewI (l : List ByteArray) (w : World) (k : Nat) (v : Value) (wr : World) : Prop where
  row : RowT eKy 9 wr w.heap.size v (uniq8 (l.take k))
  box : Box wr w.heap.size v 0 0 (.slice none 0 0)
  bel : Below w.heap.size w wr
theorem NewI.init (l : List ByteArray) (w : World) : NewI l w 0 (.slice none 0 0) (w.alloc (.cells #[.slice none 0 0, .int .u32 0, .int .i32 0, .int .u32 0, .slice none 0 0] 51)) :=
  ⟨RowT.nil _, heap_new _ _, (Below.refl _ _).alloc (Nat.le_refl _) _⟩
theorem NewI.add {l : List ByteArray} {w wr : World} {k : Nat} {v : Value} (h : NewI l w k v wr) {x : ByteArray} (hx : uniq8 (l.take (k + 1)) = uniq8 (l.take k) ++ [x]) (h8 : (uniq8 (l.take k)).length ≤ 8) :
    ∃ v' W', (Builtin.append_ #[22, 22] 22 #[v, .slice (some ⟨wr.heap.size, 0, none⟩) 1 1]).run Tryz.prog (wr.alloc (.cells #[.string x] 9)) = .ok v' W' ∧ W'.cell? ⟨w.heap.size, 0, none⟩ = some v ∧ W'.frozen? ⟨w.heap.size, 0, none⟩ = false ∧ NewI l w (k + 1) v' (W'.setCell ⟨w.heap.size, 0, none⟩ v') := by
  have b3 : Below wr.heap.size wr (wr.alloc (.cells #[.string x] 9)) := (Below.refl _ _).alloc (Nat.le_refl _) _
  have hbs := h.bel.size
  have row3 := h.row.below b3
  obtain ⟨v', W', hrun, ho', hg'⟩ := row3.app elS (Nat.le_trans hbs b3.size) (sl_one (E := eKy) wr x 9) (n := 1) (c := 1) rfl (by simp) (by omega)
  have F1 := Fr.own row3 hg' (Nat.le_trans hbs b3.size)
  have bx := (h.box.below b3).fr F1 (by decide) (by simp)
  have F2 := bx.setFr (Nat.le_refl _) 0 v'
  refine ⟨v', W', hrun, bx.c0, bx.frozen 0, ?_, bx.set0 v', ?_⟩
  · rw [hx]
    exact ho'.fr F2 (by simp) fun i hi => by
      rw [List.mem_singleton.mp hi]
      exact ⟨_, bx, show (51 : Nat) ≠ 9 by decide⟩
  · exact ((h.bel.trans (b3.mono hbs)).trans F1.below).trans F2.below
theorem NewI.done {l : List ByteArray} {w w3 wr : World} {k : Nat} {v : Value} (h : NewI l w k v wr) (he : uniq8 l = uniq8 (l.take k)) (hz : Sized l) (hrow : RowT eKy 9 w3 w.heap.size v (srt (uniq8 (l.take k)))) (hf : Fr [9] [] w.heap.size wr w3) :
    ∃ g, Ending.returned (Value.pointer (some ⟨w.heap.size, 0, none⟩)) = .returned (.pointer (some ⟨g, 0, none⟩)) ∧ RingAt w3 w.heap.size g (nodesOf l) ∧ Below w.heap.size w w3 := by
  refine ⟨w.heap.size, rfl, ⟨⟨v, 0, _, h.box.fr hf (by decide) (by simp), ?_, .inl ⟨rfl, rfl⟩⟩, Nat.le_refl _, nodesOf_krises _, nodesOf_len _, fun a ha => hz a (uniq8_sub (mem_nodesOf.mp ha))⟩, h.bel.trans hf.below⟩
  unfold nodesOf
  rw [he]
  exact hrow
set_option maxHeartbeats 4000000 in
theorem new_any (l : List ByteArray) (A : Option Addr) (n c : Nat) (w : World) (hs : Sl eKy w A l) (hn : l.length = n) (hz : Sized l) :
    Calls Tryz.prog 7 #[.slice A n c] w fun r w' => ∃ g, r = .returned (.pointer (some ⟨g, 0, none⟩)) ∧ RingAt w' w.heap.size g (nodesOf l) ∧ Below w.heap.size w w' := by
  have hnM : (n : Int) ≤ 9223372036854775807 := by have := hs.1; unfold maxLen at this; omega
  have H := Lib.hid hs
  have HN := Lib.hid hn
  have HZ := Lib.hid hz
  have HI0 := Lib.hid (NewI.init l w)
  clear hs hn hz
  go_enter Tryz.func7, Tryz.ntmps7
  go_wp2
  go_loopw [10] (fun s10 wr => ∃ (k : Nat) (v : Value), k ≤ n ∧ s10 = .int .i64 (k : Int) ∧ NewI l w k v wr) (fun i _ => n - (intOf i).toNat)
  case atStart => exact ⟨0, _, Nat.zero_le _, rfl, HI0.out⟩
  case round =>
    obtain ⟨k, v, hk, rfl, hi⟩ := hrel
    have HI := Lib.hid hi
    have hm8 := uniq8_len (l.take k)
    have HM := Lib.hid hm8
    have c0 := hi.box.c0
    obtain ⟨A', c', hv, hform⟩ := hi.row.form
    have CS := Lib.hid (sort_any hi.row (uniq8_nodup _) (by omega) hi.bel.size)
    have HV := Lib.hid hv
    clear hi HI0 hform
    obtain ⟨m, hm⟩ : ∃ m, m = (uniq8 (l.take k)).length := ⟨_, rfl⟩
    rw [← hm] at hv hm8
    have HL := Lib.hid hm
    clear hm
    by_cases hlt : k < n
    · have hkl : k < l.length := by rw [HN.out]; exact hlt
      obtain ⟨b, off, rfl, _, d0⟩ := at_ky (H.out.below (Nat.le_refl _) HI.out.bel) hkl
      have hlti : (k : Int) < (n : Int) := by omega
      have hk0 : (0 : Int) ≤ (k : Int) := by omega
      have HT := Lib.hid (uniq8_take hkl)
      have HK : Hid (k + 1 ≤ n) := hlt
      generalize l[k] = x at d0 HT
      by_cases h8 : m = 8
      · have h81 : ((m : Int) == 8) = true := by rw [h8]; rfl
        have h82 : decide ((m : Int) = 8) = true := decide_eq_true (by omega)
        have HE := Lib.hid (uniq8_full (by rw [← HL.out]; exact h8))
        clear h8 hkl hk
        rw [hv] at c0 CS
        go_wp2_with fail
        refine CS.out.mono ?_
        rintro r w3 ⟨rfl, row3, f3⟩
        have HD := Lib.hid (HI.out.done HE.out HZ.out (by rw [hv]; exact row3) f3)
        clear row3 f3
        go_wp2
        go_ret
        exact HD.out
      · have h81 : ((m : Int) == 8) = false := by rw [beq_eq_false_iff_ne]; omega
        have h82 : decide ((m : Int) = 8) = false := decide_eq_false (by omega)
        obtain ⟨A2, c2, e2, sl2, _⟩ := HI.out.row.sl (by unfold maxLen; have := HM.out; omega)
        have e3 : A2 = A' ∧ c2 = c' := by
          rw [e2] at hv
          rw [← HL.out] at hv
          cases hv
          exact ⟨rfl, rfl⟩
        obtain ⟨rfl, rfl⟩ := e3
        have CC := Lib.hid (contains_any _ A2 m c2 x wr sl2 HL.out.symm)
        have H8 := Lib.hid h8
        clear h8 hkl hk e2 sl2
        by_cases hx : x ∈ uniq8 (l.take k)
        · rw [decide_eq_true hx] at CC
          have HX : Hid (uniq8 (l.take (k + 1)) = uniq8 (l.take k)) := by
            show _ = _
            rw [HT.out]
            unfold add1
            rw [← HL.out, if_neg H8.out, if_pos hx]
          clear hx CS
          rw [hv] at c0
          go_wp2_with fail
          refine CC.out.mono ?_
          rintro r w3 ⟨rfl, rfl⟩
          go_wp2
          go_roundw
          case rel => exact ⟨k + 1, v, HK.out, by go_num, by have h := HI.out; exact ⟨by rw [HX.out]; exact h.row, h.box, h.bel⟩⟩
          case measure => simp [intOf]; omega
        · rw [decide_eq_false hx] at CC
          have HX : Hid (uniq8 (l.take (k + 1)) = uniq8 (l.take k) ++ [x]) := by
            show _ = _
            rw [HT.out]
            unfold add1
            rw [← HL.out, if_neg H8.out, if_neg hx]
          clear hx CS
          obtain ⟨v', W', hrun, e0, ez, hi'⟩ := HI.out.add HX.out HM.out
          obtain ⟨A3, c3, hv3, _⟩ := hi'.row.form
          have HI' := Lib.hid hi'
          rw [hv] at c0 hrun
          have R1 := Lib.hid hrun
          clear hrun hi'
          go_wp2_with (first | (go_at_call 16; refine CC.out.mono ?_; rintro r w3 ⟨rfl, rfl⟩) | (at_builtin; refine wpList_append_run rfl _ _ 22 22 rfl _ _ rfl rfl _ W' R1.out ?_))
          go_roundw
          case rel => exact ⟨k + 1, _, HK.out, by go_num, by have h := HI'.out; rw [hv3] at h; exact h⟩
          case measure => simp [intOf]; omega
    · have hlti : ¬ (k : Int) < (n : Int) := by omega
      have HE : Hid (uniq8 l = uniq8 (l.take k)) := by show _ = _; rw [List.take_of_length_le (by rw [HN.out]; omega)]
      clear hk hlt
      rw [hv] at c0 CS
      go_wp2_with fail
      refine CS.out.mono ?_
      rintro r w3 ⟨rfl, row3, f3⟩
      have HD := Lib.hid (HI.out.done HE.out HZ.out (by rw [hv]; exact row3) f3)
      clear row3 f3
      go_wp2
      go_ret
      exact HD.out

/-! ### Nodes -/
set_option maxHeartbeats 2000000 in
theorem clone_any (l : List ByteArray) (v : Value) (base : Nat) (w : World) (h : RowT eKy 9 w base v l) (hl : l.length ≤ 1000) :
    Calls Tryz.prog 23 #[v] w fun r w' => ∃ v', r = .returned v' ∧ RowT eKy 9 w' w.heap.size v' l ∧ Below w.heap.size w w' := by
  obtain ⟨A, c, rfl, sl, _, hA, _⟩ := h.sl (by unfold maxLen; omega)
  cases A with
  | none =>
    have e : l = [] := by
      cases l with
      | nil => rfl
      | cons x r => obtain ⟨b, off, hb, _⟩ := sl.2 (by simp); cases hb
    subst e
    have hc := hA rfl
    subst hc
    clear h sl hA hl
    show Calls Tryz.prog 23 #[.slice none 0 0] w _
    have kn := Lib.run_eql_slice_nil (P := Tryz.prog) w 22 9 none 0 0 0 0 Tryz.underlying22
    go_enter Tryz.func23, Tryz.ntmps23
    go_wp2
    go_ret
    exact ⟨_, rfl, RowT.nil _, Below.refl _ _⟩
  | some ad =>
    have b1 : Below w.heap.size w (w.alloc (.cells #[] 9)) := (Below.refl _ _).alloc (Nat.le_refl _) _
    obtain ⟨v', W', hrun, hrow, hb⟩ := (RowT.empty (E := eKy) (e := 9) w).grow elS rfl b1 (sl.below (Nat.le_refl _) b1) rfl (c := c) (by simp) (by simp; omega)
    rw [List.nil_append] at hrow
    obtain ⟨A3, c3, rfl, _⟩ := hrow.form
    have R1 := Lib.hid hrun
    have HR := Lib.hid hrow
    have HB := Lib.hid hb
    obtain ⟨n, hn⟩ : ∃ n, n = l.length := ⟨_, rfl⟩
    rw [← hn] at R1 HR ⊢
    clear h sl hA hl hrun hrow hb b1 hn
    have kn := Lib.run_eql_slice_nil (P := Tryz.prog) w 22 9 (some ad) n c 0 0 Tryz.underlying22
    go_enter Tryz.func23, Tryz.ntmps23
    go_wp2_with (at_builtin; refine wpList_append_run rfl _ _ 22 22 rfl _ _ rfl rfl _ W' R1.out ?_)
    go_ret
    exact ⟨_, rfl, HR.out, HB.out⟩
theorem nodes_any (base g : Nat) (S : List ByteArray) (w : World) (h : RingAt w base g S) :
    Calls Tryz.prog 11 #[.pointer (some ⟨g, 0, none⟩)] w fun r w' => ∃ v', r = .returned v' ∧ RowT eKy 9 w' w.heap.size v' S ∧ Below w.heap.size w w' := by
  obtain ⟨v, d, p, hb, hrow, _⟩ := h.box
  have c0 := hb.c0
  have hl := h.len
  have C := Lib.hid (clone_any S v base w hrow (by omega))
  clear h hrow hb hl
  go_enter Tryz.func11, Tryz.ntmps11
  go_wp2_with fail
  refine C.out.mono ?_
  rintro r w1 ⟨v', rfl, h1, h2⟩
  have H1 := Lib.hid h1
  have H2 := Lib.hid h2
  clear h1 h2 C
  go_wp2
  go_ret
  exact ⟨_, rfl, H1.out, H2.out⟩
theorem nodes_nil (w : World) : Calls Tryz.prog 11 #[.pointer none] w fun r w' => r = .returned (.slice none 0 0) ∧ w = w' := by
  go_enter Tryz.func11, Tryz.ntmps11
  go_wp2
  go_ret
  exact ⟨rfl, rfl⟩
end Go.Proofs.YtnbgmobcfbgenaaGreatDoor
