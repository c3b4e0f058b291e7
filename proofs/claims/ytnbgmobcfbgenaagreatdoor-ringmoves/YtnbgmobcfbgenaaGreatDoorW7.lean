/-
  The contracts of sync.Once's Do at lay, of laid, and of the search for a point. Their conditions: the ring, or the points, lie in memory.
-/
import Derived.Test.YtnbgmobcfbgenaaGreatDoorW6
namespace Go.Proofs.YtnbgmobcfbgenaaGreatDoor
open Go.RowKit Go.Maps
open Go.Sort (grow)

/-- What Do leaves: a ring whose points are laid. -/
structure DoneI (w : World) (base g : Nat) (v : Value) (S : List ByteArray) (wr : World) : Prop where
  out : ∃ p, Box wr g v 1 0 p ∧ RowT eKy 9 wr base v S ∧ RowT ePt 59 wr w.heap.size p (laidP S)
  fr : Fr [] [g] base w wr
set_option maxRecDepth 100000 in
set_option maxHeartbeats 4000000 in
theorem slow_any (base g : Nat) (v : Value) (S : List ByteArray) (w : World) (hb : Box w g v 0 0 (.slice none 0 0)) (hrow : RowT eKy 9 w base v S) (hbs : base ≤ w.heap.size) (hbg : base ≤ g) (h8 : S.length ≤ 8) (hz : Sized S) :
    Calls Tryz.prog 47 #[.pointer (some ⟨g, 1, none⟩), .func (.func 30) #[.pointer (some ⟨g, 0, none⟩)] #[]] w fun r w' => r = .returned (.tuple #[]) ∧ DoneI w base g v S w' := by
  have b1 := hb.set2 1
  have F1 := hb.setFr hbg 2 (.int .i32 1)
  have hk : ∀ i ∈ [g], ∃ o, w.heap[i]? = some o ∧ kd o = 51 := fun i hi => by
    rw [List.mem_singleton.mp hi]
    exact ⟨_, hb, rfl⟩
  have CL := Lib.hid (lock_free ⟨g, 2, none⟩ w hb.c2 (hb.frozen 2))
  have hs1 : w.heap.size ≤ (w.setCell ⟨g, 2, none⟩ (.int .i32 1)).heap.size := F1.size
  have CY := Lib.hid (lay_any base g 1 v S _ b1 (hrow.ring F1 hk (by decide)) (Nat.le_trans hbs hs1) hbg h8 hz)
  have hl := run_call_load (P := Tryz.prog) Tryz.func58 (by kernel_rfl) (by kernel_rfl) (by kernel_rfl) .u32 (by kernel_rfl) b1.c1
  have hnot : ∀ (x : Bool) (w : World), (Op.unary .not (.bool x)).run Tryz.prog w = .ok (.bool (!x)) w := fun _ _ => rfl
  have HBG := Lib.hid hbg
  have HF1 := Lib.hid F1
  have HS1 := Lib.hid hs1
  clear hb hrow hbs hbg h8 hz b1 F1 hk hs1
  go_enter_defers Tryz.func47, Tryz.ntmps47
  go_wp2_with (first | (go_at_call 59; refine CL.out.mono ?_; rintro e w' ⟨rfl, rfl⟩) | (go_at_call 46; go_in))
  refine CY.out.mono ?_
  rintro r w2 ⟨p, rfl, hI⟩
  have HI := Lib.hid hI
  clear hI CY CL hl
  go_wp2
  have c1 := HI.out.box.c1
  have z1 := HI.out.box.frozen 1
  have B3 := (HI.out.drew.box).set1 1
  have F3 := (HI.out.drew.box).setFr HBG.out 1 (.int .u32 1)
  have B4 := B3.set2 0
  have F4 := B3.setFr HBG.out 2 (.int .i32 0)
  refine leaves_cons (f := 61) (args := #[.pointer (some ⟨g, 1, none⟩), .bool true]) (by simp) (by simp [go_sem]) ?_
  refine (store_deferred ⟨g, 1, none⟩ (.int .u32 0) .returning _ c1 z1).mono ?_
  rintro e u' w'' ⟨rfl, rfl, rfl⟩
  refine leaves_cons (f := 60) (args := #[.pointer (some ⟨g, 2, none⟩)]) (by simp [settle]) (by simp [go_sem]) ?_
  refine (unlock_deferred ⟨g, 2, none⟩ _ _ B3.c2 (B3.frozen 2)).mono ?_
  rintro e u' w'' ⟨rfl, rfl, rfl⟩
  have hk3 : ∀ i ∈ [g], ∃ o, w2.drew.heap[i]? = some o ∧ kd o = 51 := HI.out.drew.kinds
  have hk4 : ∀ i ∈ [g], ∃ o, (w2.drew.setCell ⟨g, 1, none⟩ (.int .u32 1)).heap[i]? = some o ∧ kd o = 51 := fun i hi => by
    rw [List.mem_singleton.mp hi]
    exact ⟨_, B3, rfl⟩
  have HD : Hid (DoneI w base g v S ((w2.drew.setCell ⟨g, 1, none⟩ (.int .u32 1)).setCell ⟨g, 2, none⟩ (.int .i32 0))) := by
    refine ⟨⟨p, B4, ((HI.out.drew.nodes).ring F3 hk3 (by decide)).ring F4 hk4 (by decide), (((HI.out.drew.row).ring F3 hk3 (by decide)).ring F4 hk4 (by decide)).down HS1.out⟩, ((HF1.out.trans HI.out.drew.fr).trans F3).trans F4⟩
  clear B3 B4 F3 F4 hk3 hk4 c1 z1
  simp [Leaves, settle, results, Tryz.results47]
  exact HD.out
set_option maxRecDepth 100000 in
set_option maxHeartbeats 4000000 in
theorem do_first (base g : Nat) (v : Value) (S : List ByteArray) (w : World) (hb : Box w g v 0 0 (.slice none 0 0)) (hrow : RowT eKy 9 w base v S) (hbs : base ≤ w.heap.size) (hbg : base ≤ g) (h8 : S.length ≤ 8) (hz : Sized S) :
    Calls Tryz.prog 29 #[.pointer (some ⟨g, 1, none⟩), .func (.func 30) #[.pointer (some ⟨g, 0, none⟩)] #[]] w fun r w' => r = .returned (.tuple #[]) ∧ DoneI w base g v S w' := by
  have C := Lib.hid (slow_any base g v S w hb hrow hbs hbg h8 hz)
  have hl := run_call_load (P := Tryz.prog) Tryz.func58 (by kernel_rfl) (by kernel_rfl) (by kernel_rfl) .u32 (by kernel_rfl) hb.c1
  have hnot : ∀ (x : Bool) (w : World), (Op.unary .not (.bool x)).run Tryz.prog w = .ok (.bool (!x)) w := fun _ _ => rfl
  clear hb hrow hbs hbg h8 hz
  go_enter Tryz.func29, Tryz.ntmps29
  go_wp2_with (first | (go_at_call 47; refine C.out.mono ?_; rintro e w' ⟨rfl, hd⟩; have HD := Lib.hid hd; clear hd) | (go_at_call 46; go_in))
  go_end0
  exact ⟨rfl, HD.out⟩
set_option maxHeartbeats 4000000 in
/-- A ring's points, laid when they are first asked for. -/
theorem laid_any (base g : Nat) (S : List ByteArray) (w : World) (h : RingAt w base g S) (hbs : base ≤ w.heap.size) :
    Calls Tryz.prog 20 #[.pointer (some ⟨g, 0, none⟩)] w fun r w' => ∃ p, r = .returned p ∧ RowT ePt 59 w' base p (laidP S) ∧ RingAt w' base g S ∧ Fr [] [g] base w w' := by
  obtain ⟨v, d, p, hb, hrow, hp⟩ := h.box
  have H := Lib.hid h
  have HBS := Lib.hid hbs
  rcases hp with ⟨rfl, rfl⟩ | ⟨rfl, hp⟩
  · have C := Lib.hid (do_first base g v S w hb hrow hbs h.bg h.len h.sz)
    clear h hb hrow hbs
    go_enter Tryz.func20, Tryz.ntmps20
    go_wp2_with fail
    refine C.out.mono ?_
    rintro r w1 ⟨rfl, hd⟩
    obtain ⟨p1, hb1, hr1, hp1⟩ := hd.out
    have HD := Lib.hid hd
    have HP := Lib.hid hp1
    have HR : Hid (RingAt w1 base g S) := ⟨⟨v, 1, p1, hb1, hr1, .inr ⟨rfl, hp1.down HBS.out⟩⟩, H.out.bg, H.out.rs, H.out.len, H.out.sz⟩
    have c4 := hb1.c4
    clear hd hb1 hr1 hp1 C
    go_wp2
    go_ret
    exact ⟨_, rfl, HP.out.down HBS.out, HR.out, HD.out.fr⟩
  · have C := Lib.hid (do_done ⟨g, 1, none⟩ (.func (.func 30) #[.pointer (some ⟨g, 0, none⟩)] #[]) w hb.c1)
    have c4 := hb.c4
    have HP := Lib.hid hp
    clear h hb hrow hbs hp
    go_enter Tryz.func20, Tryz.ntmps20
    go_wp2_with fail
    refine C.out.mono ?_
    rintro r w1 ⟨rfl, rfl⟩
    clear C
    go_wp2
    go_ret
    exact ⟨_, rfl, HP.out, H.out, Fr.refl _ _ _ _⟩
theorem laid_nil (w : World) : Calls Tryz.prog 20 #[.pointer none] w fun r w' => r = .returned (.slice none 0 0) ∧ w = w' := by
  go_enter Tryz.func20, Tryz.ntmps20
  go_wp2
  go_ret
  exact ⟨rfl, rfl⟩
end Go.Proofs.YtnbgmobcfbgenaaGreatDoor
