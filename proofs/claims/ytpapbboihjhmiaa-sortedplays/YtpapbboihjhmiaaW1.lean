/-
  Words for memory: a tree that lies in nodes. The contracts of depth, join, level. Their conditions: the trees lie in memory, and are no deeper than a bound.
-/
import Derived.Test.YtpapbboihjhmiaaRows
import Derived.Test.YtpapbboihjhmiaaMath
import Derived.WalkKit
import Derived.ProofKit
import Derived.Below
import Derived.Outline
import Derived.Laws.BitsAllLaws
import Derived.WalkLawsBesides
import Derived.Laws.IdiomStrings
import Derived.OpenShut
import Derived.Lib.Hide
import Derived.BigQuiet
import Derived.Lib.QuietBelow
import Derived.Deep.RegionHeld3
import Derived.Deep.QuietTactic
import Derived.IntWalk
namespace Go.Proofs.Ytpapbboihjhmiaa
open Go.RowKit

theorem heap_new (w : World) (o : Obj) : (w.alloc o).heap[w.heap.size]? = some o := by
  show (w.heap.push o)[w.heap.size]? = _
  simp
theorem ret_bool {a b : Bool} (h : a = b) : Ending.returned (.bool a) = .returned (.bool b) := by rw [h]
theorem ret_int {a b : Int} (h : a = b) : Ending.returned (.int .i64 a) = .returned (.int .i64 b) := by rw [h]

/-- A node lies in block b. -/
def Node (w : World) (b : Nat) (k : ByteArray) (v : Int) (pl pr : Option Addr) (d : Int) : Prop :=
  w.heap[b]? = some (.cells #[.string k, .int .i64 v, .pointer pl, .pointer pr, .int .i64 d] 66 (0, 0))
theorem Node.lt {w : World} {b : Nat} {k : ByteArray} {v : Int} {pl pr : Option Addr} {d : Int} (h : Node w b k v pl pr d) : b < w.heap.size := (Array.getElem?_eq_some_iff.mp h).1
theorem Node.c0 {w : World} {b : Nat} {k : ByteArray} {v : Int} {pl pr : Option Addr} {d : Int} (h : Node w b k v pl pr d) : w.cell? ⟨b, 0, none⟩ = some (.string k) := by simp [World.cell?, show w.heap[b]? = _ from h]
theorem Node.c1 {w : World} {b : Nat} {k : ByteArray} {v : Int} {pl pr : Option Addr} {d : Int} (h : Node w b k v pl pr d) : w.cell? ⟨b, 1, none⟩ = some (.int .i64 v) := by simp [World.cell?, show w.heap[b]? = _ from h]
theorem Node.c2 {w : World} {b : Nat} {k : ByteArray} {v : Int} {pl pr : Option Addr} {d : Int} (h : Node w b k v pl pr d) : w.cell? ⟨b, 2, none⟩ = some (.pointer pl) := by simp [World.cell?, show w.heap[b]? = _ from h]
theorem Node.c3 {w : World} {b : Nat} {k : ByteArray} {v : Int} {pl pr : Option Addr} {d : Int} (h : Node w b k v pl pr d) : w.cell? ⟨b, 3, none⟩ = some (.pointer pr) := by simp [World.cell?, show w.heap[b]? = _ from h]
theorem Node.c4 {w : World} {b : Nat} {k : ByteArray} {v : Int} {pl pr : Option Addr} {d : Int} (h : Node w b k v pl pr d) : w.cell? ⟨b, 4, none⟩ = some (.int .i64 d) := by simp [World.cell?, show w.heap[b]? = _ from h]

/-- What has not turned: every node. -/
def Nodes (w w' : World) : Prop := ∀ (b : Nat) (cs : Array Value), w.heap[b]? = some (.cells cs 66 (0, 0)) → w'.heap[b]? = w.heap[b]?
theorem Nodes.refl (w : World) : Nodes w w := fun _ _ _ => rfl
theorem Nodes.trans {a b c : World} (h : Nodes a b) (k : Nodes b c) : Nodes a c := fun i cs hi => by
  have h1 := h i cs hi
  rw [← h1]
  exact k i cs (by rw [h1]; exact hi)
theorem Nodes.below {w w' : World} (h : Below w.heap.size w w') : Nodes w w' := fun b _ hb => h.block b (Array.getElem?_eq_some_iff.mp hb).1
theorem Node.keep {w w' : World} {b : Nat} {k : ByteArray} {v : Int} {pl pr : Option Addr} {d : Int} (h : Node w b k v pl pr d) (hn : Nodes w w') : Node w' b k v pl pr d := (hn b _ h).trans h

/-- A tree lies in memory. -/
def TrAt (w : World) : Option Addr → Tr → Prop
  | p, .nil => p = none
  | p, .nd l k v r => ∃ b pl pr, p = some ⟨b, 0, none⟩ ∧ Node w b k v pl pr ((1 + max l.ht r.ht : Nat) : Int) ∧ TrAt w pl l ∧ TrAt w pr r
theorem TrAt.keep {w w' : World} (hn : Nodes w w') : ∀ {t : Tr} {p : Option Addr}, TrAt w p t → TrAt w' p t
  | .nil, _, h => h
  | .nd _ _ _ _, _, ⟨b, pl, pr, hp, hb, hl, hr⟩ => ⟨b, pl, pr, hp, hb.keep hn, TrAt.keep hn hl, TrAt.keep hn hr⟩
theorem TrAt.below {w w' : World} {t : Tr} {p : Option Addr} (h : TrAt w p t) (hb : Below w.heap.size w w') : TrAt w' p t := h.keep (Nodes.below hb)

theorem depth_any (p : Option Addr) (t : Tr) (w : World) (h : TrAt w p t) : Calls Try.prog 35 #[.pointer p] w fun e w' => e = .returned (.int .i64 (t.ht : Int)) ∧ w = w' := by
  cases t with
  | nil =>
    obtain rfl : p = none := h
    go_enter Try.func35, Try.ntmps35
    go_wp2
    go_ret
    exact ⟨rfl, rfl⟩
  | nd l k v r =>
    obtain ⟨b, pl, pr, rfl, hb, _, _⟩ := h
    have c4 := hb.c4
    clear hb
    go_enter Try.func35, Try.ntmps35
    go_wp2
    go_ret
    exact ⟨rfl, rfl⟩

/-- What a call leaves that makes a tree. -/
def Made (w : World) (t : Tr) (e : Ending) (w' : World) : Prop := ∃ p, e = .returned (.pointer p) ∧ TrAt w' p t ∧ Below w.heap.size w w'
def Mid (w : World) (m : Nat) (k : ByteArray) (v : Int) : Prop := ∃ pl pr d, Node w m k v pl pr d
theorem run_max2 {P : Program} (w : World) (ts : Array TypeId) (t : TypeId) (x y n : Int) (h : n = max x y) :
    (Builtin.max_ ts t #[.int .i64 x, .int .i64 y]).run P w = .ok (.int .i64 n) w := by
  subst h
  simp [Builtin.max_, Builtin.max2]
  try omega
set_option maxHeartbeats 1000000 in
theorem join_any (m : Nat) (k : ByteArray) (v : Int) (pl pr : Option Addr) (l r : Tr) (w : World) (hm : Mid w m k v) (hl : TrAt w pl l) (hr : TrAt w pr r) (h1 : l.ht ≤ 1000000) (h2 : r.ht ≤ 1000000) :
    Calls Try.prog 40 #[.pointer (some ⟨m, 0, none⟩), .pointer pl, .pointer pr] w (Made w (.nd l k v r)) := by
  obtain ⟨ql, qr, d, hm⟩ := hm
  have c0 := hm.c0
  have c1 := hm.c1
  have HL := Lib.hid (fun W (h : W.heap = w.heap) => depth_any pl l W (hl.keep (fun b _ _ => by rw [h])))
  have HR := Lib.hid (fun W (h : W.heap = w.heap) => depth_any pr r W (hr.keep (fun b _ _ => by rw [h])))
  have HT : Hid (∀ w', Below w.heap.size w w' → TrAt w' pl l ∧ TrAt w' pr r) := fun w' hb => ⟨hl.below hb, hr.below hb⟩
  obtain ⟨x, hx⟩ : ∃ x : Int, x = (l.ht : Int) := ⟨_, rfl⟩
  obtain ⟨y, hy⟩ : ∃ y : Int, y = (r.ht : Int) := ⟨_, rfl⟩
  obtain ⟨z, hz⟩ : ∃ z : Int, z = max x y := ⟨_, rfl⟩
  have hz2 : z = ((max l.ht r.ht : Nat) : Int) := by rw [hz, hx, hy]; omega
  have hmax : ∀ w, (Builtin.max_ #[3, 3] 3 #[.int .i64 x, .int .i64 y]).run Try.prog w = .ok (.int .i64 z) w := fun w => run_max2 w _ _ _ _ _ hz
  have hw : IntKind.i64.wrap (1 + z) = 1 + z := IntWalk.i64_in _ (by omega)
  rw [← hx] at HL
  rw [← hy] at HR
  have HZ := Lib.hid hz2
  clear hl hr hx hy hz hz2 h1 h2 hm
  go_enter Try.func40, Try.ntmps40
  go_wp2_with fail
  go_region_held3 (fun w' => w'.cell? ⟨m, 0, none⟩ = some (.string k) ∧ w'.cell? ⟨m, 1, none⟩ = some (.int .i64 v)) (go_keep)
    (first
      | (go_at_call 35; (with_reducible refine (HL.out _ ?hh).mono ?_); (case hh => exact rfl); rintro e w' ⟨rfl, rfl⟩)
      | (go_at_call 35; (with_reducible refine (HR.out _ ?hh).mono ?_); (case hh => exact rfl); rintro e w' ⟨rfl, rfl⟩))
  go_wp2
  go_ret
  have hB : ∀ o, Below w.heap.size w (w.drew.alloc o) := fun o => (Below.refl w.heap.size w).drew.alloc (Nat.le_refl _) _
  obtain ⟨t1, t2⟩ := HT.out _ (hB (.cells #[.string k, .int .i64 v, .pointer pl, .pointer pr, .int .i64 (1 + z)] 66))
  refine ⟨_, rfl, ⟨w.heap.size, pl, pr, rfl, ?_, t1, t2⟩, hB _⟩
  have e : ((1 + max l.ht r.ht : Nat) : Int) = 1 + z := by rw [HZ.out]; omega
  rw [e]
  exact heap_new w.drew _
end Go.Proofs.Ytpapbboihjhmiaa
