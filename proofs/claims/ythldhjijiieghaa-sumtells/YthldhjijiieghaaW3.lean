/-
  A slice argument that came in reads as bytes; the walk of SumGoesOn. Its conditions: none.
-/
import Derived.Test.YthldhjijiieghaaW2
import Derived.BigQuiet
import Derived.Lib.QuietBelow
import Derived.OpenShut
namespace Go.Proofs.Ythldhjijiieghaa
open Go.RowKit Go.ChangeShapes Go.WideShapes Go.ChangeAt Go.Sort

/-- WHAT THE WALK IS TOLD OF A SLICE OF INTEGERS THAT CAME IN: it is nil; or it leads to a row of 'cap' cells, the numbers 'zs' (the first 'len' are its elements, the rest its spare room), each fitting its kind. -/
def IsRow (k : IntKind) (w : World) (a : Option Addr) (len cap : Nat) (zs : List Int) : Prop :=
  (a = none ∧ len = 0 ∧ cap = 0 ∧ zs = []) ∨
  ∃ x, a = some x ∧ len ≤ cap ∧ cap ≤ maxLen ∧ zs.length = cap ∧ (∀ i, i < zs.length → w.cell? (x.add i) = some (.int k (zs.getD i 0))) ∧ ∀ n ∈ zs, (Lit.int k n).wf = true

theorem bytes_of_row {w : World} {a : Option Addr} {len cap : Nat} {zs : List Int} (h : IsRow .u8 w a len cap zs) :
    ∃ l : List Nat, l.length = len ∧ Bytes w a l ∧ len ≤ cap ∧ cap ≤ maxLen := by
  rcases h with ⟨rfl, rfl, rfl, rfl⟩ | ⟨x, rfl, hl, hm, hz, hcell, hwz⟩
  · exact ⟨[], rfl, ⟨by simp, by simp, by simp⟩, Nat.le_refl _, Nat.zero_le _⟩
  · refine ⟨(zs.take len).map Int.toNat, by simp; omega, ⟨?_, by simp; omega, fun hp => ?_⟩, hl, hm⟩
    · intro c hc
      obtain ⟨n, hn, rfl⟩ := List.mem_map.mp hc
      have := bounds_u8 (hwz n (List.mem_of_mem_take hn))
      omega
    · have hp : 0 < len := by simp at hp; omega
      obtain ⟨b, off, spot⟩ := x
      have h0 := hcell 0 (by omega)
      have hspot : spot = none := by simpa [Addr.add] using World.cell?_spot h0
      subst hspot
      refine ⟨b, off, rfl, ?_, fun k c hk => ?_⟩
      · have := block_lt_of_cell h0
        simpa [Addr.add] using this
      · rw [List.getElem?_map, List.getElem?_take] at hk
        split at hk
        · have hkz : k < zs.length := by omega
          rw [List.getElem?_eq_getElem hkz] at hk
          simp at hk
          have hck := hcell k hkz
          rw [List.getD_eq_getElem?_getD, List.getElem?_eq_getElem hkz] at hck
          have hb := bounds_u8 (hwz zs[k] (List.getElem_mem hkz))
          have e : zs[k] = (c : Int) := by omega
          rw [show (⟨b, off, none⟩ : Addr).add k = ⟨b, off + k, none⟩ by unfold Addr.add; split <;> simp_all] at hck
          rw [hck, Option.getD_some, e]
        · simp at hk

theorem Bytes.take {w : World} {A : Option Addr} {l : List Nat} (h : Bytes w A l) (k : Nat) : Bytes w A (l.take k) := by
  obtain ⟨h1, h2, h3⟩ := h
  refine ⟨fun c hc => h1 c (List.mem_of_mem_take hc), by rw [List.length_take]; omega, fun hl => ?_⟩
  rw [List.length_take] at hl
  obtain ⟨b, off, hA, hlt, hc⟩ := h3 (by omega)
  refine ⟨b, off, hA, hlt, fun j c hj => hc j c ?_⟩
  rw [List.getElem?_take] at hj
  split at hj
  · exact hj
  · simp at hj
theorem Bytes.grow {w : World} {A : Option Addr} {l : List Nat} (h : Bytes w A l) (d : Nat) (os : Array Obj) : Bytes (grow (redrawn w d) os) A l := h.below (below_regrown w d os)

theorem Bytes.drop {w : World} {A : Option Addr} {l : List Nat} (h : Bytes w A l) (k cap : Nat) (hcap : l.length ≤ cap) : Bytes w (if cap = k then A else A.map (·.add k)) (l.drop k) := by
  obtain ⟨h1, h2, h3⟩ := h
  refine ⟨fun c hc => h1 c (List.mem_of_mem_drop hc), by rw [List.length_drop]; omega, fun hl => ?_⟩
  rw [List.length_drop] at hl
  obtain ⟨b, off, rfl, hlt, hc⟩ := h3 (by omega)
  rw [if_neg (by omega)]
  refine ⟨b, off + k, ?_, hlt, fun j c hj => ?_⟩
  · show some (Addr.add _ k) = _
    unfold Addr.add
    split <;> simp_all
  · rw [List.getElem?_drop] at hj
    have := hc (k + j) c hj
    rwa [← Nat.add_assoc] at this

theorem more_at (s : Nat) (l : List Nat) (n : Nat) (A : Option Addr) (cap : Nat) (w : World) (hn : l.length = n) (hs : s < 4294967296) (h : Bytes w A l) (r : Nat) (hr : Crc.more s l = r) :
    Calls Try.prog 11 #[.int .u32 s, .slice A n cap] w fun e w' => e = .returned (.int .u32 r) ∧ Below w.heap.size w w' := by
  subst hn hr
  exact more_any s l A cap w hs h
theorem of_at (l : List Nat) (n : Nat) (A : Option Addr) (cap : Nat) (w : World) (hn : l.length = n) (h : Bytes w A l) (r : Nat) (hr : Crc.more 0 l = r) :
    Calls Try.prog 9 #[.slice A n cap] w fun e w' => e = .returned (.int .u32 r) ∧ Below w.heap.size w w' := by
  subst hn hr
  exact of_any l A cap w h

set_option maxHeartbeats 1000000 in
theorem goesOn_in (l : List Nat) (A : Option Addr) (cap k : Nat) (w : World) (h : Bytes w A l) (hk : k ≤ l.length) (hs : l.length ≤ 100000) (hcap : l.length ≤ cap) :
    Calls Try.prog 4 #[.slice A l.length cap, .int .i64 k] w fun e w' => e = .returned (.bool true) ∧ Below w.heap.size w w' := by
  have H := Lib.hid h
  clear h
  go_enter Try.func4, Try.ntmps4
  go_wp2_with (go_at_call 8; refine (awake_any _).mono ?_; rintro e w1 ⟨rfl, hb⟩; have HB := Lib.hid hb; clear hb)
  have H1 := H.out.below HB.out
  obtain ⟨S, hS⟩ : ∃ S, Crc.more 0 (l.take k) = S := ⟨_, rfl⟩
  obtain ⟨T, hT⟩ : ∃ T, Crc.more 0 l = T := ⟨_, rfl⟩
  have hSl : S < 4294967296 := by rw [← hS]; exact Crc.more_lt _ _ (by omega) (H1.take k).1
  have hST : Crc.more S (l.drop k) = T := by rw [← hS, Crc.more_append, List.take_append_drop, hT]
  have C1 : Hid (∀ d os, Calls Try.prog 9 #[.slice A k cap] (grow (redrawn w1 d) os) fun e w'' => e = .returned (.int .u32 S) ∧ ∃ p : Regrown, w'' = grow (redrawn w1 p.d) p.os) :=
    fun d os => Calls.regrown_of (of_at (l.take k) k A cap _ (by rw [List.length_take]; omega) ((H1.take k).grow d os) S hS)
  have C2 : Hid (∀ d os, Calls Try.prog 11 #[.int .u32 S, .slice (if cap = k then A else A.map (·.add k)) (l.length - k) (cap - k)] (grow (redrawn w1 d) os) fun e w'' => e = .returned (.int .u32 T) ∧ ∃ p : Regrown, w'' = grow (redrawn w1 p.d) p.os) :=
    fun d os => Calls.regrown_of (more_at S (l.drop k) (l.length - k) _ (cap - k) _ (by rw [List.length_drop]) hSl ((H1.drop k cap hcap).grow d os) T hST)
  have C3 : Hid (∀ d os, Calls Try.prog 9 #[.slice A l.length cap] (grow (redrawn w1 d) os) fun e w'' => e = .returned (.int .u32 T) ∧ ∃ p : Regrown, w'' = grow (redrawn w1 p.d) p.os) :=
    fun d os => Calls.regrown_of (of_at l l.length A cap _ rfl (H1.grow d os) T hT)
  clear hS hT hSl hST H1
  refine wp_region_quiet_below (by kernel_rfl) (by kernel_rfl) ?_
  go_big_quiet_step (fail)
  go_big_quiet_step (fail)
  go_big_quiet_step (fail)
  go_big_quiet_step (exact C1.out _ _)
  go_big_quiet_step (fail)
  go_big_quiet_step (fail)
  go_big_quiet_step (fail)
  go_big_quiet_step (exact C2.out _ _)
  go_big_quiet_step (fail)
  go_big_quiet_step (exact C3.out _ _)
  go_big_quiet_step (fail)
  go_big_quiet_step (fail)
  refine wpQuiet_nil ?_
  intro _ hw'
  obtain ⟨⟨dq, osq⟩, hw''⟩ := hw'
  subst hw''
  go_wp2
  all_goals
    go_ret
    exact ⟨rfl, HB.out.trans ((below_regrown w1 dq osq).mono HB.out.size)⟩

set_option maxHeartbeats 400000 in
theorem goesOn_out (l : List Nat) (A : Option Addr) (cap : Nat) (x : Int) (w : World) (h : x < 0 ∨ (l.length : Int) < x ∨ 100000 < (l.length : Int)) (hm : l.length ≤ maxLen) :
    Calls Try.prog 4 #[.slice A l.length cap, .int .i64 x] w fun e w' => e = .returned (.bool true) ∧ Below w.heap.size w w' := by
  unfold maxLen at hm
  rcases (show x < 0 ∨ (0 ≤ x ∧ (l.length : Int) < x) ∨ (0 ≤ x ∧ x ≤ (l.length : Int) ∧ 100000 < (l.length : Int)) by omega) with h | ⟨h, h2⟩ | ⟨h, h2, h3⟩
  all_goals
    go_enter Try.func4, Try.ntmps4
    go_wp2_with (go_at_call 8; refine (awake_any _).mono ?_; rintro e w1 ⟨rfl, hb⟩; have HB := Lib.hid hb; clear hb)
    go_ret
    exact ⟨rfl, HB.out⟩

theorem goesOn_walk (l : List Nat) (A : Option Addr) (cap : Nat) (x : Int) (w : World) (h : Bytes w A l) (hcap : l.length ≤ cap) :
    Calls Try.prog 4 #[.slice A l.length cap, .int .i64 x] w fun e w' => e = .returned (.bool true) ∧ Below w.heap.size w w' := by
  by_cases hx : x < 0 ∨ (l.length : Int) < x ∨ 100000 < (l.length : Int)
  · exact goesOn_out l A cap x w hx h.2.1
  · obtain ⟨k, rfl⟩ : ∃ k : Nat, x = (k : Int) := ⟨x.toNat, by omega⟩
    exact goesOn_in l A cap k w h (by omega) (by omega) hcap
end Go.Proofs.Ythldhjijiieghaa
