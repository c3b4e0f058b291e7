/-
  Words for memory: a slice that reads as bytes, a row of the call's own, what a call leaves as it was, a row that grows. Its conditions: none.
-/
import Derived.Test.YtlnblcgfgkkbhaaRows
import Derived.Test.YtlnblcgfgkkbhaaFr
import Derived.WalkKit
import Derived.ProofKit
import Derived.Below
import Derived.Outline
import Derived.Laws.BitsAllLaws
import Derived.WalkLawsBesides
import Derived.Laws.IdiomStrings
import Derived.Laws.AppendOwn
import Derived.Laws.AppendOwnNone
import Derived.Deep.DeepAppendWide
import Derived.OpenShut
import Derived.Lib.Hide
namespace Go.Proofs.Ytlnblcgfgkkbhaa
open Go.RowKit

theorem addr_add (b off i : Nat) : (⟨b, off, none⟩ : Addr).add i = ⟨b, off + i, none⟩ := by unfold Addr.add; split <;> simp_all
theorem heap_new (w : World) (o : Obj) : (w.alloc o).heap[w.heap.size]? = some o := by
  show (w.heap.push o)[w.heap.size]? = _
  simp

/-- A slice (its address A) that reads as the bytes l. -/
def Bytes (w : World) (A : Option Addr) (l : List Nat) : Prop :=
  (∀ c ∈ l, c < 256) ∧ l.length ≤ maxLen ∧ (0 < l.length → ∃ b off, A = some ⟨b, off, none⟩ ∧ b < w.heap.size ∧ ∀ (k c : Nat), l[k]? = some c → w.cell? ⟨b, off + k, none⟩ = some (.int .u8 (c : Int)))
theorem Bytes.nil (w : World) (A : Option Addr) : Bytes w A [] := ⟨by simp, by simp, by simp⟩
theorem Bytes.keep {w w' : World} {A : Option Addr} {l : List Nat} (h : Bytes w A l) (hs : w.heap.size ≤ w'.heap.size) (hb : ∀ a, A = some a → a.block < w.heap.size → w'.heap[a.block]? = w.heap[a.block]?) : Bytes w' A l := by
  obtain ⟨h1, h2, h3⟩ := h
  refine ⟨h1, h2, fun hl => ?_⟩
  obtain ⟨b, off, hA, hlt, hc⟩ := h3 hl
  refine ⟨b, off, hA, Nat.lt_of_lt_of_le hlt hs, fun k c hk => ?_⟩
  rw [World.cell?_of_block (w := w) (a := ⟨b, off + k, none⟩) (show w'.heap[b]? = w.heap[b]? from hb _ hA hlt)]
  exact hc k c hk
theorem Bytes.below {w w' : World} {A : Option Addr} {l : List Nat} (h : Bytes w A l) (hb : Below w.heap.size w w') : Bytes w' A l := h.keep hb.size fun _ _ hlt => hb.block _ hlt
theorem Bytes.take {w : World} {A : Option Addr} {l : List Nat} (h : Bytes w A l) (k : Nat) : Bytes w A (l.take k) := by
  obtain ⟨h1, h2, h3⟩ := h
  refine ⟨fun c hc => h1 c (List.mem_of_mem_take hc), by rw [List.length_take]; omega, fun hl => ?_⟩
  rw [List.length_take] at hl
  obtain ⟨b, off, hA, hlt, hc⟩ := h3 (by omega)
  refine ⟨b, off, hA, hlt, fun j c hj => hc j c ?_⟩
  rw [List.getElem?_take] at hj
  split at hj
  · exact hj
  · simp at hj
theorem Bytes.drop {w : World} {A : Option Addr} {l : List Nat} (h : Bytes w A l) (k cap : Nat) (hcap : l.length ≤ cap) : Bytes w (if cap = k then A else A.map (·.add k)) (l.drop k) := by
  obtain ⟨h1, h2, h3⟩ := h
  refine ⟨fun c hc => h1 c (List.mem_of_mem_drop hc), by rw [List.length_drop]; omega, fun hl => ?_⟩
  rw [List.length_drop] at hl
  obtain ⟨b, off, rfl, hlt, hc⟩ := h3 (by omega)
  rw [if_neg (by omega)]
  refine ⟨b, off + k, ?_, hlt, fun j c hj => ?_⟩
  · show some (Addr.add _ k) = _
    rw [addr_add]
  · rw [List.getElem?_drop] at hj
    have := hc (k + j) c hj
    rwa [← Nat.add_assoc] at this
theorem Bytes.at_ {w : World} {A : Option Addr} {l : List Nat} (h : Bytes w A l) {k : Nat} (hk : k < l.length) : ∃ b off, A = some ⟨b, off, none⟩ ∧ w.cell? ⟨b, off + k, none⟩ = some (.int .u8 (l[k] : Int)) ∧ l[k] < 256 := by
  obtain ⟨b, off, hA, _, hc⟩ := h.2.2 (by omega)
  exact ⟨b, off, hA, hc k _ (List.getElem?_eq_getElem hk), h.1 _ (List.getElem_mem hk)⟩

/-- What a slice of integers that came in is known as. -/
def IsRow (k : IntKind) (w : World) (a : Option Addr) (len cap : Nat) (zs : List Int) : Prop :=
  (a = none ∧ len = 0 ∧ cap = 0 ∧ zs = []) ∨
  ∃ x, a = some x ∧ len ≤ cap ∧ cap ≤ maxLen ∧ zs.length = cap ∧ (∀ i, i < zs.length → w.cell? (x.add i) = some (.int k (zs.getD i 0))) ∧ ∀ n ∈ zs, (Lit.int k n).wf = true
theorem bytes_of_row {w : World} {a : Option Addr} {len cap : Nat} {zs : List Int} (h : IsRow .u8 w a len cap zs) :
    ∃ l : List Nat, l.length = len ∧ Bytes w a l ∧ len ≤ cap ∧ cap ≤ maxLen ∧ (a = none → cap = 0) := by
  rcases h with ⟨rfl, rfl, rfl, rfl⟩ | ⟨x, rfl, hl, hm, hz, hcell, hwz⟩
  · exact ⟨[], rfl, Bytes.nil _ _, Nat.le_refl _, Nat.zero_le _, fun _ => rfl⟩
  · refine ⟨(zs.take len).map Int.toNat, by simp; omega, ⟨?_, by simp; omega, fun hp => ?_⟩, hl, hm, fun h => by cases h⟩
    · intro c hc
      obtain ⟨n, hn, rfl⟩ := List.mem_map.mp hc
      have := bounds_u8 (hwz n (List.mem_of_mem_take hn))
      omega
    · have hp : 0 < len := by simp at hp; omega
      obtain ⟨b, off, spot⟩ := x
      have h0 := hcell 0 (by omega)
      have hspot : spot = none := by simpa [Addr.add] using World.cell?_spot h0
      subst hspot
      refine ⟨b, off, rfl, ?_, fun k c hk => ?_⟩
      · have := block_lt_of_cell h0
        simpa [Addr.add] using this
      · rw [List.getElem?_map, List.getElem?_take] at hk
        split at hk
        · have hkz : k < zs.length := by omega
          rw [List.getElem?_eq_getElem hkz] at hk
          simp at hk
          have hck := hcell k hkz
          rw [List.getD_eq_getElem?_getD, List.getElem?_eq_getElem hkz] at hck
          have hb := bounds_u8 (hwz zs[k] (List.getElem_mem hkz))
          have e : zs[k] = (c : Int) := by omega
          rw [addr_add] at hck
          rw [hck, Option.getD_some, e]
        · simp at hk

/-- The string of the bytes l. -/
def textOf (l : List Nat) : ByteArray := ⟨(l.map UInt8.ofNat).toArray⟩
theorem textOf_size (l : List Nat) : (textOf l).size = l.length := by
  show (List.toArray _).size = _
  simp
theorem conv_text (w : World) (A : Option Addr) (l : List Nat) (cap : Nat) (h : Bytes w A l) : (convert 22 9 (.slice A l.length cap)).run Try.prog w = .ok (.string (textOf l)) w := by
  obtain ⟨h1, _, h3⟩ := h
  cases A with
  | none =>
    have hl : l = [] := by
      cases l with
      | nil => rfl
      | cons c l => obtain ⟨b, off, hA, _⟩ := h3 (by simp); simp at hA
    subst hl
    rw [run_convert_bytes_string w 22 9 5 none _ cap Try.underlying22 Try.underlying5 Try.underlying9]
    rfl
  | some a =>
    have h := run_convert_bytes_back (P := Try.prog) w 22 9 5 a cap (l.map UInt8.ofNat) Try.underlying22 Try.underlying5 Try.underlying9 (fun j hj => by
      have hj' : j < l.length := by simpa using hj
      obtain ⟨b, off, hA, _, hc⟩ := h3 (by omega)
      injection hA with hA
      subst hA
      have hcj := hc j l[j] (List.getElem?_eq_getElem hj')
      rw [addr_add, hcj]
      have hlt := h1 l[j] (List.getElem_mem hj')
      simp [Nat.mod_eq_of_lt hlt])
    rw [List.length_map] at h
    exact h

/-- What has not turned: every block that was there, but those of S. -/
structure Only (S : Nat → Prop) (w w' : World) : Prop where
  os : w'.os = w.os
  tape : w'.tape = w.tape
  output : w'.output = w.output
  size : w.heap.size ≤ w'.heap.size
  block : ∀ k, k < w.heap.size → ¬ S k → w'.heap[k]? = w.heap[k]?
theorem Only.refl (S : Nat → Prop) (w : World) : Only S w w := ⟨rfl, rfl, rfl, Nat.le_refl _, fun _ _ _ => rfl⟩
theorem Only.trans {S T : Nat → Prop} {a b c : World} (h : Only S a b) (k : Only T b c) (hT : ∀ i, i < a.heap.size → T i → S i) : Only S a c :=
  ⟨k.os.trans h.os, k.tape.trans h.tape, k.output.trans h.output, Nat.le_trans h.size k.size,
    fun i hi hS => (k.block i (Nat.lt_of_lt_of_le hi h.size) (fun ht => hS (hT i hi ht))).trans (h.block i hi hS)⟩
theorem Only.mono {S T : Nat → Prop} {a b : World} (h : Only S a b) (hT : ∀ i, i < a.heap.size → S i → T i) : Only T a b :=
  ⟨h.os, h.tape, h.output, h.size, fun i hi hS => h.block i hi (fun hs => hS (hT i hi hs))⟩
theorem Only.of_below {S : Nat → Prop} {w w' : World} (h : Below w.heap.size w w') : Only S w w' := ⟨h.os, h.tape, h.output, h.size, fun k hk _ => h.block k hk⟩
theorem Only.below {S : Nat → Prop} {B : Nat} {w w' : World} (h : Only S w w') (hB : B ≤ w.heap.size) (hS : ∀ k, k < w.heap.size → S k → B ≤ k) : Below B w w' :=
  ⟨h.os, h.tape, h.output, h.size, fun k hk => h.block k (by omega) (fun hs => by have := hS k (by omega) hs; omega)⟩
theorem Only.drew {S : Nat → Prop} {a w : World} (h : Only S a w) : Only S a w.drew := ⟨h.os, h.tape, h.output, h.size, h.block⟩
theorem Only.alloc {S : Nat → Prop} {a w : World} (h : Only S a w) (o : Obj) : Only S a (w.alloc o) :=
  h.trans (T := fun _ => False) ⟨rfl, rfl, rfl, by simp, fun k hk _ => Below.heap_alloc _ _ _ hk⟩ (fun _ _ h => h.elim)
theorem Only.setCell {S : Nat → Prop} {a w : World} (h : Only S a w) {p : Addr} (hp : a.heap.size ≤ p.block ∨ S p.block) (u : Value) : Only S a (w.setCell p u) :=
  h.trans (T := fun k => k = p.block) ⟨rfl, rfl, rfl, by simp [World.setCell], fun k _ hk => Below.heap_setCell _ _ _ _ hk⟩ (fun i hi e => by
    subst e
    rcases hp with hp | hp
    · omega
    · exact hp)
theorem Only.grown {S : Nat → Prop} {a w w' : World} {row : Option Nat} (h : Only S a w) (hg : w.grownBy w' row) (hr : ∀ k, row = some k → a.heap.size ≤ k ∨ S k) : Only S a w' :=
  h.trans (T := fun k => row = some k) ⟨hg.os, hg.tape, hg.output, hg.size, fun k hk hn => hg.block k hk (fun e => hn e.symm)⟩ (fun i hi e => by
    rcases hr i e with h | h
    · omega
    · exact h)
theorem Bytes.only {S : Nat → Prop} {w w' : World} {A : Option Addr} {l : List Nat} (h : Bytes w A l) (ho : Only S w w') (hS : ∀ a, A = some a → ¬ S a.block) : Bytes w' A l :=
  h.keep ho.size fun a ha hlt => ho.block _ hlt (hS a ha)

theorem info5 : (Try.prog.info? 5).map (fun i => (i.zero, i.size, i.bytes)) = some (some (.int .u8 0), 1, 1) := by kernel_rfl
theorem info5p : ∃ i, Try.prog.info? 5 = some i ∧ i.zero = some (.int .u8 0) ∧ i.size = 1 ∧ i.bytes = 1 := info_parts info5
def vals (l : List Nat) : List Value := l.map fun (c : Nat) => Value.int .u8 (c : Int)
theorem vals_append (l m : List Nat) : vals (l ++ m) = vals l ++ vals m := by simp [vals]
theorem vals_length (l : List Nat) : (vals l).length = l.length := by simp [vals]
theorem news_of {w : World} {ad : Addr} {l : List Nat} (h : Bytes w (some ad) l) : ∀ (j : Nat) (u : Value), (vals l)[j]? = some u → w.cell? (ad.add j) = some u := by
  intro j u hj
  have hl : j < l.length := by rw [← vals_length l]; exact (List.getElem?_eq_some_iff.mp hj).1
  obtain ⟨b, off, hA, _, hc⟩ := h.2.2 (by omega)
  injection hA with hA
  subst hA
  unfold vals at hj
  rw [List.getElem?_map] at hj
  obtain ⟨c, hcl, rfl⟩ := Option.map_eq_some_iff.mp hj
  rw [addr_add]
  exact hc j c hcl
theorem vals_one (l : List Nat) : ∀ u ∈ vals l, u.oneCell' = true := by
  intro u hu
  obtain ⟨c, _, rfl⟩ := List.mem_map.mp hu
  rfl

/-- append by the equation of its run. -/
theorem wpList_append_run {P : Program} {w : World} {ops : Array Oper} {rest : List Oper} {o : Oper} {a : Act} {Q : Exit → Act → World → Prop} (hgd : o.guard = none) (s x : Operand) (t u : TypeId)
    (ho : o.op = .call { callee := .builtin .append, args := #[s, x], argTypes := #[t, u] }) (v y : Value) (hs : a.eval s = v) (hx : a.eval x = y) (v' : Value) (w' : World)
    (hr : (Builtin.append_ #[t, u] o.type #[v, y]).run P w = .ok v' w') (h : wpList P ops Q rest (a.put o.dst v') w') : wpList P ops Q (o :: rest) a w := by
  refine wpList_plain hgd fun K hK => ?_
  unfold Oper.wp
  simp [execOp, ho, resolve, invoke, builtin, hs, hx, hr, Result.andThen]
  exact hK _ _ h
theorem owns_form {w : World} {base : Nat} {e : TypeId} {size : Nat} {v : Value} {n : Nat} {xs : List Value} (h : w.ownsRow base e size v n xs) : ∃ A c, v = .slice A n c := by
  rcases h.2 with ⟨rfl, rfl⟩ | ⟨g, cap, cur, rfl, _⟩
  · exact ⟨none, 0, rfl⟩
  · exact ⟨_, _, rfl⟩

/-- append onto a row of the call's own: it grows in place, or lies in a new block. -/
theorem append_own {w : World} {v : Value} {n : Nat} {xs : List Value} (hown : w.ownsRow 0 5 1 v n xs) {A : Option Addr} {l : List Nat} {c : Nat} (hb : Bytes w A l) (hA : A = none → c = 0) (hm : n + l.length ≤ 200000000000000) (ty : TypeId) :
    ∃ v' w', (Builtin.append_ #[22, 22] ty #[v, .slice A l.length c]).run Try.prog w = .ok v' w' ∧ w'.ownsRow 0 5 1 v' (n + l.length) (xs ++ vals l) ∧ w.grownBy w' v.ownBlock ∧
      (∀ k, v'.ownBlock = some k → v.ownBlock = some k ∨ w.heap.size ≤ k) := by
  obtain ⟨i, hi, hz0, hz1, hz2⟩ := info5p
  cases A with
  | none =>
    have hl : l = [] := by
      cases l with
      | nil => rfl
      | cons c l => obtain ⟨b, off, hA, _⟩ := hb.2.2 (by simp); simp at hA
    subst hl
    rw [hA rfl]
    exact ⟨v, w, run_append_owned_none w 0 22 ty 5 i 1 Try.underlying22 hi v n xs hown, by simpa [vals] using hown, ⟨rfl, rfl, rfl, Nat.le_refl _, fun _ _ _ => rfl⟩, fun k hk => .inl hk⟩
  | some ad =>
    have hml : n + l.length ≤ maxLen := by unfold maxLen; omega
    obtain ⟨v', w', hr, ho, hg, _⟩ := run_append_own_wide (P := Try.prog) w 0 22 ty 5 i (.int .u8 0) 1 1 Try.underlying22 hi hz0 hz1 hz2 rfl (by omega) v n xs hown ad l.length c (vals l) (by rw [vals_length]; omega) (news_of hb) (vals_one l) hml (by omega) (Nat.zero_le _)
    refine ⟨v', w', hr, ho, hg, fun k hk => ?_⟩
    rcases hown.2 with ⟨rfl, rfl⟩ | ⟨g, cap, cur, rfl, _, hgg, hnc, hcm, hcs, htake⟩
    · obtain ⟨v2, w2, hr2, ho2, _, _⟩ := run_append_own_wide (P := Try.prog) w w.heap.size 22 ty 5 i (.int .u8 0) 1 1 Try.underlying22 hi hz0 hz1 hz2 rfl (by omega) (.slice none 0 0) 0 xs ⟨hown.1, .inl ⟨rfl, rfl⟩⟩ ad l.length c (vals l) (by rw [vals_length]; omega) (news_of hb) (vals_one l) hml (by omega) (Nat.le_refl _)
      rw [hr] at hr2
      injection hr2 with e1 e2
      subst e1 e2
      exact .inr (ho2.lt k hk).1
    · by_cases hroom : n + l.length ≤ cap
      · have hr2 := run_append_room (P := Try.prog) w 22 ty 5 i Try.underlying22 hi g n cap cur hgg ad l.length c (vals l) (by rw [vals_length, hz1]; omega) (news_of hb) (vals_one l) hroom (by rw [vals_length, hz1, hcs]; omega)
        rw [hr] at hr2
        injection hr2 with e1 e2
        subst e1
        exact .inl (by simpa [Value.ownBlock] using hk)
      · have hr2 := run_append_grow (P := Try.prog) w 22 ty 5 i (.int .u8 0) Try.underlying22 hi hz0 ⟨g, 0, none⟩ n cap xs (by rw [hz1]; exact hown.1) (hown.cells (g := g) rfl) ad l.length c (vals l) (by rw [vals_length, hz1]; omega) (news_of hb) (by omega) (by omega) (by rw [hz2]; exact growslice_fits_wide (by omega) (by omega))
        rw [hr] at hr2
        injection hr2 with e1 e2
        subst e1
        refine .inr ?_
        simp [Value.ownBlock] at hk
        omega

/-- A slice in new memory that reads as the bytes L. -/
def Got (w w' : World) (L : List Nat) (v : Value) : Prop :=
  ∃ A c, v = .slice A L.length c ∧ Bytes w' A L ∧ L.length ≤ c ∧ c ≤ maxLen ∧ (A = none → c = 0) ∧ (∀ a, A = some a → w.heap.size ≤ a.block ∧ a.block < w'.heap.size) ∧ Below w.heap.size w w'
theorem owns_empty (w : World) : (w.alloc (.cells #[] 5)).ownsRow 0 5 1 (.slice (some ⟨w.heap.size, 0, none⟩) 0 0) 0 [] :=
  ⟨rfl, .inr ⟨w.heap.size, 0, #[], rfl, Nat.zero_le _, heap_new _ _, Nat.le_refl _, Nat.zero_le _, rfl, rfl⟩⟩
theorem owns_bytes {w : World} {base : Nat} {A : Option Addr} {c : Nat} {l : List Nat} (h : w.ownsRow base 5 1 (.slice A l.length c) l.length (vals l)) (hl : ∀ x ∈ l, x < 256) (hm : l.length ≤ maxLen) : Bytes w A l := by
  refine ⟨hl, hm, fun hp => ?_⟩
  rcases h.2 with ⟨_, hz⟩ | ⟨g, cap, cur, hv, hg, hb, _, _, _, ht⟩
  · omega
  · injection hv with hA _ _
    subst hA
    have hlt : g < w.heap.size := by
      obtain ⟨hlt, _⟩ := Array.getElem?_eq_some_iff.mp hb
      exact hlt
    refine ⟨g, 0, rfl, hlt, fun k x hk => ?_⟩
    have hkl : k < l.length := (List.getElem?_eq_some_iff.mp hk).1
    have h2 : (cur.toList.take (l.length * 1))[k]? = some (.int .u8 (x : Int)) := by rw [ht, vals, List.getElem?_map, hk]; rfl
    rw [List.getElem?_take, if_pos (by omega), Array.getElem?_toList] at h2
    rw [Nat.zero_add]
    simp [World.cell?, hb, h2]
theorem owns_facts {w : World} {base : Nat} {A : Option Addr} {c n : Nat} {xs : List Value} (h : w.ownsRow base 5 1 (.slice A n c) n xs) : n ≤ c ∧ c ≤ maxLen ∧ (A = none → c = 0) := by
  rcases h.2 with ⟨hv, hz⟩ | ⟨g, cap, cur, hv, hg, hb, h1, h2, _⟩
  · injection hv with hA h1 h2
    subst h1 h2
    exact ⟨Nat.le_refl _, Nat.zero_le _, fun _ => rfl⟩
  · injection hv with hA _ hc
    subst hc
    exact ⟨h1, h2, fun h => by rw [hA] at h; cases h⟩
/-- append onto an empty slice that was just made. -/
theorem append_new {w : World} {A : Option Addr} {l : List Nat} {c : Nat} (hb : Bytes w A l) (hA : A = none → c = 0) (hm : l.length ≤ 200000000000000) (ty : TypeId) :
    ∃ v' w', (Builtin.append_ #[22, 22] ty #[.slice (some ⟨w.heap.size, 0, none⟩) 0 0, .slice A l.length c]).run Try.prog (w.alloc (.cells #[] 5)) = .ok v' w' ∧ Got w w' l v' ∧ w'.ownsRow 0 5 1 v' l.length (vals l) := by
  have hbel : Below w.heap.size w (w.alloc (.cells #[] 5)) := (Below.refl _ _).alloc (Nat.le_refl _) _
  obtain ⟨v', w1, hr, ho, hg, hk⟩ := append_own (owns_empty w) (hb.below hbel) hA (by omega) ty
  rw [Nat.zero_add, List.nil_append] at ho
  refine ⟨v', w1, hr, ?_, ho⟩
  obtain ⟨A', c', rfl⟩ := owns_form ho
  obtain ⟨f1, f2, f3⟩ := owns_facts ho
  refine ⟨A', c', rfl, owns_bytes ho hb.1 hb.2.1, f1, f2, f3, fun a ha => ?_, hbel.grown hg (by simp) (fun k hk => by simp [Value.ownBlock] at hk; omega)⟩
  subst ha
  refine ⟨?_, (ho.lt a.block rfl).2⟩
  rcases hk a.block rfl with h | h
  · simp [Value.ownBlock] at h
    omega
  · simp at h
    omega
theorem Got.bytes {w w' : World} {L : List Nat} {v : Value} (h : Got w w' L v) : ∃ A c, v = .slice A L.length c ∧ Bytes w' A L := by
  obtain ⟨A, c, h1, h2, _⟩ := h
  exact ⟨A, c, h1, h2⟩
theorem Got.bel {w w' : World} {L : List Nat} {v : Value} (h : Got w w' L v) : Below w.heap.size w w' := by
  obtain ⟨_, _, _, _, _, _, _, _, h⟩ := h
  exact h
theorem Got.keep {w w' w2 : World} {L : List Nat} {v : Value} (h : Got w w' L v) (hb : Below w'.heap.size w' w2) : Got w w2 L v := by
  obtain ⟨A, c, h1, h2, h3, h4, h5, h6, h7⟩ := h
  exact ⟨A, c, h1, h2.below hb, h3, h4, h5, fun a ha => ⟨(h6 a ha).1, Nat.lt_of_lt_of_le (h6 a ha).2 hb.size⟩, h7.trans (hb.mono h7.size)⟩
/-- v is a slice of bytes of the call's own, made since w0. -/
def OwnB (w0 w : World) (L : List Nat) (v : Value) : Prop :=
  w.ownsRow 0 5 1 v L.length (vals L) ∧ (∀ c ∈ L, c < 256) ∧ (∀ q, v.ownBlock = some q → w0.heap.size ≤ q) ∧ Below w0.heap.size w0 w
theorem OwnB.form {w0 w : World} {L : List Nat} {v : Value} (h : OwnB w0 w L v) : ∃ A c, v = .slice A L.length c := owns_form h.1
theorem OwnB.bel {w0 w : World} {L : List Nat} {v : Value} (h : OwnB w0 w L v) : Below w0.heap.size w0 w := h.2.2.2
theorem OwnB.got {w0 w : World} {L : List Nat} {v : Value} (h : OwnB w0 w L v) (hm : L.length ≤ maxLen) : Got w0 w L v := by
  obtain ⟨h1, h2, h3, h4⟩ := h
  obtain ⟨A, c, rfl⟩ := owns_form h1
  obtain ⟨f1, f2, f3⟩ := owns_facts h1
  refine ⟨A, c, rfl, owns_bytes h1 h2 hm, f1, f2, f3, fun a ha => ?_, h4⟩
  subst ha
  exact ⟨h3 a.block rfl, (h1.lt a.block rfl).2⟩
theorem OwnB.keep {w0 w w' : World} {L : List Nat} {v : Value} (h : OwnB w0 w L v) (hb : Below w.heap.size w w') : OwnB w0 w' L v := by
  obtain ⟨h1, h2, h3, h4⟩ := h
  refine ⟨⟨h1.1, ?_⟩, h2, h3, h4.trans (hb.mono h4.size)⟩
  rcases h1.2 with hn | ⟨k, cap, cur, hv, hbb, hkk, rest⟩
  · exact .inl hn
  · refine .inr ⟨k, cap, cur, hv, hbb, ?_, rest⟩
    rw [hb.block k (Array.getElem?_eq_some_iff.mp hkk).1]
    exact hkk
theorem OwnB.empty (w0 w : World) (h : Below w0.heap.size w0 w) : OwnB w0 (w.alloc (.cells #[] 5)) [] (.slice (some ⟨w.heap.size, 0, none⟩) 0 0) :=
  ⟨owns_empty w, by simp, fun q hq => by simp [Value.ownBlock] at hq; have := h.size; omega, h.alloc h.size _⟩
theorem OwnB.append {w0 w : World} {L : List Nat} {v : Value} (h : OwnB w0 w L v) {A : Option Addr} {l : List Nat} {c : Nat} (hb : Bytes w A l) (hA : A = none → c = 0) (hm : L.length + l.length ≤ 200000000000000) (ty : TypeId) :
    ∃ v' w', (Builtin.append_ #[22, 22] ty #[v, .slice A l.length c]).run Try.prog w = .ok v' w' ∧ OwnB w0 w' (L ++ l) v' ∧ Below w0.heap.size w0 w' := by
  obtain ⟨h1, h2, h3, h4⟩ := h
  obtain ⟨v', w', hr, ho, hg, hk⟩ := append_own h1 hb hA hm ty
  have hbel := h4.grown hg h4.size (fun k hk => h3 k hk)
  refine ⟨v', w', hr, ⟨by rw [List.length_append, vals_append]; exact ho, fun c hc => (List.mem_append.mp hc).elim (h2 c) (hb.1 c), fun q hq => ?_, hbel⟩, hbel⟩
  rcases hk q hq with hh | hh
  · exact h3 q hh
  · exact Nat.le_trans h4.size hh
end Go.Proofs.Ytlnblcgfgkkbhaa
