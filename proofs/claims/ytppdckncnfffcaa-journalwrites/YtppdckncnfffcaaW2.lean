/-
  Words for memory: bytes, sectors, pending writes, and what the operations on arrays come to: a whole sector or write loaded, stored, built, copied in part. Their conditions: the blocks lie as said.
-/
import Derived.Test.YtppdckncnfffcaaRw
import Derived.Laws.CopyRow
import Derived.Deep.MidRow
namespace Go.Proofs.Ytppdckncnfffcaa
open Go.RowKit

def bv (l : List UInt8) : List Value := l.map fun x => Value.int .u8 (x.toNat : Int)
theorem bv_length (l : List UInt8) : (bv l).length = l.length := by simp [bv]
theorem bv_one (l : List UInt8) : ∀ v ∈ bv l, v.oneCell' = true := by
  intro v hv
  obtain ⟨x, _, rfl⟩ := List.mem_map.mp hv
  rfl
theorem bv_append (l m : List UInt8) : bv (l ++ m) = bv l ++ bv m := by simp [bv]
theorem bv_take (l : List UInt8) (n : Nat) : bv (l.take n) = (bv l).take n := by simp [bv, List.map_take]
theorem bv_drop (l : List UInt8) (n : Nat) : bv (l.drop n) = (bv l).drop n := by simp [bv, List.map_drop]
/-- A byte's cell. -/
def eBy : Enc UInt8 := ⟨fun x => [.int .u8 (x.toNat : Int)], 1, fun _ => rfl, fun x v hv => by simp at hv; subst hv; rfl, by decide⟩
theorem eBy_vals (l : List UInt8) : eBy.vals l = bv l := by
  induction l with
  | nil => rfl
  | cons x r ih =>
    have : eBy.vals (x :: r) = eBy.f x ++ eBy.vals r := by simp [Enc.vals]
    rw [this, ih]
    rfl
/-- A sector's cells. -/
def eSec : Enc Sec := ⟨fun s => bv s.v, 64, fun s => by rw [bv_length, s.h], fun s v hv => bv_one _ v hv, by decide⟩
/-- A pending write's cells. -/
def eWr : Enc Wr := ⟨fun x => Value.int .i64 (x.p : Int) :: (bv x.o.v ++ bv x.n.v), 129, fun x => by simp [bv_length, x.o.h, x.n.h], fun x v hv => by
  rcases List.mem_cons.mp hv with rfl | hv
  · rfl
  · rcases List.mem_append.mp hv with hv | hv <;> exact bv_one _ v hv, by decide⟩
def secV (s : Sec) : Value := .agg (eSec.f s).toArray
def wrV (x : Wr) : Value := .agg (eWr.f x).toArray
theorem el29 : El eBy 38 5 := ⟨Try.underlying38, .int .u8 0, 1, by kernel_rfl, rfl, by decide⟩
theorem el62 : El eWr 62 88 := ⟨Try.underlying62, wrV ⟨0, zs, zs⟩, 136, by kernel_rfl, by simp [wrV, Value.cells, eWr.len], by decide⟩
theorem size72 : (Try.prog.info? 86).map (·.size) = some 64 := by kernel_rfl
theorem size74 : (Try.prog.info? 88).map (·.size) = some 129 := by kernel_rfl
theorem size5 : (Try.prog.info? 5).map (·.size) = some 1 := by kernel_rfl

/-! ### Filling -/
theorem fill_foldl (off : Nat) : ∀ (vs : List Value) (i : Nat) (cur : Array Value), off + i + vs.length ≤ cur.size →
    (vs.zipIdx i).foldl (fun cs (x : Value × Nat) => cs.setIfInBounds (off + x.2) x.1) cur = (cur.toList.take (off + i) ++ vs ++ cur.toList.drop (off + i + vs.length)).toArray
  | [], i, cur, _ => by simp
  | v :: rest, i, cur, h => by
    simp only [List.length_cons] at h
    have ih := fill_foldl off rest (i + 1) (cur.setIfInBounds (off + i) v) (by simp; omega)
    rw [List.zipIdx_cons, List.foldl_cons]
    rw [ih]
    congr 1
    have e := list_seg_step cur.toList (off + i) v rest (by simp; omega)
    simpa [Array.toList_setIfInBounds, Nat.add_assoc] using e
theorem fill_step (place : Nat → Option (Nat × Nat)) (cells : Array Value) (i off size : Nat) (v : Value) (rest : List (Nat × Value)) (hp : place i = some (off, size)) (hs : v.cells.size = size) (hf : off + size ≤ cells.size) :
    Instr.fill place cells ((i, v) :: rest) = Instr.fill place (cells.toList.take off ++ v.cells.toList ++ cells.toList.drop (off + size)).toArray rest := by
  have hn : ¬ (v.cells.size ≠ size ∨ off + v.cells.size > cells.size) := by rw [hs]; omega
  have e := fill_foldl off v.cells.toList 0 cells (by simp [hs]; omega)
  simp only [Nat.add_zero] at e
  have e2 : v.cells.zipIdx.foldl (fun cs (x : Value × Nat) => cs.setIfInBounds (off + x.2) x.1) cells = (cells.toList.take off ++ v.cells.toList ++ cells.toList.drop (off + v.cells.toList.length)).toArray := by
    rw [← Array.foldl_toList, Array.toList_zipIdx]
    exact e
  rw [Instr.fill, hp]
  simp only []
  rw [e2, if_neg (by simp [hs]; omega)]
  simp [hs]
set_option maxRecDepth 100000 in
theorem places74 : (Try.prog.underlying 88).bind (fun d => match d with | .struct fs => fs.toList.mapM (fun f => (Try.prog.info? f.type).map fun i => (f.offset, i.size)) | _ => none) = some [(0, 1), (1, 64), (65, 64)] := by kernel_rfl
set_option maxRecDepth 100000 in
theorem fields74 : ∃ fs, Try.prog.underlying 88 = some (.struct fs) ∧ fs.toList.mapM (fun f => (Try.prog.info? f.type).map fun i => (f.offset, i.size)) = some [(0, 1), (1, 64), (65, 64)] := by
  have h := places74
  rw [Try.underlying88] at h ⊢
  exact ⟨_, rfl, h⟩
theorem zero74 : ∃ i z, Try.prog.info? 88 = some i ∧ i.zero = some z ∧ z.cells.size = 129 := by
  obtain ⟨z, by_, h, h2, _⟩ := el62.info
  obtain ⟨i, hi, h3, _⟩ := info_parts h
  exact ⟨i, z, hi, h3, h2⟩
theorem built74 (p : Nat) (o n : Sec) : Try.prog.built 88 [(0, .int .i64 (p : Int)), (1, secV o), (2, secV n)] = some (eWr.f ⟨p, o, n⟩).toArray := by
  obtain ⟨fs, hu, hp⟩ := fields74
  obtain ⟨i, z, hi, hz, hs⟩ := zero74
  have ho : (eSec.f o).length = 64 := eSec.len o
  have hn : (eSec.f n).length = 64 := eSec.len n
  unfold Program.built
  rw [hi, hu]
  simp only [hz, hp]
  generalize z.cells = C at hs
  have hC : C.toList.length = 129 := by simp [hs]
  rw [fill_step _ _ 0 0 1 _ _ rfl rfl (by omega)]
  rw [fill_step _ _ 1 1 64 _ _ rfl (by simp [secV, Value.cells, ho]) (by simp [Value.cells, hs])]
  rw [fill_step _ _ 2 65 64 _ _ rfl (by simp [secV, Value.cells, hn]) (by simp [secV, Value.cells, hs, ho])]
  simp only [Instr.fill, secV, Value.cells]
  have e1 : List.drop 128 (eSec.f o) = [] := List.drop_of_length_le (by omega)
  have e2 : List.drop 129 C.toList = [] := List.drop_of_length_le (by omega)
  simp [ho, List.drop_append, e1, e2]
  rfl
theorem run_build74 (p : Nat) (o n : Sec) (w : World) : (Instr.build 88 #[(0, .int .i64 (p : Int)), (1, secV o), (2, secV n)]).run Try.prog w = .ok (wrV ⟨p, o, n⟩) w :=
  run_build w 88 _ _ (built74 p o n)
theorem run_alloc74 (w : World) : (Instr.alloc 88 true (.tuple #[])).run Try.prog w = .ok (.pointer (some ⟨w.heap.size, 0, none⟩)) (w.alloc (.cells (eWr.f ⟨0, zs, zs⟩).toArray 88)) := by
  obtain ⟨z, by_, h, _⟩ : ∃ z by_, (Try.prog.info? 88).map (fun i => (i.zero, i.size, i.bytes)) = some (some z, 129, by_) ∧ z = wrV ⟨0, zs, zs⟩ := ⟨_, 136, by kernel_rfl, rfl⟩
  obtain ⟨i, hi, hz, _⟩ := info_parts h
  subst z
  simp [Instr.alloc, zeroValue, typeInfo, hi, hz, newVar, newRow, newObj, wrV, Value.cells, Result.andThen]
  rfl
theorem run_alloc72 (w : World) : (Instr.alloc 86 true (.tuple #[])).run Try.prog w = .ok (.pointer (some ⟨w.heap.size, 0, none⟩)) (w.alloc (.cells (eSec.f zs).toArray 86)) := by
  obtain ⟨z, by_, h, _⟩ : ∃ z by_, (Try.prog.info? 86).map (fun i => (i.zero, i.size, i.bytes)) = some (some z, 64, by_) ∧ z = secV zs := ⟨_, 64, by kernel_rfl, rfl⟩
  obtain ⟨i, hi, hz, _⟩ := info_parts h
  subst z
  simp [Instr.alloc, zeroValue, typeInfo, hi, hz, newVar, newRow, newObj, secV, Value.cells, Result.andThen]
  rfl
/-- A slice of one element, built of a whole value. -/
theorem run_buildSlice1 {t e : TypeId} {i : TypeInfo} {z v : Value} {n : Nat} (hu : Try.prog.underlying t = some (.slice e)) (hi : Try.prog.info? e = some i) (hz : i.zero = some z) (hs : i.size = n) (hzs : z.cells.size = n) (hv : v.cells.size = n) (h0 : 0 < n) (h1 : n ≤ 1000) (w : World) :
    (Instr.buildSlice t 1 #[(0, v)]).run Try.prog w = .ok (.slice (some ⟨w.heap.size, 0, none⟩) 1 1) (w.alloc (.cells v.cells e)) := by
  have hf : Instr.fill (fun i => some (i * n, n)) ((Array.range (1 * n)).map (z.cells[· % z.cells.size]!)) [(0, v)] = some v.cells := by
    rw [fill_step _ _ 0 0 n _ _ (by simp) hv (by simp)]
    have e : List.drop n (List.map (fun x => z.cells[x % z.cells.size]!) (List.range n)) = [] := List.drop_of_length_le (by simp)
    simp [Instr.fill, e]
  have hn : ¬ (1 * n > 2 ^ 24) := by omega
  have hn2 : ¬ (1 * n = 0) := by omega
  simp only [Instr.buildSlice, Sem.run_bind, run_underlying hu, Result.andThen_ok, sizeOf, typeInfo, zeroValue]
  simp [hi, hz, hs, newRow, newObj, Result.andThen]
  simp only [Nat.one_mul] at hf
  have hg : ¬ (2 ^ 24 < n) := by omega
  simp [Nat.ne_of_gt h0, hg]
  rw [hf]
  simp
  rfl
end Go.Proofs.Ytppdckncnfffcaa
