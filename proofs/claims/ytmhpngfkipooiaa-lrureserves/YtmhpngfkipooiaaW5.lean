/-
  Rows of texts of the call's own. The contracts of keys, Keys. Their conditions: the cache lies in memory, and has no more things than a bound.
-/
import Derived.Test.YtmhpngfkipooiaaW4
import Derived.Maps.AppendAt
import Derived.Laws.AppendOwnNone
import Derived.Laws.MakeOwn
import Derived.LaidEqlPtr
namespace Go.Proofs.Ytmhpngfkipooiaa
open Go.RowKit Go.Maps

theorem info9 : (Try.prog.info? 9).map (fun i => (i.zero, i.size, i.bytes)) = some (some (.string ⟨#[]⟩), 1, 16) := by kernel_rfl
/-- append by the equation of its run. -/
theorem wpList_append_run {P : Program} {w : World} {ops : Array Oper} {rest : List Oper} {o : Oper} {a : Act} {Q : Exit → Act → World → Prop} (hgd : o.guard = none) (s x : Operand) (t u : TypeId)
    (ho : o.op = .call { callee := .builtin .append, args := #[s, x], argTypes := #[t, u] }) (v y : Value) (hs : a.eval s = v) (hx : a.eval x = y) (v' : Value) (w' : World)
    (hr : (Builtin.append_ #[t, u] o.type #[v, y]).run P w = .ok v' w') (h : wpList P ops Q rest (a.put o.dst v') w') : wpList P ops Q (o :: rest) a w := by
  refine wpList_plain hgd fun K hK => ?_
  unfold Oper.wp
  simp [execOp, ho, resolve, invoke, builtin, hs, hx, hr, Result.andThen]
  exact hK _ _ h

/-- A row of texts of the call's own. -/
def Row (w : World) (base : Nat) (v : Value) (l : List ByteArray) : Prop := w.ownsRow base 9 1 v l.length (l.map Value.string)
theorem Row.nil (w : World) (base : Nat) : Row w base (.slice none 0 0) [] := World.ownsRow_nil _ _ _ _
theorem Row.form {w : World} {base : Nat} {v : Value} {l : List ByteArray} (h : Row w base v l) : ∃ A c, v = .slice A l.length c := by
  rcases h.2 with ⟨rfl, hn⟩ | ⟨g, cap, cur, rfl, _⟩
  · have hl : l = [] := by simpa using hn
    subst hl
    exact ⟨none, 0, rfl⟩
  · exact ⟨_, _, rfl⟩
theorem Row.down {w : World} {base base' : Nat} {v : Value} {l : List ByteArray} (h : Row w base v l) (hb : base' ≤ base) : Row w base' v l := by
  refine ⟨h.1, ?_⟩
  rcases h.2 with h2 | ⟨g, cap, cur, hv, hg, rest⟩
  · exact .inl h2
  · exact .inr ⟨g, cap, cur, hv, by omega, rest⟩
theorem Row.fr {w w' : World} {base base' : Nat} {v : Value} {l : List ByteArray} {k : List Nat} (h : Row w base v l) (hf : Fr k base' w w') (hk : 9 ∉ k) : Row w' base v l := by
  refine ⟨h.1, ?_⟩
  rcases h.2 with h2 | ⟨g, cap, cur, hv, hb, hg, rest⟩
  · exact .inl h2
  · exact .inr ⟨g, cap, cur, hv, hb, hf.keep g _ hg hk, rest⟩
theorem Row.below {w w' : World} {base : Nat} {v : Value} {l : List ByteArray} (h : Row w base v l) (hf : Below w.heap.size w w') : Row w' base v l := h.fr (k := []) (base' := w.heap.size) (Fr.of_below hf (Nat.le_refl _)) (by simp)

/-- One more text. -/
theorem Row.append {W : World} {base : Nat} {v : Value} {l : List ByteArray} (h : Row W base v l) (k : ByteArray) (hb : base ≤ W.heap.size) (hl : l.length ≤ 1000000) :
    ∃ A c w', (Builtin.append_ #[32, 32] 32 #[v, .slice (some ⟨W.heap.size, 0, none⟩) 1 1]).run Try.prog (W.alloc (.cells #[.string k] 9)) = .ok (.slice A (l.length + 1) c) w' ∧
      Row w' base (.slice A (l.length + 1) c) (l ++ [k]) ∧ Fr [9] base W w' := by
  obtain ⟨i0, hi, hz0, hz1, hz2⟩ := info_parts info9
  obtain ⟨v', w', hr, ho, hg, _⟩ := run_append_own (P := Try.prog) (W.alloc (.cells #[.string k] 9)) base 32 32 9 i0 (.string ⟨#[]⟩) 1 16 Try.underlying32 hi hz0 hz1 hz2 rfl (by decide) v l.length (l.map Value.string) (World.ownsRow.alloc h _) ⟨W.heap.size, 0, none⟩ 1 1 [.string k] rfl (cell_one_new _ _ _) (by simp [Value.oneCell']) (by unfold maxLen; omega) (by omega) (by simp; omega)
  have ho' : Row w' base v' (l ++ [k]) := by
    unfold Row
    simpa using ho
  obtain ⟨A, c, rfl⟩ := ho'.form
  simp only [List.length_append, List.length_singleton] at hr ho'
  refine ⟨A, c, w', hr, ho', ?_⟩
  refine ⟨?_, fun b o hbo hk => ?_⟩
  · exact (((Below.refl base W).alloc hb _).grown hg (by simp; omega) (fun j hj => (World.ownsRow.lt h j hj).1))
  · have hlt := (Array.getElem?_eq_some_iff.mp hbo).1
    rw [hg.block b (by simp; omega) ?_, heap_old _ _ hlt]
    · exact hbo
    · intro he
      rcases h.2 with ⟨rfl, _⟩ | ⟨g, cap, cur, rfl, _, hgb, _⟩
      · simp [Value.ownBlock] at he
      · obtain rfl : b = g := by simpa [Value.ownBlock] using he
        rw [hgb] at hbo
        cases hbo
        exact hk (by simp [kd])
/-- A row that is made with room. -/
theorem Row.make (W : World) (base c : Nat) (hb : base ≤ W.heap.size) (hc : c ≤ 100001) :
    ∃ w', (Instr.makeSlice 32 (.int .i64 0) (.int .i64 (c : Int))).run Try.prog W = .ok (.slice (some ⟨W.heap.size, 0, none⟩) 0 c) w' ∧ Row w' base (.slice (some ⟨W.heap.size, 0, none⟩) 0 c) [] ∧ Below W.heap.size W w' := by
  obtain ⟨i0, hi, hz0, hz1, hz2⟩ := info_parts info9
  obtain ⟨w', hr, ho, hg⟩ := run_make_own (P := Try.prog) W base 32 9 i0 (.string ⟨#[]⟩) 1 Try.underlying32 hi hz0 hz1 .i64 .i64 c (by rw [hz2]; omega) (by unfold maxLen; omega) hb
  exact ⟨w', hr, ho, ⟨hg.os, hg.tape, hg.output, hg.size, fun k hk => hg.block k hk (by simp)⟩⟩

/-- A slice (its address A) that reads as the texts l. -/
def Strs (w : World) (A : Option Addr) (l : List ByteArray) : Prop :=
  l.length ≤ maxLen ∧ (0 < l.length → ∃ b off, A = some ⟨b, off, none⟩ ∧ b < w.heap.size ∧ ∀ (k : Nat) (s : ByteArray), l[k]? = some s → w.cell? ⟨b, off + k, none⟩ = some (.string s))
theorem Strs.below {w w' : World} {A : Option Addr} {l : List ByteArray} {B : Nat} (h : Strs w A l) (hB : w.heap.size ≤ B) (hb : Below B w w') : Strs w' A l := by
  obtain ⟨h1, h3⟩ := h
  refine ⟨h1, fun hl => ?_⟩
  obtain ⟨b, off, hA, hlt, hc⟩ := h3 hl
  exact ⟨b, off, hA, Nat.lt_of_lt_of_le hlt hb.size, fun k s hk => by rw [hb.cell (p := ⟨b, _, none⟩) (Nat.lt_of_lt_of_le hlt hB)]; exact hc k s hk⟩
theorem Strs.at_ {w : World} {A : Option Addr} {l : List ByteArray} (h : Strs w A l) {k : Nat} (hk : k < l.length) : ∃ b off, A = some ⟨b, off, none⟩ ∧ b < w.heap.size ∧ w.cell? ⟨b, off + k, none⟩ = some (.string l[k]) := by
  obtain ⟨b, off, hA, hlt, hc⟩ := h.2 (by omega)
  exact ⟨b, off, hA, hlt, hc k _ (List.getElem?_eq_getElem hk)⟩
theorem Row.strs {w : World} {base : Nat} {v : Value} {l : List ByteArray} (h : Row w base v l) (hm : l.length ≤ maxLen) : ∃ A cap, v = .slice A l.length cap ∧ Strs w A l := by
  have h' := h
  rcases h.2 with ⟨rfl, hn⟩ | ⟨g, cap, cur, rfl, hb, hg, rest⟩
  · have hl : l = [] := by
      simpa using hn
    subst hl
    exact ⟨none, 0, rfl, by simp, by simp⟩
  · refine ⟨some ⟨g, 0, none⟩, cap, rfl, hm, fun hl => ⟨g, 0, rfl, (Array.getElem?_eq_some_iff.mp hg).1, fun k s hk => ?_⟩⟩
    have := World.ownsRow.cells h' (g := g) rfl k (.string s) (by simpa using hk)
    have e : (⟨g, 0, none⟩ : Addr).add k = ⟨g, 0 + k, none⟩ := by unfold Addr.add; split <;> simp_all
    rwa [e] at this

theorem seg_at {ol nw : Nat → Nat} {z : Nat} : ∀ {xs : List Nat} {a : Nat}, seg ol nw a xs z → ∀ (j : Nat) (x : Nat), (a :: xs)[j]? = some x → (xs ++ [z])[j]? = some (ol x)
  | [], a, h, j, x, hj => by
    cases j with
    | zero =>
      simp at hj
      subst hj
      simp [h.1]
    | succ j => simp at hj
  | b :: xs, a, ⟨e, _, h⟩, j, x, hj => by
    cases j with
    | zero =>
      simp at hj
      subst hj
      simp [e]
    | succ j => exact seg_at h j x (by simpa using hj)
theorem info66 : (Try.prog.info? 66).map (fun i => i.size) = some 5 := by kernel_rfl
theorem neq_same (w : World) (a : Addr) : (binOp .neq 55 (.pointer (some a)) (.pointer (some a))).run Try.prog w = .ok (.bool false) w := by
  obtain ⟨j, hj, _⟩ := Option.map_eq_some_iff.mp info66
  have h : ∀ d : Nat, (Op.equalIn (d + 1) 55 (.pointer (some a)) (.pointer (some a))).run Try.prog w = .ok true w := fun d => by
    simp [Op.equalIn, run_underlying Try.underlying55, sizeOf, typeInfo, hj, run_sameAddr_same]
  simp only [binOp]
  simp [Op.equal, Op.maxDepth, h 9999]
theorem neq_other {w : World} {a b : Nat} {ca cb : Array Value} {ta tb : TypeId} (hne : ¬ a = b) (ha : w.heap[a]? = some (.cells ca ta (0, 0))) (hb : w.heap[b]? = some (.cells cb tb (0, 0))) :
    (binOp .neq 55 (.pointer (some ⟨a, 0, none⟩)) (.pointer (some ⟨b, 0, none⟩))).run Try.prog w = .ok (.bool true) w := by
  obtain ⟨j, hj, hs⟩ := Option.map_eq_some_iff.mp info66
  have hab : (⟨a, 0, none⟩ : Addr) ≠ ⟨b, 0, none⟩ := fun h => hne (by injection h)
  have h : ∀ d : Nat, (Op.equalIn (d + 1) 55 (.pointer (some ⟨a, 0, none⟩)) (.pointer (some ⟨b, 0, none⟩))).run Try.prog w = .ok false w := fun d => by
    simp [Op.equalIn, run_underlying Try.underlying55, sizeOf, typeInfo, hj, hs, run_sameAddr_other w hab ha hb]
  simp only [binOp]
  simp [Op.equal, Op.maxDepth, h 9999]
def KeysRel (N : List Nd) (e : Nat) (w : World) (s3 s4 : Value) (wr : World) : Prop :=
  ∃ (j : Nat) (A : Option Addr) (c b : Nat), j ≤ N.length ∧ s3 = .slice A j c ∧ s4 = .pointer (some ⟨b, 0, none⟩) ∧ (N.map (·.1) ++ [e])[j]? = some b ∧ Row wr w.heap.size s3 (keys ((N.take j).map (·.2))) ∧ Below w.heap.size w wr
def lenOf : Value → Nat
  | .slice _ n _ => n
  | _ => 0
def KeysPost (w : World) (l : List ByteArray) (r : Ending) (w' : World) : Prop := ∃ v, r = .returned v ∧ Row w' w.heap.size v l ∧ Below w.heap.size w w'
theorem keys_length (L : List Th) : (keys L).length = L.length := by simp [keys]
set_option maxHeartbeats 2000000 in
theorem ringkeys_any (base g e B : Nat) (N : List Nd) (nw ol : Nat → Nat) (sz room kept : Int) (w : World) (h : Core w base g e B N nw ol sz room kept) (hl : N.length ≤ 100000) :
    Calls Try.prog 37 #[.pointer (some ⟨g, 0, none⟩)] w (KeysPost w (keys (N.map (·.2)))) := by
  obtain ⟨n, hn⟩ : ∃ n, n = N.length := ⟨_, rfl⟩
  have hlen : (Builtin.len_ #[56] 3 #[.map (some B)]).run Try.prog w = .ok (.int .i64 (n : Int)) w := by
    obtain ⟨D, hown, _, hsz⟩ := h.mp
    rw [hown.len Try.underlying56, hsz, hn]
  obtain ⟨w1, hr1, o1, b1⟩ := Row.make w w.heap.size n (Nat.le_refl _) (by omega)
  have c0 := h.box.c0
  have c1 := h.box.c1
  have hb1 : Core w1 base g e B N nw ol sz room kept := h.keep (l := []) (base' := w.heap.size) (Fr.of_below b1 (Nat.le_refl _)) (by simp)
  have d0 := hb1.box.c0
  have d4 := (hb1.ln (e, th0) (by simp)).c4
  have H := Lib.hid h
  have O1 := Lib.hid o1
  have B1 := Lib.hid b1
  have HN := Lib.hid hn
  have HL := Lib.hid hl
  clear h hn hl o1 b1 hb1
  go_enter Try.func37, Try.ntmps37
  go_wp2
  go_loopw [3, 4] (KeysRel N e w) (fun s _ _ => n - lenOf s)
  case atStart => exact ⟨0, _, _, _, Nat.zero_le _, rfl, rfl, seg_at H.out.sg 0 e (by simp), O1.out, B1.out⟩
  case round =>
    obtain ⟨j, A, c, b, hj, rfl, rfl, hb, ho, hB⟩ := hrel
    have hc : Core wr base g e B N nw ol sz room kept := H.out.keep (l := []) (base' := w.heap.size) (Fr.of_below hB (Nat.le_refl _)) (by simp)
    have k0 := hc.box.c0
    have HO := Lib.hid ho
    have HB := Lib.hid hB
    rw [← HN.out] at hj
    by_cases hjn : j < n
    · have hjl : j < N.length := by have := HN.out; omega
      have hbx : b = N[j].1 := by
        rw [List.getElem?_append_left (by simpa using hjl)] at hb
        simp [hjl] at hb
        exact hb.symm
      have hlk := hc.ln N[j] (List.mem_cons_of_mem _ (List.getElem_mem hjl))
      rw [← hbx] at hlk
      have hnx := seg_at hc.sg (j + 1) b (by simp [hjl, hbx])
      have hbe : ¬ b = e := by
        intro hbe
        have hq := (List.nodup_cons.mp hc.nd).1
        rw [← hbe, hbx] at hq
        exact hq (List.mem_map_of_mem (List.getElem_mem hjl))
      have hkl : (keys ((N.take j).map (·.2))).length = j := by rw [keys_length, List.length_map, List.length_take]; omega
      obtain ⟨A', c', w2, hr2, o2, f2⟩ := ho.append (N[j].2.k) hB.size (by rw [hkl]; have := HL.out; omega)
      rw [hkl] at hr2 o2
      have hk2 : keys ((N.take (j + 1)).map (·.2)) = keys ((N.take j).map (·.2)) ++ [N[j].2.k] := by
        rw [List.take_succ_eq_append_getElem hjl]
        simp only [keys, List.map_append, List.map_cons, List.map_nil]
      have hx2 : Link w2 b N[j].2 (nw b) (ol b) := hlk.fr f2 (by simp)
      have e0 := hlk.c0
      have e4 := hx2.c4
      have hneq := neq_other hbe hlk (hc.ln (e, th0) (by simp))
      have O2 : Hid (Row w2 w.heap.size (.slice A' (j + 1) c') (keys ((N.take (j + 1)).map (·.2)))) := by rw [hk2]; exact o2
      have B2 := Lib.hid (hB.trans f2.below)
      have NX := Lib.hid hnx
      have R2 := Lib.hid hr2
      generalize N[j].2.k = kk at e0 R2
      generalize ol b = nx at e4 NX
      clear ho hB hb hbx hlk hkl o2 f2 hk2 hx2 hnx hr2 hjl hc hr1 hlen
      go_wp2_with (at_builtin; refine wpList_append_run rfl _ _ 32 32 rfl _ _ rfl rfl _ w2 R2.out ?_)
      go_roundw
      case rel => exact ⟨j + 1, A', c', nx, by rw [← HN.out]; omega, rfl, rfl, NX.out, O2.out, B2.out⟩
      case measure => simp [lenOf]; omega
    · have hje : j = N.length := by have := HN.out; omega
      have hbe : b = e := by
        rw [hje] at hb
        simp at hb
        exact hb.symm
      subst hbe
      have O2 : Hid (Row wr w.heap.size (.slice A j c) (keys (N.map (·.2)))) := by
        have := HO.out
        rw [hje, List.take_length] at this
        rw [hje]
        exact this
      have hneq := neq_same wr ⟨b, 0, none⟩
      clear hb hje ho hB hc hr1 hlen HO
      go_wp2
      go_ret
      exact ⟨_, rfl, O2.out, HB.out⟩
set_option maxHeartbeats 1000000 in
theorem keys_any (base g : Nat) (L : List Th) (room kept : Int) (w : World) (h : CacheAt w base g L room kept) (hl : L.length ≤ 100000) :
    Calls Try.prog 27 #[.pointer (some ⟨g, 0, none⟩)] w (KeysPost w (keys L)) := by
  obtain ⟨e, B, N, nw, ol, hc, rfl, _⟩ := h
  have C1 := Lib.hid (ringkeys_any base g e B N nw ol _ room kept w hc (by simpa using hl))
  clear hc hl
  go_enter Try.func27, Try.ntmps27
  go_wp2_with fail
  refine C1.out.mono ?_
  rintro r w1 ⟨v, rfl, o1, b1⟩
  have O1 := Lib.hid o1
  have B1 := Lib.hid b1
  clear o1 b1
  go_wp2
  go_ret
  exact ⟨_, rfl, O1.out, B1.out⟩
theorem keys_nil (w : World) : Calls Try.prog 27 #[.pointer none] w fun r w' => r = .returned (.slice none 0 0) ∧ w = w' := by
  go_enter Try.func27, Try.ntmps27
  go_wp2
  go_ret
  exact ⟨rfl, rfl⟩
end Go.Proofs.Ytmhpngfkipooiaa
