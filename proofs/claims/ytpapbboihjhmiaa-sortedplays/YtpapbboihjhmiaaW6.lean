/-
  A map in memory. The contracts of New, Set, Del, From, Get, Len, Depth, Copy. Their conditions: the map lies in memory, and has no more keys than a bound.
-/
import Derived.Test.YtpapbboihjhmiaaW4
import Derived.Test.YtpapbboihjhmiaaW5
namespace Go.Proofs.Ytpapbboihjhmiaa
open Go.RowKit

/-- What has not turned: every block that was there, but g. -/
structure Only (g : Nat) (w w' : World) : Prop where
  os : w'.os = w.os
  tape : w'.tape = w.tape
  output : w'.output = w.output
  size : w.heap.size ≤ w'.heap.size
  block : ∀ k, k < w.heap.size → k ≠ g → w'.heap[k]? = w.heap[k]?
theorem Only.of_below {g : Nat} {w w' : World} (h : Below w.heap.size w w') : Only g w w' := ⟨h.os, h.tape, h.output, h.size, fun k hk _ => h.block k hk⟩
theorem Only.trans {g : Nat} {a b c : World} (h : Only g a b) (k : Only g b c) : Only g a c :=
  ⟨k.os.trans h.os, k.tape.trans h.tape, k.output.trans h.output, Nat.le_trans h.size k.size, fun i hi hg => (k.block i (Nat.lt_of_lt_of_le hi h.size) hg).trans (h.block i hi hg)⟩
theorem Only.set {g : Nat} {a w : World} (h : Only g a w) (o : Nat) (u : Value) : Only g a (w.setCell ⟨g, o, none⟩ u) :=
  h.trans ⟨rfl, rfl, rfl, by simp [World.setCell], fun k _ hk => Below.heap_setCell _ _ _ _ hk⟩
theorem Only.below {g : Nat} {B : Nat} {w w' : World} (h : Only g w w') (hB : B ≤ w.heap.size) (hg : B ≤ g) : Below B w w' :=
  ⟨h.os, h.tape, h.output, h.size, fun k hk => h.block k (by omega) (by omega)⟩

/-- A map's own block. -/
def MapBox (w : World) (g : Nat) (root : Option Addr) (n : Int) : Prop := w.heap[g]? = some (.cells #[.pointer root, .int .i64 n] 59 (0, 0))
theorem MapBox.lt {w : World} {g : Nat} {root : Option Addr} {n : Int} (h : MapBox w g root n) : g < w.heap.size := (Array.getElem?_eq_some_iff.mp h).1
theorem MapBox.c0 {w : World} {g : Nat} {root : Option Addr} {n : Int} (h : MapBox w g root n) : w.cell? ⟨g, 0, none⟩ = some (.pointer root) := by simp [World.cell?, show w.heap[g]? = _ from h]
theorem MapBox.c1 {w : World} {g : Nat} {root : Option Addr} {n : Int} (h : MapBox w g root n) : w.cell? ⟨g, 1, none⟩ = some (.int .i64 n) := by simp [World.cell?, show w.heap[g]? = _ from h]
theorem MapBox.frozen {w : World} {g : Nat} {root : Option Addr} {n : Int} (h : MapBox w g root n) (o : Nat) : w.frozen? ⟨g, o, none⟩ = false := by simp [World.frozen?, show w.heap[g]? = _ from h]
theorem MapBox.set0 {w : World} {g : Nat} {root : Option Addr} {n : Int} (h : MapBox w g root n) (q : Option Addr) : MapBox (w.setCell ⟨g, 0, none⟩ (.pointer q)) g q n := by
  unfold MapBox at h ⊢
  simp [World.setCell, Array.getElem?_modify, h]
theorem MapBox.set1 {w : World} {g : Nat} {root : Option Addr} {n : Int} (h : MapBox w g root n) (m : Int) : MapBox (w.setCell ⟨g, 1, none⟩ (.int .i64 m)) g root m := by
  unfold MapBox at h ⊢
  simp [World.setCell, Array.getElem?_modify, h]
theorem MapBox.keep {w w' : World} {g : Nat} {root : Option Addr} {n : Int} (h : MapBox w g root n) (hb : w'.heap[g]? = w.heap[g]?) : MapBox w' g root n := hb.trans h
theorem Only.nodes {g : Nat} {w w' : World} (h : Only g w w') {root : Option Addr} {n : Int} (hg : MapBox w g root n) : Nodes w w' := fun b cs hb => by
  refine h.block b (Array.getElem?_eq_some_iff.mp hb).1 ?_
  rintro rfl
  rw [show w.heap[b]? = _ from hg] at hb
  injection hb with hb
  injection hb with _ h2
  exact absurd h2 (by decide)

/-- A map that lies in block g and holds the pairs L. -/
def MapAt (w : World) (g : Nat) (L : List KV) : Prop := ∃ root t, MapBox w g root (L.length : Int) ∧ TrAt w root t ∧ t.toL = L ∧ Rises L ∧ t.bal
theorem MapAt.lt {w : World} {g : Nat} {L : List KV} (h : MapAt w g L) : g < w.heap.size := by obtain ⟨_, _, h, _⟩ := h; exact h.lt
theorem MapAt.rises {w : World} {g : Nat} {L : List KV} (h : MapAt w g L) : Rises L := by obtain ⟨_, _, _, _, _, h, _⟩ := h; exact h
theorem MapAt.keep {w w' : World} {g : Nat} {L : List KV} (h : MapAt w g L) (hn : Nodes w w') (hb : w'.heap[g]? = w.heap[g]?) : MapAt w' g L := by
  obtain ⟨root, t, h1, h2, h3⟩ := h
  exact ⟨root, t, h1.keep hb, h2.keep hn, h3⟩
theorem MapAt.below {w w' : World} {g : Nat} {L : List KV} (h : MapAt w g L) (hb : Below w.heap.size w w') : MapAt w' g L := h.keep (Nodes.below hb) (hb.block g h.lt)
theorem MapAt.nodes {w w' : World} {g : Nat} {L : List KV} (h : MapAt w g L) (ho : Only g w w') : Nodes w w' := by
  obtain ⟨root, t, h1, _⟩ := h
  exact ho.nodes h1
theorem MapAt.other {w w' : World} {g g' : Nat} {L L' : List KV} (h : MapAt w g L) (h' : MapAt w g' L') (ho : Only g' w w') (hne : g ≠ g') : MapAt w' g L := h.keep (h'.nodes ho) (ho.block g h.lt hne)

theorem new_any (w : World) : Calls Try.prog 10 #[] w fun e w' => e = .returned (.pointer (some ⟨w.heap.size, 0, none⟩)) ∧ MapAt w' w.heap.size [] ∧ Below w.heap.size w w' ∧ w'.heap.size = w.heap.size + 1 := by
  go_enter Try.func10, Try.ntmps10
  go_wp2
  go_ret
  exact ⟨rfl, ⟨none, .nil, heap_new w _, rfl, rfl, rises_nil, trivial⟩, (Below.refl _ _).alloc (Nat.le_refl _) _, by simp⟩

/-- What Set and Del leave. -/
def MapPost (w : World) (g : Nat) (L : List KV) (b : Bool) (e : Ending) (w' : World) : Prop := e = .returned (.bool b) ∧ MapAt w' g L ∧ Only g w w'
set_option maxHeartbeats 1000000 in
theorem set_any (g : Nat) (L : List KV) (k : ByteArray) (v : Int) (w : World) (h : MapAt w g L) (hlen : L.length ≤ 100000) :
    Calls Try.prog 11 #[.pointer (some ⟨g, 0, none⟩), .string k, .int .i64 v] w (MapPost w g (lset L k v) (!lhas L k)) := by
  obtain ⟨root, t, hbox, ht, rfl, hr, hbal⟩ := h
  have hd := Tr.ht_le t
  have C1 := Lib.hid (put_any k v t root w ht (by omega))
  have hlen2 := length_lset k v hr
  have c0 := hbox.c0
  have HM : Hid (∀ w1, Below w.heap.size w w1 → MapBox w1 g root (t.toL.length : Int)) := fun w1 hb => hbox.keep (hb.block g hbox.lt)
  have HP : Hid (∀ w2 q, TrAt w2 q (t.put k v) → MapBox w2 g q ((lset t.toL k v).length : Int) → MapAt w2 g (lset t.toL k v)) :=
    fun w2 q h1 h2 => ⟨q, t.put k v, h2, h1, Tr.put_toL k v t hr, rises_lset hr k v, (Tr.put_bal k v t hbal).1⟩
  rw [Tr.found_has k t hr] at C1
  obtain ⟨n, hn⟩ : ∃ n : Int, n = (t.toL.length : Int) := ⟨_, rfl⟩
  rw [← hn] at HM
  have b1 : 0 ≤ n := by omega
  have b2 : n ≤ 100000 := by omega
  have HN := Lib.hid hn
  have HL := Lib.hid hlen2
  obtain ⟨f, hf⟩ : ∃ f, lhas t.toL k = f := ⟨_, rfl⟩
  rw [hf] at C1 HL ⊢
  clear hbox ht hr hbal hlen hd hlen2 hn hf
  cases f with
  | true =>
    go_enter Try.func11, Try.ntmps11
    go_wp2_with fail
    refine C1.out.mono ?_
    rintro e w1 ⟨q, rfl, t1, bb1⟩
    have M1 := HM.out w1 bb1
    have c0' := M1.c0
    have f0' := M1.frozen 0
    have T1 := Lib.hid t1
    have B1 := Lib.hid bb1
    have MM := Lib.hid M1
    clear t1 bb1 M1 c0
    go_wp2
    go_ret
    have hO : Only g w1 (w1.setCell ⟨g, 0, none⟩ (.pointer q)) := (Only.of_below (Below.refl _ _)).set 0 _
    have hL := HL.out
    simp at hL
    exact ⟨rfl, HP.out _ q (T1.out.keep (hO.nodes MM.out)) (by rw [hL, ← HN.out]; exact MM.out.set0 q), (Only.of_below B1.out).trans hO⟩
  | false =>
    go_enter Try.func11, Try.ntmps11
    go_wp2_with fail
    refine C1.out.mono ?_
    rintro e w1 ⟨q, rfl, t1, bb1⟩
    have M1 := HM.out w1 bb1
    have c0' := M1.c0
    have c1' := M1.c1
    have f0' := M1.frozen 0
    have f1' := M1.frozen 1
    have T1 := Lib.hid t1
    have B1 := Lib.hid bb1
    have MM := Lib.hid M1
    clear t1 bb1 M1 c0
    go_wp2
    go_ret
    have hO : Only g w1 ((w1.setCell ⟨g, 0, none⟩ (.pointer q)).setCell ⟨g, 1, none⟩ (.int .i64 (n + 1))) := ((Only.of_below (Below.refl _ _)).set 0 _).set 1 _
    have hL := HL.out
    simp at hL
    exact ⟨rfl, HP.out _ q (T1.out.keep (hO.nodes MM.out)) (by rw [hL, show ((t.toL.length + 1 : Nat) : Int) = n + 1 by rw [HN.out]; rfl]; exact (MM.out.set0 q).set1 _), (Only.of_below B1.out).trans hO⟩

set_option maxHeartbeats 1000000 in
theorem del_any (g : Nat) (L : List KV) (k : ByteArray) (w : World) (h : MapAt w g L) (hlen : L.length ≤ 100000) :
    Calls Try.prog 13 #[.pointer (some ⟨g, 0, none⟩), .string k] w (MapPost w g (ldel L k) (lhas L k)) := by
  obtain ⟨root, t, hbox, ht, rfl, hr, hbal⟩ := h
  have hd := Tr.ht_le t
  have C1 := Lib.hid (drop_any k t root w ht (by omega))
  have hlen2 := length_ldel k hr
  have c0 := hbox.c0
  have HM : Hid (∀ w1, Below w.heap.size w w1 → MapBox w1 g root (t.toL.length : Int)) := fun w1 hb => hbox.keep (hb.block g hbox.lt)
  have HP : Hid (∀ w2 q, TrAt w2 q (t.drop k) → MapBox w2 g q ((ldel t.toL k).length : Int) → MapAt w2 g (ldel t.toL k)) :=
    fun w2 q h1 h2 => ⟨q, t.drop k, h2, h1, Tr.drop_toL k t hr, rises_ldel hr k, (Tr.drop_bal k t hbal).1⟩
  rw [Tr.found_has k t hr] at C1
  obtain ⟨n, hn⟩ : ∃ n : Int, n = (t.toL.length : Int) := ⟨_, rfl⟩
  rw [← hn] at HM
  have b1 : 0 ≤ n := by omega
  have b2 : n ≤ 100000 := by omega
  have HN := Lib.hid hn
  have HL := Lib.hid hlen2
  obtain ⟨f, hf⟩ : ∃ f, lhas t.toL k = f := ⟨_, rfl⟩
  rw [hf] at C1 HL ⊢
  clear hbox ht hr hbal hlen hd hlen2 hn hf
  cases f with
  | false =>
    go_enter Try.func13, Try.ntmps13
    go_wp2_with fail
    refine C1.out.mono ?_
    rintro e w1 ⟨q, rfl, t1, bb1⟩
    have M1 := HM.out w1 bb1
    have c0' := M1.c0
    have f0' := M1.frozen 0
    have T1 := Lib.hid t1
    have B1 := Lib.hid bb1
    have MM := Lib.hid M1
    clear t1 bb1 M1 c0
    go_wp2
    go_ret
    have hO : Only g w1 (w1.setCell ⟨g, 0, none⟩ (.pointer q)) := (Only.of_below (Below.refl _ _)).set 0 _
    have hL := HL.out
    simp at hL
    exact ⟨rfl, HP.out _ q (T1.out.keep (hO.nodes MM.out)) (by rw [hL, ← HN.out]; exact MM.out.set0 q), (Only.of_below B1.out).trans hO⟩
  | true =>
    go_enter Try.func13, Try.ntmps13
    go_wp2_with fail
    refine C1.out.mono ?_
    rintro e w1 ⟨q, rfl, t1, bb1⟩
    have M1 := HM.out w1 bb1
    have c0' := M1.c0
    have c1' := M1.c1
    have f0' := M1.frozen 0
    have f1' := M1.frozen 1
    have T1 := Lib.hid t1
    have B1 := Lib.hid bb1
    have MM := Lib.hid M1
    clear t1 bb1 M1 c0
    go_wp2
    go_ret
    have hO : Only g w1 ((w1.setCell ⟨g, 0, none⟩ (.pointer q)).setCell ⟨g, 1, none⟩ (.int .i64 (n - 1))) := ((Only.of_below (Below.refl _ _)).set 0 _).set 1 _
    have hL := HL.out
    simp at hL
    have hN := HN.out
    exact ⟨rfl, HP.out _ q (T1.out.keep (hO.nodes MM.out)) (by rw [show ((ldel t.toL k).length : Int) = n - 1 by omega]; exact (MM.out.set0 q).set1 _), (Only.of_below B1.out).trans hO⟩

/-- What From tells. -/
def fromV : Option KV → Value
  | none => .tuple #[.string ⟨#[]⟩, .int .i64 0, .bool false]
  | some p => .tuple #[.string p.1, .int .i64 p.2, .bool true]
/-- What Get tells. -/
def getV : Option Int → Value
  | none => .tuple #[.int .i64 0, .bool false]
  | some v => .tuple #[.int .i64 v, .bool true]
theorem get_from {L : List KV} (hr : Rises L) (k : ByteArray) : lget L k = match lfrom L k with | some p => if p.1 = k then some p.2 else none | none => none := by
  cases hf : lfrom L k with
  | none =>
    have h := List.find?_eq_none.mp hf
    refine lget_none.mpr (lhas_false.mpr ?_)
    rintro p hp rfl
    have := h p hp
    simp [lt_irrefl] at this
  | some p =>
    have h1 := List.mem_of_find?_eq_some hf
    have h2 := List.find?_some hf
    simp at h2
    by_cases e : p.1 = k
    · simp only [e, if_true]
      subst e
      exact (lget_some hr).mpr h1
    · simp only [e, if_false]
      refine lget_none.mpr (lhas_false.mpr ?_)
      rintro q hq rfl
      -- q stands ahead of p, and isn't less
      unfold lfrom at hf
      obtain ⟨A, B, hL, hA⟩ := (List.find?_eq_some_iff_append.mp hf).2
      subst hL
      rcases List.mem_append.mp hq with h | h
      · have := hA q h
        simp [lt_irrefl] at this
      · rcases List.mem_cons.mp h with rfl | h
        · exact e rfl
        · have := (rises_cons.mp (rises_append.mp hr).2.1).1 q h
          rw [h2] at this
          cases this
set_option maxHeartbeats 1000000 in
theorem from_any (g : Nat) (L : List KV) (k : ByteArray) (w : World) (h : MapAt w g L) :
    Calls Try.prog 18 #[.pointer (some ⟨g, 0, none⟩), .string k] w fun e w' => e = .returned (fromV (lfrom L k)) ∧ Below w.heap.size w w' := by
  obtain ⟨root, t, hbox, ht, rfl, hr, hbal⟩ := h
  have C1 := Lib.hid (seek_any k t root w ht)
  have c0 := hbox.c0
  have hs := Tr.seek_from t k none hr
  rw [Option.or_none] at hs
  have HS := Lib.hid hs
  obtain ⟨m, hm⟩ : ∃ m, lfrom t.toL k = m := ⟨_, rfl⟩
  rw [hm] at HS ⊢
  clear hbox ht hr hbal hs hm
  cases m with
  | none =>
    go_enter Try.func18, Try.ntmps18
    go_wp2_with fail
    refine C1.out.mono ?_
    rintro e w1 ⟨q, rfl, t1, b1⟩
    rw [HS.out] at t1
    obtain rfl : q = none := t1
    have B1 := Lib.hid b1
    clear b1 c0
    go_wp2
    exact bodyPost_ret (v := .tuple #[.string ⟨#[]⟩, .int .i64 0, .bool false]) (by simp [results, Try.results18, go_sem]) rfl ⟨rfl, B1.out⟩
  | some p =>
    go_enter Try.func18, Try.ntmps18
    go_wp2_with fail
    refine C1.out.mono ?_
    rintro e w1 ⟨q, rfl, t1, b1⟩
    rw [HS.out] at t1
    obtain ⟨b, rfl, x, y, z, hn⟩ := t1
    have d0 := hn.c0
    have d1 := hn.c1
    have B1 := Lib.hid b1
    clear b1 c0 hn
    go_wp2_with fail
    go_region_held3 (fun w' => w'.cell? ⟨b, 0, none⟩ = some (.string p.1) ∧ w'.cell? ⟨b, 1, none⟩ = some (.int .i64 p.2)) (go_keep) (first | fail)
    go_wp2
    exact bodyPost_ret (v := .tuple #[.string p.1, .int .i64 p.2, .bool true]) (by simp [results, Try.results18, go_sem]) rfl ⟨rfl, B1.out.drew⟩
set_option maxHeartbeats 1000000 in
theorem get_any (g : Nat) (L : List KV) (k : ByteArray) (w : World) (h : MapAt w g L) :
    Calls Try.prog 16 #[.pointer (some ⟨g, 0, none⟩), .string k] w fun e w' => e = .returned (getV (lget L k)) ∧ Below w.heap.size w w' := by
  have C1 := Lib.hid (from_any g L k w h)
  rw [get_from h.rises k]
  obtain ⟨m, hm⟩ : ∃ m, lfrom L k = m := ⟨_, rfl⟩
  rw [hm] at C1 ⊢
  clear h hm
  cases m with
  | none =>
    go_enter Try.func16, Try.ntmps16
    go_wp2_with fail
    refine C1.out.mono ?_
    rintro e w1 ⟨rfl, b1⟩
    have B1 := Lib.hid b1
    clear b1
    simp only [fromV]
    go_wp2
    go_ret2
    exact ⟨rfl, B1.out⟩
  | some p =>
    obtain ⟨a, b⟩ := p
    by_cases e : a = k
    · subst e
      simp only [if_true]
      go_enter Try.func16, Try.ntmps16
      go_wp2_with fail
      refine C1.out.mono ?_
      rintro e w1 ⟨rfl, b1⟩
      have B1 := Lib.hid b1
      clear b1
      simp only [fromV]
      go_wp2
      go_ret2
      exact ⟨rfl, B1.out⟩
    · have h2' : (a.toList == k.toList) = false := toList_ne e
      simp only [e, if_false]
      clear e
      go_enter Try.func16, Try.ntmps16
      go_wp2_with fail
      refine C1.out.mono ?_
      rintro e w1 ⟨rfl, b1⟩
      have B1 := Lib.hid b1
      clear b1
      simp only [fromV]
      go_wp2
      go_ret2
      exact ⟨rfl, B1.out⟩
theorem len_any (g : Nat) (L : List KV) (w : World) (h : MapAt w g L) : Calls Try.prog 20 #[.pointer (some ⟨g, 0, none⟩)] w fun e w' => e = .returned (.int .i64 (L.length : Int)) ∧ w = w' := by
  obtain ⟨root, t, hbox, _⟩ := h
  have c1 := hbox.c1
  clear hbox
  go_enter Try.func20, Try.ntmps20
  go_wp2
  go_ret
  exact ⟨rfl, rfl⟩
/-- How deep a map may be. -/
def Low (L : List KV) (d : Nat) : Prop := 2 ^ ((d + 1) / 2) ≤ L.length + 1 ∧ (d = 0 ↔ L.length = 0) ∧ d ≤ L.length
theorem low_of {t : Tr} (h : t.bal) : Low t.toL t.ht := by
  refine ⟨Tr.bal_many t h, ?_, Tr.ht_le t⟩
  cases t with
  | nil => simp [Tr.ht, Tr.toL]
  | nd l k v r => simp [Tr.ht, Tr.toL]
theorem depth_map (g : Nat) (L : List KV) (w : World) (h : MapAt w g L) : ∃ d : Nat, Low L d ∧ ∀ W, Below w.heap.size w W → Calls Try.prog 24 #[.pointer (some ⟨g, 0, none⟩)] W fun e w' => e = .returned (.int .i64 (d : Int)) ∧ W = w' := by
  obtain ⟨root, t, hbox, ht, rfl, hr, hbal⟩ := h
  refine ⟨t.ht, low_of hbal, fun W hW => ?_⟩
  have C1 := Lib.hid (depth_any root t W (ht.below hW))
  have c0 := (hbox.keep (hW.block g hbox.lt)).c0
  clear hbox ht hr hbal hW
  go_enter Try.func24, Try.ntmps24
  go_wp2_with fail
  refine C1.out.mono ?_
  rintro e w1 ⟨rfl, rfl⟩
  go_wp2
  go_ret
  exact ⟨rfl, rfl⟩
set_option maxHeartbeats 1000000 in
theorem copy_any (g : Nat) (L : List KV) (w : World) (h : MapAt w g L) : Calls Try.prog 15 #[.pointer (some ⟨g, 0, none⟩)] w fun e w' => e = .returned (.pointer (some ⟨w.heap.size, 0, none⟩)) ∧ MapAt w' w.heap.size L ∧ Below w.heap.size w w' ∧ w'.heap.size = w.heap.size + 1 := by
  obtain ⟨root, t, hbox, ht, hL, hr, hbal⟩ := h
  have c0 := hbox.c0
  have c1 := hbox.c1
  have HP : Hid (∀ w', Below w.heap.size w w' → MapBox w' w.heap.size root (L.length : Int) → MapAt w' w.heap.size L) := fun w' hb hm => ⟨root, t, hm, ht.below hb, hL, hr, hbal⟩
  clear hbox ht hL hr hbal
  go_enter Try.func15, Try.ntmps15
  go_wp2_with fail
  go_region_held3 (fun w' => w'.cell? ⟨g, 0, none⟩ = some (.pointer root) ∧ w'.cell? ⟨g, 1, none⟩ = some (.int .i64 (L.length : Int))) (go_keep) (first | fail)
  go_wp2
  go_ret
  have hB : ∀ o, Below w.heap.size w (w.drew.alloc o) := fun o => (Below.refl w.heap.size w).drew.alloc (Nat.le_refl _) _
  exact ⟨rfl, HP.out _ (hB _) (heap_new w.drew _), hB _, by simp⟩
end Go.Proofs.Ytpapbboihjhmiaa
