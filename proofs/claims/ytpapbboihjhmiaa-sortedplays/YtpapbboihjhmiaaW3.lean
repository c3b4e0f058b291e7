/-
  The contracts of put, takeLeast, meet, drop, seek. Their conditions: the tree lies in memory, and is no deeper than a bound.
-/
import Derived.Test.YtpapbboihjhmiaaW2
namespace Go.Proofs.Ytpapbboihjhmiaa
open Go.RowKit

/-- What a call leaves that makes a tree and tells a flag. -/
def MadeF (w : World) (t : Tr) (b : Bool) (e : Ending) (w' : World) : Prop := ∃ p, e = .returned (.tuple #[.pointer p, .bool b]) ∧ TrAt w' p t ∧ Below w.heap.size w w'
theorem toList_ne {a b : ByteArray} (h : a ≠ b) : (a.toList == b.toList) = false := by
  rw [beq_eq_false_iff_ne]
  exact fun e => h (toList_inj e)

set_option maxRecDepth 100000 in
set_option maxHeartbeats 2000000 in
theorem put_any (k : ByteArray) (v : Int) (t : Tr) : ∀ (p : Option Addr) (w : World), TrAt w p t → t.ht ≤ 800000 → Calls Try.prog 29 #[.pointer p, .string k, .int .i64 v] w (MadeF w (t.put k v) (!t.found k)) := by
  induction t with
  | nil =>
    intro p w h _
    obtain rfl : p = none := h
    go_enter Try.func29, Try.ntmps29
    go_wp2
    go_ret2
    exact ⟨_, rfl, ⟨w.heap.size, none, none, rfl, heap_new w _, rfl, rfl⟩, (Below.refl _ _).alloc (Nat.le_refl _) _⟩
  | nd l nk nv r ihl ihr =>
    intro p w h hd
    obtain ⟨b, pl, pr, rfl, hn, hl, hr⟩ := h
    have hd' : 1 + max l.ht r.ht ≤ 800000 := hd
    have c0 := hn.c0
    have c2 := hn.c2
    have c3 := hn.c3
    have c4 := hn.c4
    cases h1 : lt k nk with
    | true =>
      have e1 : (Tr.nd l nk nv r).put k v = Tr.lev nk nv (l.put k v) r := by simp [Tr.put, h1]
      have e2 : (Tr.nd l nk nv r).found k = l.found k := by simp [Tr.found, h1]
      rw [e1, e2]
      have h1' : Op.bytesLess k.toList nk.toList = true := h1
      have hp := Tr.put_ht k v l
      have C1 := Lib.hid (ihl pl w hl (by omega))
      have C2 : Hid (∀ W q, Below w.heap.size w W → TrAt W q (l.put k v) → Calls Try.prog 36 #[.pointer (some ⟨b, 0, none⟩), .pointer q, .pointer pr] W (Made W (Tr.lev nk nv (l.put k v) r))) :=
        fun W q hb hq => level_any b nk nv q pr _ r W ⟨_, _, _, hn.keep (Nodes.below hb)⟩ hq (hr.below hb) (by omega) (by omega)
      have CC : Hid (∀ W, Below w.heap.size w W → W.cell? ⟨b, 3, none⟩ = some (.pointer pr)) := fun W hb => (hn.keep (Nodes.below hb)).c3
      clear hn hl hr hd hd' hp ihl ihr e1 e2 h1
      go_enter Try.func29, Try.ntmps29
      go_wp2_with fail
      refine C1.out.mono ?_
      rintro e w1 ⟨q, rfl, t1, b1⟩
      have T1 := Lib.hid t1
      have B1 := Lib.hid b1
      have d3 := CC.out _ b1
      clear t1 b1 c0 c2 c3 c4
      go_wp2_with fail
      refine (C2.out _ _ B1.out T1.out).mono ?_
      rintro e w2 ⟨q2, rfl, t2, b2⟩
      have T2 := Lib.hid t2
      have B2 := Lib.hid b2
      clear t2 b2
      go_wp2
      go_ret2
      exact ⟨_, rfl, T2.out, B1.out.trans (B2.out.mono B1.out.size)⟩
    | false =>
      cases h2 : lt nk k with
      | true =>
        have e1 : (Tr.nd l nk nv r).put k v = Tr.lev nk nv l (r.put k v) := by simp [Tr.put, h1, h2]
        have e2 : (Tr.nd l nk nv r).found k = r.found k := by simp [Tr.found, h1, h2]
        rw [e1, e2]
        have h1' : Op.bytesLess k.toList nk.toList = false := h1
        have h2' : (k.toList == nk.toList) = false := toList_ne (lt_ne h2).symm
        have hp := Tr.put_ht k v r
        have C1 := Lib.hid (ihr pr w hr (by omega))
        have C2 : Hid (∀ W q, Below w.heap.size w W → TrAt W q (r.put k v) → Calls Try.prog 36 #[.pointer (some ⟨b, 0, none⟩), .pointer pl, .pointer q] W (Made W (Tr.lev nk nv l (r.put k v)))) :=
          fun W q hb hq => level_any b nk nv pl q l _ W ⟨_, _, _, hn.keep (Nodes.below hb)⟩ (hl.below hb) hq (by omega) (by omega)
        have CC : Hid (∀ W, Below w.heap.size w W → W.cell? ⟨b, 2, none⟩ = some (.pointer pl)) := fun W hb => (hn.keep (Nodes.below hb)).c2
        clear hn hl hr hd hd' hp ihl ihr e1 e2 h1 h2
        go_enter Try.func29, Try.ntmps29
        go_wp2_with fail
        refine C1.out.mono ?_
        rintro e w1 ⟨q, rfl, t1, b1⟩
        have T1 := Lib.hid t1
        have B1 := Lib.hid b1
        have d2 := CC.out _ b1
        clear t1 b1 c0 c2 c3 c4
        go_wp2_with fail
        refine (C2.out _ _ B1.out T1.out).mono ?_
        rintro e w2 ⟨q2, rfl, t2, b2⟩
        have T2 := Lib.hid t2
        have B2 := Lib.hid b2
        clear t2 b2
        go_wp2
        go_ret2
        exact ⟨_, rfl, T2.out, B1.out.trans (B2.out.mono B1.out.size)⟩
      | false =>
        obtain rfl : k = nk := lt_tri h1 h2
        have e1 : (Tr.nd l k nv r).put k v = Tr.nd l k v r := by simp [Tr.put, h1]
        have e2 : (Tr.nd l k nv r).found k = true := by simp [Tr.found, h1]
        rw [e1, e2]
        have h1' : Op.bytesLess k.toList k.toList = false := h1
        have HT : Hid (∀ w', Below w.heap.size w w' → TrAt w' pl l ∧ TrAt w' pr r) := fun w' hb => ⟨hl.below hb, hr.below hb⟩
        clear hn hl hr hd hd' ihl ihr e1 e2 h1 h2
        go_enter Try.func29, Try.ntmps29
        go_wp2_with fail
        go_region_held3 (fun w' => w'.cell? ⟨b, 2, none⟩ = some (.pointer pl) ∧ w'.cell? ⟨b, 3, none⟩ = some (.pointer pr) ∧ w'.cell? ⟨b, 4, none⟩ = some (.int .i64 ((1 + max l.ht r.ht : Nat) : Int))) (go_keep) (first | fail)
        go_wp2
        go_ret2
        have hB : ∀ o, Below w.heap.size w (w.drew.alloc o) := fun o => (Below.refl w.heap.size w).drew.alloc (Nat.le_refl _) _
        obtain ⟨t1, t2⟩ := HT.out _ (hB (.cells #[.string k, .int .i64 v, .pointer pl, .pointer pr, .int .i64 ((1 + max l.ht r.ht : Nat) : Int)] 66))
        exact ⟨_, rfl, ⟨w.heap.size, pl, pr, rfl, heap_new w.drew _, t1, t2⟩, hB _⟩
end Go.Proofs.Ytpapbboihjhmiaa
