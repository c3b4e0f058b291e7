/-
  The contracts of takeLeast, meet, drop. Their conditions: the tree lies in memory, and is no deeper than a bound.
-/
import Derived.Test.YtpapbboihjhmiaaW3
namespace Go.Proofs.Ytpapbboihjhmiaa
open Go.RowKit

/-- What takeLeast leaves. -/
def Took (w : World) (t : Tr) (e : Ending) (w' : World) : Prop :=
  ∃ m q, e = .returned (.tuple #[.pointer (some ⟨m, 0, none⟩), .pointer q]) ∧ Mid w' m t.takeL.1.1 t.takeL.1.2 ∧ TrAt w' q t.takeL.2 ∧ Below w.heap.size w w'
theorem Mid.keep {w w' : World} {m : Nat} {k : ByteArray} {v : Int} (h : Mid w m k v) (hn : Nodes w w') : Mid w' m k v := by
  obtain ⟨a, b, c, h⟩ := h
  exact ⟨a, b, c, h.keep hn⟩

set_option maxRecDepth 100000 in
set_option maxHeartbeats 2000000 in
theorem take_any (t : Tr) : ∀ (p : Option Addr) (w : World), TrAt w p t → t.ht ≤ 800000 → t.ht ≠ 0 → Calls Try.prog 41 #[.pointer p] w (Took w t) := by
  induction t with
  | nil => intro p w _ _ h; exact absurd rfl h
  | nd l nk nv r ihl ihr =>
    intro p w h hd _
    obtain ⟨b, pl, pr, rfl, hn, hl, hr⟩ := h
    have hd' : 1 + max l.ht r.ht ≤ 800000 := hd
    have c2 := hn.c2
    have c3 := hn.c3
    cases l with
    | nil =>
      obtain rfl : pl = none := hl
      have HT : Hid (Took w (.nd .nil nk nv r) (.returned (.tuple #[.pointer (some ⟨b, 0, none⟩), .pointer pr])) w.drew) :=
        ⟨b, pr, rfl, ⟨_, _, _, hn⟩, hr.below (Below.refl _ _).drew, (Below.refl _ _).drew⟩
      clear hn hr hd hd' ihl ihr
      go_enter Try.func41, Try.ntmps41
      go_wp2_with fail
      go_region_held3 (fun w' => w'.cell? ⟨b, 3, none⟩ = some (.pointer pr)) (go_keep) (first | fail)
      go_wp2
      go_ret2
      exact HT.out
    | nd x1 x2 x3 x4 =>
      have hp := Tr.takeL_ht (.nd x1 x2 x3 x4)
      have C1 := Lib.hid (ihl pl w hl (by omega) (by simp [Tr.ht]))
      have C2 : Hid (∀ W q, Below w.heap.size w W → TrAt W q (Tr.nd x1 x2 x3 x4).takeL.2 → Calls Try.prog 36 #[.pointer (some ⟨b, 0, none⟩), .pointer q, .pointer pr] W (Made W (Tr.lev nk nv (Tr.nd x1 x2 x3 x4).takeL.2 r))) :=
        fun W q hb hq => level_any b nk nv q pr _ r W ⟨_, _, _, hn.keep (Nodes.below hb)⟩ hq (hr.below hb) (by omega) (by omega)
      have CC : Hid (∀ W, Below w.heap.size w W → W.cell? ⟨b, 3, none⟩ = some (.pointer pr)) := fun W hb => (hn.keep (Nodes.below hb)).c3
      obtain ⟨b2, ql, qr, rfl, _⟩ := hl
      clear hn hr hd hd' hp ihl ihr
      go_enter Try.func41, Try.ntmps41
      go_wp2_with fail
      refine C1.out.mono ?_
      rintro e w1 ⟨m, q, rfl, m1, t1, b1⟩
      have M1 := Lib.hid m1
      have T1 := Lib.hid t1
      have B1 := Lib.hid b1
      have d3 := CC.out _ b1
      clear m1 t1 b1 c2 c3
      go_wp2_with fail
      refine (C2.out _ _ B1.out T1.out).mono ?_
      rintro e w2 ⟨q2, rfl, t2, b2⟩
      have T2 := Lib.hid t2
      have B2 := Lib.hid b2
      clear t2 b2
      go_wp2
      go_ret2
      exact ⟨m, _, rfl, M1.out.keep (Nodes.below B2.out), T2.out, B1.out.trans (B2.out.mono B1.out.size)⟩

set_option maxHeartbeats 1000000 in
theorem meet_any (l r : Tr) (pl pr : Option Addr) (w : World) (hl : TrAt w pl l) (hr : TrAt w pr r) (h1 : l.ht ≤ 800000) (h2 : r.ht ≤ 800000) : Calls Try.prog 37 #[.pointer pl, .pointer pr] w (Made w (Tr.meet l r)) := by
  cases r with
  | nil =>
    obtain rfl : pr = none := hr
    have HL := Lib.hid hl
    clear hl h1 h2
    go_enter Try.func37, Try.ntmps37
    go_wp2
    go_ret
    exact ⟨_, rfl, HL.out, Below.refl _ _⟩
  | nd x1 x2 x3 x4 =>
    have hp := Tr.takeL_ht (.nd x1 x2 x3 x4)
    have C1 := Lib.hid (take_any _ pr w hr h2 (by simp [Tr.ht]))
    have C2 : Hid (∀ W m q, Below w.heap.size w W → Mid W m (Tr.nd x1 x2 x3 x4).takeL.1.1 (Tr.nd x1 x2 x3 x4).takeL.1.2 → TrAt W q (Tr.nd x1 x2 x3 x4).takeL.2 → Calls Try.prog 36 #[.pointer (some ⟨m, 0, none⟩), .pointer pl, .pointer q] W (Made W (Tr.meet l (.nd x1 x2 x3 x4)))) :=
      fun W m q hb hm hq => level_any m _ _ pl q l _ W hm (hl.below hb) hq (by omega) (by omega)
    obtain ⟨b2, ql, qr, rfl, _⟩ := hr
    clear hl h1 h2 hp
    go_enter Try.func37, Try.ntmps37
    go_wp2_with fail
    refine C1.out.mono ?_
    rintro e w1 ⟨m, q, rfl, m1, t1, b1⟩
    have M1 := Lib.hid m1
    have T1 := Lib.hid t1
    have B1 := Lib.hid b1
    clear m1 t1 b1
    go_wp2_with fail
    refine (C2.out _ _ _ B1.out M1.out T1.out).mono ?_
    rintro e w2 ⟨q2, rfl, t2, b2⟩
    have T2 := Lib.hid t2
    have B2 := Lib.hid b2
    clear t2 b2
    go_wp2
    go_ret
    exact ⟨_, rfl, T2.out, B1.out.trans (B2.out.mono B1.out.size)⟩

set_option maxRecDepth 100000 in
set_option maxHeartbeats 2000000 in
theorem drop_any (k : ByteArray) (t : Tr) : ∀ (p : Option Addr) (w : World), TrAt w p t → t.ht ≤ 800000 → Calls Try.prog 31 #[.pointer p, .string k] w (MadeF w (t.drop k) (t.found k)) := by
  induction t with
  | nil =>
    intro p w h _
    obtain rfl : p = none := h
    go_enter Try.func31, Try.ntmps31
    go_wp2
    go_ret2
    exact ⟨_, rfl, rfl, Below.refl _ _⟩
  | nd l nk nv r ihl ihr =>
    intro p w h hd
    have HH := Lib.hid h
    obtain ⟨b, pl, pr, rfl, hn, hl, hr⟩ := h
    have hd' : 1 + max l.ht r.ht ≤ 800000 := hd
    have c0 := hn.c0
    have c2 := hn.c2
    have c3 := hn.c3
    cases h1 : lt k nk with
    | true =>
      have h1' : Op.bytesLess k.toList nk.toList = true := h1
      have e2 : (Tr.nd l nk nv r).found k = l.found k := by simp [Tr.found, h1]
      have hp := Tr.drop_ht k l
      have C1 := Lib.hid (ihl pl w hl (by omega))
      have C2 : Hid (∀ W q, Below w.heap.size w W → TrAt W q (l.drop k) → Calls Try.prog 36 #[.pointer (some ⟨b, 0, none⟩), .pointer q, .pointer pr] W (Made W (Tr.lev nk nv (l.drop k) r))) :=
        fun W q hb hq => level_any b nk nv q pr _ r W ⟨_, _, _, hn.keep (Nodes.below hb)⟩ hq (hr.below hb) (by omega) (by omega)
      have CC : Hid (∀ W, Below w.heap.size w W → W.cell? ⟨b, 3, none⟩ = some (.pointer pr)) := fun W hb => (hn.keep (Nodes.below hb)).c3
      have e1 : (Tr.nd l nk nv r).drop k = if l.found k then Tr.lev nk nv (l.drop k) r else .nd l nk nv r := by simp [Tr.drop, h1]
      rw [e1, e2]
      obtain ⟨f, hf⟩ : ∃ f, l.found k = f := ⟨_, rfl⟩
      rw [hf] at C1 ⊢
      clear hn hl hr hd hd' hp ihl ihr e1 e2 h1 hf
      cases f with
      | false =>
        go_enter Try.func31, Try.ntmps31
        go_wp2_with fail
        refine C1.out.mono ?_
        rintro e w1 ⟨q, rfl, t1, b1⟩
        have B1 := Lib.hid b1
        clear t1 b1 c0 c2 c3
        go_wp2
        go_ret2
        exact ⟨_, rfl, HH.out.below B1.out, B1.out⟩
      | true =>
        go_enter Try.func31, Try.ntmps31
        go_wp2_with fail
        refine C1.out.mono ?_
        rintro e w1 ⟨q, rfl, t1, b1⟩
        have T1 := Lib.hid t1
        have B1 := Lib.hid b1
        have d3 := CC.out _ b1
        clear t1 b1 c0 c2 c3
        go_wp2_with fail
        refine (C2.out _ _ B1.out T1.out).mono ?_
        rintro e w2 ⟨q2, rfl, t2, b2⟩
        have T2 := Lib.hid t2
        have B2 := Lib.hid b2
        clear t2 b2
        go_wp2
        go_ret2
        exact ⟨_, rfl, T2.out, B1.out.trans (B2.out.mono B1.out.size)⟩
    | false =>
      cases h2 : lt nk k with
      | true =>
        have h1' : Op.bytesLess k.toList nk.toList = false := h1
        have h2' : (k.toList == nk.toList) = false := toList_ne (lt_ne h2).symm
        have e2 : (Tr.nd l nk nv r).found k = r.found k := by simp [Tr.found, h1, h2]
        have hp := Tr.drop_ht k r
        have C1 := Lib.hid (ihr pr w hr (by omega))
        have C2 : Hid (∀ W q, Below w.heap.size w W → TrAt W q (r.drop k) → Calls Try.prog 36 #[.pointer (some ⟨b, 0, none⟩), .pointer pl, .pointer q] W (Made W (Tr.lev nk nv l (r.drop k)))) :=
          fun W q hb hq => level_any b nk nv pl q l _ W ⟨_, _, _, hn.keep (Nodes.below hb)⟩ (hl.below hb) hq (by omega) (by omega)
        have CC : Hid (∀ W, Below w.heap.size w W → W.cell? ⟨b, 2, none⟩ = some (.pointer pl)) := fun W hb => (hn.keep (Nodes.below hb)).c2
        have e1 : (Tr.nd l nk nv r).drop k = if r.found k then Tr.lev nk nv l (r.drop k) else .nd l nk nv r := by simp [Tr.drop, h1, h2]
        rw [e1, e2]
        obtain ⟨f, hf⟩ : ∃ f, r.found k = f := ⟨_, rfl⟩
        rw [hf] at C1 ⊢
        clear hn hl hr hd hd' hp ihl ihr e1 e2 h1 h2 hf
        cases f with
        | false =>
          go_enter Try.func31, Try.ntmps31
          go_wp2_with fail
          refine C1.out.mono ?_
          rintro e w1 ⟨q, rfl, t1, b1⟩
          have B1 := Lib.hid b1
          clear t1 b1 c0 c2 c3
          go_wp2
          go_ret2
          exact ⟨_, rfl, HH.out.below B1.out, B1.out⟩
        | true =>
          go_enter Try.func31, Try.ntmps31
          go_wp2_with fail
          refine C1.out.mono ?_
          rintro e w1 ⟨q, rfl, t1, b1⟩
          have T1 := Lib.hid t1
          have B1 := Lib.hid b1
          have d2 := CC.out _ b1
          clear t1 b1 c0 c2 c3
          go_wp2_with fail
          refine (C2.out _ _ B1.out T1.out).mono ?_
          rintro e w2 ⟨q2, rfl, t2, b2⟩
          have T2 := Lib.hid t2
          have B2 := Lib.hid b2
          clear t2 b2
          go_wp2
          go_ret2
          exact ⟨_, rfl, T2.out, B1.out.trans (B2.out.mono B1.out.size)⟩
      | false =>
        obtain rfl : k = nk := lt_tri h1 h2
        have e1 : (Tr.nd l k nv r).drop k = Tr.meet l r := by simp [Tr.drop, h1]
        have e2 : (Tr.nd l k nv r).found k = true := by simp [Tr.found, h1]
        rw [e1, e2]
        have h1' : Op.bytesLess k.toList k.toList = false := h1
        have C1 := Lib.hid (meet_any l r pl pr w.drew (hl.below (Below.refl _ _).drew) (hr.below (Below.refl _ _).drew) (by omega) (by omega))
        have GG : Hid (Below w.heap.size w w.drew) := (Below.refl _ _).drew
        have CC : Hid (∀ W, Below w.heap.size w W → W.cell? ⟨b, 2, none⟩ = some (.pointer pl) ∧ W.cell? ⟨b, 3, none⟩ = some (.pointer pr)) := fun W hb => ⟨(hn.keep (Nodes.below hb)).c2, (hn.keep (Nodes.below hb)).c3⟩
        clear hn hl hr hd hd' ihl ihr e1 e2 h1 h2 HH
        go_enter Try.func31, Try.ntmps31
        go_wp2_with fail
        go_region_held3 (fun w' => w'.cell? ⟨b, 2, none⟩ = some (.pointer pl) ∧ w'.cell? ⟨b, 3, none⟩ = some (.pointer pr)) (first | go_keep | exact ⟨by assumption, by assumption⟩)
          (first | (go_at_call 37; (with_reducible refine C1.out.mono ?_); rintro e w1 ⟨q, rfl, t1, b1⟩; have T1 := Lib.hid t1; have B1 := Lib.hid (GG.out.trans (b1.mono GG.out.size)); obtain ⟨d2, d3⟩ := CC.out _ B1.out; clear t1 b1))
        go_wp2
        go_ret2
        exact ⟨_, rfl, T1.out, B1.out⟩
end Go.Proofs.Ytpapbboihjhmiaa
