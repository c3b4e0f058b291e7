/-
  The contract of seek. Its conditions: the tree lies in memory.
-/
import Derived.Test.YtpapbboihjhmiaaW3
namespace Go.Proofs.Ytpapbboihjhmiaa
open Go.RowKit

/-- A pointer to a node with this key and value, or none. -/
def Points (w : World) (q : Option Addr) : Option KV → Prop
  | none => q = none
  | some p => ∃ b, q = some ⟨b, 0, none⟩ ∧ Mid w b p.1 p.2
theorem Points.keep {w w' : World} {q : Option Addr} {m : Option KV} (h : Points w q m) (hn : Nodes w w') : Points w' q m := by
  cases m with
  | none => exact h
  | some p => obtain ⟨b, hb, x, y, z, hm⟩ := h; exact ⟨b, hb, x, y, z, hm.keep hn⟩
/-- How deep the tree at a pointer is, read off memory. -/
def deep (w : World) : Value → Nat
  | .pointer (some a) => match w.cell? ⟨a.block, 4, none⟩ with
    | some v => (intOf v).toNat
    | none => 0
  | _ => 0
theorem deep_eq {w : World} {p : Option Addr} {t : Tr} (h : TrAt w p t) : deep w (.pointer p) = t.ht := by
  cases t with
  | nil => obtain rfl : p = none := h; rfl
  | nd l k v r =>
    obtain ⟨b, pl, pr, rfl, hb, _, _⟩ := h
    simp only [deep, hb.c4, intOf, Tr.ht]
    omega
def SeekRel (k : ByteArray) (T : Tr) (w : World) (s0 s5 : Value) (wr : World) : Prop :=
  ∃ (t : Tr) (m : Option KV) (p q : Option Addr), s0 = .pointer p ∧ s5 = .pointer q ∧ TrAt wr p t ∧ Points wr q m ∧ t.seek k m = T.seek k none ∧ Below w.heap.size w wr
def SeekPost (k : ByteArray) (T : Tr) (w : World) (e : Ending) (w' : World) : Prop := ∃ q, e = .returned (.pointer q) ∧ Points w' q (T.seek k none) ∧ Below w.heap.size w w'
set_option maxHeartbeats 1000000 in
theorem seek_any (k : ByteArray) (T : Tr) (p : Option Addr) (w : World) (h : TrAt w p T) : Calls Try.prog 32 #[.pointer p, .string k] w (SeekPost k T w) := by
  have H := Lib.hid h
  clear h
  go_enter Try.func32, Try.ntmps32
  go_wp2
  go_loopw [0, 5] (SeekRel k T w) (fun n _ wr => deep wr n)
  case atStart => exact ⟨T, none, p, none, rfl, rfl, H.out, rfl, rfl, Below.refl _ _⟩
  case round =>
    clear H p
    obtain ⟨t, m, p, q, rfl, rfl, ht, hm, hs, hb⟩ := hrel
    have HM := Lib.hid hm
    have HS := Lib.hid hs
    have HB := Lib.hid hb
    clear hm hs hb
    cases t with
    | nil =>
      obtain rfl : p = none := ht
      go_wp2
      go_ret
      exact ⟨q, rfl, by rw [← HS.out]; exact HM.out, HB.out⟩
    | nd l nk nv r =>
      have HT := Lib.hid ht
      obtain ⟨b, pl, pr, rfl, hn, hl, hr⟩ := ht
      have c0 := hn.c0
      have c2 := hn.c2
      have c3 := hn.c3
      have HN := Lib.hid hn
      have HL := Lib.hid hl
      have HR := Lib.hid hr
      clear hn hl hr
      cases h1 : lt nk k with
      | true =>
        have e1 : Hid ((Tr.nd l nk nv r).seek k m = r.seek k m) := by show _ = _; simp [Tr.seek, h1]
        have h1' : Op.bytesLess nk.toList k.toList = true := h1
        clear h1
        go_wp2
        go_roundw
        case rel => exact ⟨r, m, pr, q, rfl, rfl, HR.out, HM.out, by rw [← e1.out]; exact HS.out, HB.out⟩
        case measure =>
          rw [deep_eq HR.out, deep_eq HT.out]
          simp only [Tr.ht]
          omega
      | false =>
        have h1' : Op.bytesLess nk.toList k.toList = false := h1
        by_cases h2 : nk = k
        · subst h2
          have e1 : Hid ((Tr.nd l nk nv r).seek nk m = some (nk, nv)) := by show _ = _; simp [Tr.seek, h1]
          clear h1
          go_wp2
          go_ret
          exact ⟨_, rfl, by rw [← HS.out, e1.out]; exact ⟨b, rfl, _, _, _, HN.out⟩, HB.out⟩
        · have e1 : Hid ((Tr.nd l nk nv r).seek k m = l.seek k (some (nk, nv))) := by show _ = _; simp [Tr.seek, h1, h2]
          have h2' : (nk.toList == k.toList) = false := toList_ne h2
          clear h1 h2
          go_wp2_with fail
          go_region_held3 (fun w' => w'.cell? ⟨b, 2, none⟩ = some (.pointer pl)) (go_keep) (first | fail)
          go_wp2
          go_roundw
          case rel => exact ⟨l, some (nk, nv), pl, some ⟨b, 0, none⟩, rfl, rfl, HL.out.below (Below.refl _ _).drew, ⟨b, rfl, _, _, _, HN.out⟩, by rw [← e1.out]; exact HS.out, HB.out.drew⟩
          case measure =>
            have e : deep wr.drew (.pointer pl) = l.ht := deep_eq (HL.out.below (Below.refl _ _).drew)
            rw [e, deep_eq HT.out]
            simp only [Tr.ht]
            omega
end Go.Proofs.Ytpapbboihjhmiaa
