/-
  The contracts of the document's Used, Find, Keys, Release. Their conditions: the cache lies in memory, and has no more things than a bound.
-/
import Derived.Test.YtmhpngfkipooiaaW14
namespace Go.Proofs.Ytmhpngfkipooiaa
open Go.RowKit Go.Maps

theorem int_eq {a b : Int} (h : a = b) : Value.int .i64 a = .int .i64 b := by rw [h]
def UsRel (L : List Th) (kept : Int) (w : World) (s3 s4 : Value) (wr : World) : Prop := ∃ k : Nat, k ≤ L.length ∧ s3 = .int .i64 (kept + tot (L.take k)) ∧ s4 = .int .i64 (k : Int) ∧ wr = w
set_option maxHeartbeats 2000000 in
theorem refused_any (base h : Nat) (L : List Th) (room kept : Int) (w : World) (hr : RefAt w base h L room kept) (hg : Good L room kept) :
    Calls Try.prog 25 #[.pointer (some ⟨h, 0, none⟩)] w fun r w' => r = .returned (.int .i64 (tot L + kept)) ∧ w = w' := by
  obtain ⟨A, c, hbox, hp, hc, hA, hl⟩ := hr.parts
  have c0 := hbox.c0
  have c2 := hbox.c2
  have HP := Lib.hid hp
  have HG := Lib.hid hg
  obtain ⟨n, hn⟩ : ∃ n, n = L.length := ⟨_, rfl⟩
  rw [← hn] at c0
  have HN := Lib.hid hn
  have hn2 : (n : Int) ≤ 100000 := by omega
  clear hbox hp hc hA hl hr hg hn
  go_enter Try.func25, Try.ntmps25
  go_wp2
  go_loopw [3, 4] (UsRel L kept w) (fun _ i _ => n - (intOf i).toNat)
  case atStart => exact ⟨0, Nat.zero_le _, by simp [tot], rfl, rfl⟩
  case round =>
    obtain ⟨k, hk, rfl, rfl, rfl⟩ := hrel
    by_cases hkn : k < n
    · have hkl : k < L.length := by have := HN.out; omega
      obtain ⟨b, off, rfl, xl, x0, x1, x2⟩ := HP.out.at_ hkl
      have hst : tot (L.take (k + 1)) = tot (L.take k) + L[k].s := by
        rw [List.take_succ_eq_append_getElem hkl, tot_append]
        simp [tot]
      have hw : wrap64 (kept + tot (L.take k) + L[k].s) = kept + tot (L.take k) + L[k].s := by
        have h1 := HG.out.kept0
        have h2 := HG.out.fits
        have h3 := HG.out.top
        have h4 := tot_sub HG.out.pos (List.take_sublist (k + 1) L)
        have h5 := (HG.out.pos.sub (List.take_sublist (k + 1) L)).tot
        unfold wrap64
        omega
      have HST : Hid (kept + tot (L.take k) + L[k].s = kept + tot (L.take (k + 1))) := by show _ = _; omega
      have hki : (k : Int) < (n : Int) := by omega
      have hk0 : (0 : Int) ≤ (k : Int) := by omega
      clear hst
      generalize L[k].s = x at x1 hw HST
      generalize tot (L.take k) = y at hw HST ⊢
      have HKL := Lib.hid hkl
      clear xl x0 x2 hkl
      go_wp2
      go_roundw
      case rel => exact ⟨k + 1, HKL.out, int_eq (by have := HST.out; omega), by go_num, rfl⟩
      case measure => simp [intOf]; omega
    · have hke : k = L.length := by have := HN.out; omega
      have HE : Hid (tot (L.take k) = tot L) := by show _ = _; rw [hke, List.take_length]
      have hki : ¬ (k : Int) < (n : Int) := by omega
      generalize tot (L.take k) = y at HE ⊢
      clear hke hk
      go_wp2
      go_ret
      exact ⟨ret_int (by rw [HE.out]; omega), rfl⟩

def FdRel (L : List Th) (key : ByteArray) (w : World) (s5 : Value) (wr : World) : Prop := ∃ k : Nat, k ≤ L.length ∧ s5 = .int .i64 (k : Int) ∧ key ∉ keys (L.take k) ∧ wr = w
set_option maxHeartbeats 2000000 in
theorem reffind_any (base h : Nat) (L : List Th) (room kept : Int) (key : ByteArray) (w : World) (hr : RefAt w base h L room kept) :
    Calls Try.prog 35 #[.pointer (some ⟨h, 0, none⟩), .string key] w fun r w' => ((fnd L key = none ∧ r = .returned (.int .i64 (-1))) ∨ ∃ (k : Nat) (hk : k < L.length), fnd L key = some L[k] ∧ L[k].k = key ∧ key ∉ keys (L.take k) ∧ r = .returned (.int .i64 (k : Int))) ∧ w = w' := by
  obtain ⟨A, c, hbox, hp, hc, hA, hl⟩ := hr.parts
  have c0 := hbox.c0
  have HP := Lib.hid hp
  obtain ⟨n, hn⟩ : ∃ n, n = L.length := ⟨_, rfl⟩
  rw [← hn] at c0
  have HN := Lib.hid hn
  have hn2 : (n : Int) ≤ 100000 := by omega
  clear hbox hp hc hA hl hr hn
  go_enter Try.func35, Try.ntmps35
  go_wp2
  go_loopw [5] (FdRel L key w) (fun i _ => n - (intOf i).toNat)
  case atStart => exact ⟨0, Nat.zero_le _, rfl, by simp [keys], rfl⟩
  case round =>
    obtain ⟨k, hk, rfl, hnk, rfl⟩ := hrel
    have HNK := Lib.hid hnk
    clear hnk
    by_cases hkn : k < n
    · have hkl : k < L.length := by have := HN.out; omega
      obtain ⟨b, off, rfl, xl, x0, x1, x2⟩ := HP.out.at_ hkl
      have hki : (k : Int) < (n : Int) := by omega
      have hk0 : (0 : Int) ≤ (k : Int) := by omega
      by_cases hxy : L[k].k = key
      · have HR : Hid (fnd L key = some L[k]) := by
          show _ = _
          unfold fnd
          rw [List.find?_eq_some_iff_append]
          refine ⟨by simpa using hxy, L.take k, L.drop (k + 1), ?_, fun t ht => ?_⟩
          · rw [← List.drop_eq_getElem_cons hkl, List.take_append_drop]
          · simp only [Bool.not_eq_true', decide_eq_false_iff_not]
            intro e
            exact HNK.out (by rw [← e]; exact List.mem_map_of_mem ht)
        have HALL : Hid (∃ (hk : k < L.length), fnd L key = some L[k] ∧ L[k].k = key ∧ key ∉ keys (L.take k)) := ⟨hkl, HR.out, hxy, HNK.out⟩
        rw [hxy] at x0
        clear xl hxy x1 x2 HR HNK hkl
        go_wp2
        go_ret
        obtain ⟨h1, h2, h3, h4⟩ := HALL.out
        exact ⟨.inr ⟨k, h1, h2, h3, h4, rfl⟩, rfl⟩
      · have HST : Hid (key ∉ keys (L.take (k + 1))) := by
          show _ ∉ _
          rw [List.take_succ_eq_append_getElem hkl]
          simp only [keys, List.map_append, List.mem_append, List.map_cons, List.map_nil, List.mem_singleton]
          rintro (h | h)
          · exact HNK.out h
          · exact hxy h.symm
        have hxy' : (L[k].k.toList == key.toList) = false := toList_ne hxy
        generalize L[k].k = x at x0 hxy'
        have HKL := Lib.hid hkl
        clear xl hxy x1 x2 hkl
        go_wp2
        go_roundw
        case rel => exact ⟨k + 1, HKL.out, by go_num, HST.out, rfl⟩
        case measure => simp [intOf]; omega
    · have hke : k = L.length := by have := HN.out; omega
      have HR : Hid (fnd L key = none) := by
        show _ = _
        rw [fnd_none]
        have := HNK.out
        rw [hke, List.take_length] at this
        exact this
      have hki : ¬ (k : Int) < (n : Int) := by omega
      clear hke hk
      go_wp2
      go_ret
      exact ⟨.inl ⟨HR.out, rfl⟩, rfl⟩

def RkRel (L : List Th) (w : World) (s3 s4 : Value) (wr : World) : Prop :=
  ∃ (k : Nat) (A : Option Addr) (c : Nat), k ≤ L.length ∧ s3 = .slice A k c ∧ s4 = .int .i64 (k : Int) ∧ Row wr w.heap.size s3 (keys (L.take k)) ∧ Below w.heap.size w wr
theorem Row.empty (w : World) : Row (w.alloc (.cells #[] 9)) w.heap.size (.slice (some ⟨w.heap.size, 0, none⟩) 0 0) [] :=
  ⟨rfl, .inr ⟨w.heap.size, 0, #[], rfl, Nat.le_refl _, heap_new _ _, Nat.le_refl _, Nat.zero_le _, rfl, rfl⟩⟩
set_option maxHeartbeats 2000000 in
theorem refkeys_any (base h : Nat) (L : List Th) (room kept : Int) (w : World) (hr : RefAt w base h L room kept) :
    Calls Try.prog 28 #[.pointer (some ⟨h, 0, none⟩)] w (KeysPost w (keys L)) := by
  have H := Lib.hid hr
  obtain ⟨n, hn⟩ : ∃ n, n = L.length := ⟨_, rfl⟩
  have HN := Lib.hid hn
  have hn2 : n ≤ 100000 := by have := hr.2.1; omega
  have HN2 := Lib.hid hn2
  obtain ⟨A0, c0', hbox0, hp0, _, _, _⟩ := hr.parts
  rw [← hn] at hbox0
  have HBX := Lib.hid hbox0
  have HP0 := Lib.hid hp0
  clear hr hn hn2 hbox0 hp0
  go_enter Try.func28, Try.ntmps28
  go_wp2
  go_loopw [3, 4] (RkRel L w) (fun _ i _ => n - (intOf i).toNat)
  case atStart => exact ⟨0, _, _, Nat.zero_le _, rfl, rfl, Row.empty w, (Below.refl _ _).alloc (Nat.le_refl _) _⟩
  case round =>
    obtain ⟨k, A, c, hk, rfl, rfl, ho, hb⟩ := hrel
    have HO := Lib.hid ho
    have HB := Lib.hid hb
    have c0 := (hb.cell (p := ⟨h, 0, none⟩) HBX.out.lt).trans HBX.out.c0
    clear ho hb
    by_cases hkn : k < n
    · have hkl : k < L.length := by have := HN.out; omega
      obtain ⟨b, off, rfl, xl, x0, x1, x2⟩ := (HP0.out.below (Nat.le_refl _) HB.out).at_ hkl
      have hki : (k : Int) < (n : Int) := by omega
      have hk0 : (0 : Int) ≤ (k : Int) := by omega
      have hk5 : (k : Int) ≤ 100000 := by have := HN2.out; omega
      have hlen : (keys (L.take k)).length = k := by rw [keys_length, List.length_take]; omega
      obtain ⟨A', c', w2, hr2, o2, f2⟩ := HO.out.append (L[k].k) HB.out.size (by rw [hlen]; have := HN2.out; omega)
      rw [hlen] at hr2 o2
      have hk2 : keys (L.take (k + 1)) = keys (L.take k) ++ [L[k].k] := by
        rw [List.take_succ_eq_append_getElem hkl]
        simp only [keys, List.map_append, List.map_cons, List.map_nil]
      have O2 : Hid (Row w2 w.heap.size (.slice A' (k + 1) c') (keys (L.take (k + 1)))) := by rw [hk2]; exact o2
      have B2 := Lib.hid (HB.out.trans f2.below)
      have R2 := Lib.hid hr2
      generalize L[k].k = x at x0 R2
      have HKL := Lib.hid hkl
      clear hlen o2 f2 hr2 hk2 xl x1 x2 hkl
      go_wp2_with (at_builtin; refine wpList_append_run rfl _ _ 32 32 rfl _ _ rfl rfl _ w2 R2.out ?_)
      go_roundw
      case rel => exact ⟨k + 1, A', c', HKL.out, rfl, by go_num, O2.out, B2.out⟩
      case measure => simp [intOf]; omega
    · have hke : k = L.length := by have := HN.out; omega
      have O2 : Hid (Row wr w.heap.size (.slice A k c) (keys L)) := by
        have := HO.out
        rw [show L.take k = L by rw [hke, List.take_length]] at this
        exact this
      have hki : ¬ (k : Int) < (n : Int) := by omega
      clear hke hk HO
      go_wp2
      go_ret
      exact ⟨_, rfl, O2.out, HB.out⟩

def RefPost (w : World) (base h : Nat) (L : List Th) (room kept : Int) (v : Value) (r : Ending) (w' : World) : Prop :=
  r = .returned v ∧ RefAt w' base h L room kept ∧ Fr rK base w w'
theorem RefAt.kept {w : World} {base h : Nat} {L : List Th} {room kept : Int} (r : RefAt w base h L room kept) (x : Int) : RefAt (w.setCell ⟨h, 2, none⟩ (.int .i64 x)) base h L room x ∧ Fr rK base w (w.setCell ⟨h, 2, none⟩ (.int .i64 x)) := by
  obtain ⟨h1, h2, v, h3, h4⟩ := r
  have hF : Fr [29] base w (w.setCell ⟨h, 2, none⟩ (.int .i64 x)) := (Fr.refl _ _ _).set h3 (by simp [kd]) h1 _
  exact ⟨⟨h1, h2, v, h3.set2 x, h4.fr hF (by simp)⟩, hF.mono (by simp [rK])⟩
set_option maxHeartbeats 1000000 in
theorem refrelease_any (base h : Nat) (L : List Th) (room kept n : Int) (w : World) (hr : RefAt w base h L room kept) (hg : Good L room kept) :
    Calls Try.prog 22 #[.pointer (some ⟨h, 0, none⟩), .int .i64 n] w (RefPost w base h L room (rel n kept) (.tuple #[])) := by
  have H := Lib.hid hr
  have h0 := hg.kept0
  have h1 := hg.fits
  have h2 := hg.top
  have h3 := hg.tot0
  obtain ⟨A, c, hbox, _⟩ := hr.parts
  have c2 := hbox.c2
  have f2 := hbox.frozen 2
  clear hbox hg hr
  by_cases ha : n > kept
  · by_cases hb : kept > 0
    · have e1 : rel n kept = 0 := by simp [rel, show 0 < n by omega]; omega
      have hw : wrap64 (kept - kept) = 0 := by unfold wrap64; omega
      have HK := Lib.hid (H.out.kept 0)
      rw [e1]
      clear e1 h0 h1 h2 h3
      go_enter Try.func22, Try.ntmps22
      go_wp2
      go_end0
      exact ⟨rfl, HK.out.1, HK.out.2⟩
    · have e1 : rel n kept = kept := by simp [rel, show 0 < n by omega]; omega
      rw [e1]
      clear e1 h0 h1 h2 h3
      go_enter Try.func22, Try.ntmps22
      go_wp2
      go_end0
      exact ⟨rfl, H.out, Fr.refl _ _ _⟩
  · by_cases hb : n > 0
    · have e1 : rel n kept = kept - n := by simp [rel, show 0 < n by omega]; omega
      have hw : wrap64 (kept - n) = kept - n := by unfold wrap64; omega
      have HK := Lib.hid (H.out.kept (kept - n))
      rw [e1]
      clear e1 h0 h1 h2 h3
      go_enter Try.func22, Try.ntmps22
      go_wp2
      go_end0
      exact ⟨rfl, HK.out.1, HK.out.2⟩
    · have e1 : rel n kept = kept := by simp [rel, show ¬ 0 < n by omega]
      rw [e1]
      clear e1 h0 h1 h2 h3
      go_enter Try.func22, Try.ntmps22
      go_wp2
      go_end0
      exact ⟨rfl, H.out, Fr.refl _ _ _⟩
end Go.Proofs.Ytmhpngfkipooiaa
