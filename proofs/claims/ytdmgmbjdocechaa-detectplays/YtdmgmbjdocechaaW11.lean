/-
  The contracts of the document's Beat, Live, Tick. Their conditions: the detector lies in memory; its moment and its changes are below a bound.
-/
import Derived.Test.YtdmgmbjdocechaaW10
namespace Go.Proofs.Ytdmgmbjdocechaa
open Go.RowKit Go.Maps Go.ChangeMaps
open Go.Sort (grow)

def RefPost (w : World) (base h : Nat) (L : List Tm) (pat now ch : Int) (v : Value) (r : Ending) (w' : World) : Prop := r = .returned v ∧ RefAt w' base h L pat now ch ∧ Fr rK [] base w w'
set_option maxHeartbeats 4000000 in
theorem refbeat_any (base h : Nat) (L : List Tm) (pat now ch : Int) (k : ByteArray) (w : World) (hr : RefAt w base h L pat now ch) (hg : Good L pat now ch) (hnow : now ≤ 1000000) (hch : ch ≤ 1000000000) (hbs : base ≤ w.heap.size) :
    Calls Try.prog 14 #[.pointer (some ⟨h, 0, none⟩), .string k] w (RefPost w base h (beatL L now k) pat now (ch + b2i (beatB L pat now k)) (.bool (beatB L pat now k))) := by
  have CF := Lib.hid (find_any base h L pat now ch k w hr)
  have HR := Lib.hid hr
  have HG := Lib.hid hg
  have HB : Hid (now ≤ 1000000 ∧ ch ≤ 1000000000 ∧ base ≤ w.heap.size) := ⟨hnow, hch, hbs⟩
  clear hr hg hnow hch hbs
  go_enter Try.func14, Try.ntmps14
  go_wp2_with fail
  refine CF.out.mono ?_
  rintro r w1 ⟨v, rfl, hf, rfl⟩
  clear CF
  rcases hf with ⟨i, hi, hik, rfl⟩ | ⟨hk, rfl⟩
  · have hh : has L k = true := by rw [← hik]; exact has_iff.mpr (List.mem_map_of_mem (List.getElem_mem hi))
    have hv : val L k = L[i].n := by rw [← hik]; exact val_mem HG.out.rs (List.getElem_mem hi)
    have HE1 : Hid (beatL L now k = L.set i ⟨k, now⟩ ∧ beatB L pat now k = !liv pat now L[i].n) := by
      refine ⟨?_, ?_⟩
      · have := set_ins HG.out.rs hi now
        rw [hik] at this
        rw [this]
        simp [beatL, hh]
      · simp [beatB, hh, hv, liv]
    have hlo := HG.out.lo _ (List.getElem_mem hi)
    have hhi := HG.out.hi _ (List.getElem_mem hi)
    have hn0 := HG.out.n0
    have hc0 := HG.out.c0
    have CL := Lib.hid (lives_any base h L pat now ch now i w HR.out hi hlo (by have := HB.out; omega) hn0 HB.out.1)
    obtain ⟨A, c, hbox, hrow, hp, _, _, _⟩ := HR.out.parts
    have c2 := hbox.c2
    obtain ⟨b, off, rfl, -, -, -⟩ := at_tm hp hi
    have HBX := Lib.hid hbox
    have HRW := Lib.hid hrow
    have HSET := Lib.hid (fun (w1 : World) (b1 : Below w.heap.size w w1) => ref_set (n := now) (HR.out.below b1) (HBX.out.below b1) (HRW.out.below b1) hi)
    rw [hik] at HSET
    have HX := Lib.hid (fun (w1 : World) (b1 : Below w.heap.size w w1) => (hp.below (Nat.le_refl _) b1).at2 hi 1 _ rfl)
    simp only [show eTm.wd = 2 from rfl] at HX
    generalize hxn : L[i].n = xn at HX
    have hil : (i : Int) < (L.length : Int) := by omega
    have hi0 : (0 : Int) ≤ (i : Int) := by omega
    have hcm : ch ≤ 1000000000 := HB.out.2.1
    rw [hxn] at CL HE1
    generalize liv pat now xn = lv at CL HE1
    clear hbox hrow hp hh hv hlo hhi hik hxn hi
    go_wp2_with fail
    refine CL.out.mono ?_
    rintro r w1 ⟨rfl, b1⟩
    obtain ⟨t2, f2, fz, d3, fz3⟩ := HSET.out w1 b1
    have d0 := (HBX.out.below b1).c0
    have d1 := HX.out w1 b1
    have d2 := (HBX.out.below b1).c2
    have T2 := Lib.hid t2
    have F2 : Hid (Fr rK [] base w (w1.setCell ⟨b, off + i * 2 + 1, none⟩ (.int .i64 now))) := (Fr.of_below b1 HB.out.2.2).trans f2
    obtain ⟨n, hn⟩ : ∃ n, n = L.length := ⟨_, rfl⟩
    rw [← hn] at d0 hil
    clear t2 f2 b1 CL c2 HSET HX hn
    cases lv
    · obtain ⟨t4, f4⟩ := ref_ch T2.out (ch + 1)
      have t5 := t4.below (Below.refl _ _).drew
      have HE : Hid (RefPost w base h (beatL L now k) pat now (ch + b2i (beatB L pat now k)) (.bool (beatB L pat now k)) (.returned (.bool true)) ((w1.setCell ⟨b, off + i * 2 + 1, none⟩ (.int .i64 now)).setCell ⟨h, 3, none⟩ (.int .i64 (ch + 1))).drew) := by
        show RefPost _ _ _ _ _ _ _ _ _ _
        rw [HE1.out.1, HE1.out.2]
        exact ⟨rfl, t5, (F2.out.trans (f4.mono (by simp [rK]) (by simp))).drew⟩
      clear t4 f4 t5
      go_wp2_with fail
      go_region
      go_wp2
      go_ret
      exact HE.out
    · have HE : Hid (RefPost w base h (beatL L now k) pat now (ch + b2i (beatB L pat now k)) (.bool (beatB L pat now k)) (.returned (.bool false)) (w1.setCell ⟨b, off + i * 2 + 1, none⟩ (.int .i64 now)).drew) := by
        show RefPost _ _ _ _ _ _ _ _ _ _
        rw [HE1.out.1, HE1.out.2, show ch + b2i (!true) = ch by simp [b2i]]
        exact ⟨rfl, T2.out.below (Below.refl _ _).drew, F2.out.drew⟩
      go_wp2_with fail
      go_region
      go_wp2
      go_ret
      exact HE.out
  · have hno := has_no.mpr hk
    have HE : Hid (RefPost w base h (beatL L now k) pat now (ch + b2i (beatB L pat now k)) (.bool (beatB L pat now k)) (.returned (.bool false)) w) := by
      have e1 : beatL L now k = L := by simp [beatL, hno]
      have e2 : beatB L pat now k = false := by simp [beatB, hno]
      show RefPost _ _ _ _ _ _ _ _ _ _
      rw [e1, e2, show ch + b2i false = ch by simp [b2i]]
      exact ⟨rfl, HR.out, Fr.refl _ _ _ _⟩
    clear hk hno
    go_wp2
    go_ret
    exact HE.out

/-! ### Live, Tick -/
theorem sel_take {L : List Tm} {p : Int → Bool} {j : Nat} (hj : j < L.length) : sel (L.take (j + 1)) p = sel (L.take j) p ++ (if p L[j].n then [L[j].k] else []) := by
  unfold sel keys
  rw [List.take_succ_eq_append_getElem hj, List.filter_append, List.map_append]
  congr 1
  by_cases h : p L[j].n = true <;> simp [h]
theorem sel_take_le (L : List Tm) (p : Int → Bool) (j : Nat) : (sel (L.take j) p).length ≤ j := by
  have := sel_length (L.take j) p
  rw [List.length_take] at this
  omega
/-- A step that writes a row's own block. -/
theorem Fr.own {α : Type} {E : Enc α} {e : TypeId} {w w' : World} {base : Nat} {v : Value} {l : List α} (h : RowT E e w base v l) (hg : w.grownBy w' v.ownBlock) (hb : base ≤ w.heap.size) : Fr [e] [] base w w' := by
  cases hv : v.ownBlock with
  | none =>
    rw [hv] at hg
    exact Fr.of_below (Below.of_none hg) hb
  | some k =>
    rw [hv] at hg
    obtain ⟨h1, cs, h2⟩ := h.own hv
    exact (Fr.refl _ _ _ _).grown hg h2 (.inl (by simp [kd])) h1
/-- A step that writes the own block of a row in new memory. -/
theorem Fr.ownNew {α : Type} {E : Enc α} {e : TypeId} {a w w' : World} {base : Nat} {v : Value} {l : List α} {ks ms : List Nat} (hf : Fr ks ms base a w) (h : RowT E e w a.heap.size v l) (hg : w.grownBy w' v.ownBlock) (hb : base ≤ a.heap.size) : Fr ks ms base a w' := by
  cases hv : v.ownBlock with
  | none =>
    rw [hv] at hg
    exact hf.trans (Fr.of_below (Below.of_none hg) (Nat.le_trans hb hf.size))
  | some k =>
    rw [hv] at hg
    obtain ⟨h1, _⟩ := h.own hv
    exact hf.grownNew hg h1 hb
def LvRel (L : List Tm) (pat now : Int) (w : World) (s3 s4 : Value) (wr : World) : Prop :=
  ∃ (k : Nat) (v : Value), k ≤ L.length ∧ v = s3 ∧ s4 = .int .i64 (k : Int) ∧ RowT eKy 9 wr w.heap.size v (sel (L.take k) (liv pat now)) ∧ Below w.heap.size w wr
set_option maxRecDepth 100000 in
set_option maxHeartbeats 4000000 in
theorem reflive_any (base h : Nat) (L : List Tm) (pat now ch : Int) (w : World) (hr : RefAt w base h L pat now ch) (hg : Good L pat now ch) (hnow : now ≤ 1000000) :
    Calls Try.prog 17 #[.pointer (some ⟨h, 0, none⟩)] w (RowPost w (liveL L pat now)) := by
  obtain ⟨n, hn⟩ : ∃ n, n = L.length := ⟨_, rfl⟩
  have HN := Lib.hid hn
  have HR := Lib.hid hr
  have HG := Lib.hid hg
  have HW := Lib.hid hnow
  have hm2 : (n : Int) ≤ 100000 := by have := hr.2.1; omega
  have ROW0 := Lib.hid (RowT.empty (E := eKy) (e := 9) w)
  have B0 : Hid (Below w.heap.size w (w.alloc (.cells #[] 9))) := (Below.refl _ _).alloc (Nat.le_refl _) _
  clear hn hr hg hnow
  go_enter Try.func17, Try.ntmps17
  go_wp2
  go_loopw [3, 4] (LvRel L pat now w) (fun _ i _ => n - (intOf i).toNat)
  case atStart => exact ⟨0, _, Nat.zero_le _, rfl, rfl, ROW0.out, B0.out⟩
  case round =>
    obtain ⟨k, v, hk, rfl, rfl, hrow, hb⟩ := hrel
    have HROW := Lib.hid hrow
    have HB := Lib.hid hb
    clear hrow hb ROW0 B0
    obtain ⟨A2, c2, hbox, _, htg, _, _, _⟩ := (HR.out.below HB.out).parts
    rw [← HN.out] at hbox
    have c0 := hbox.c0
    have d2 := hbox.c2
    have HBX := Lib.hid hbox
    have HTG := Lib.hid htg
    clear htg hbox
    by_cases hkm : k < n
    · have hkl : k < L.length := by have := HN.out; omega
      have hki : (k : Int) < (n : Int) := by omega
      have hk0 : (0 : Int) ≤ (k : Int) := by omega
      have HT := Lib.hid (sel_take (p := liv pat now) hkl)
      have CL := Lib.hid (lives_any base h L pat now ch now k wr (HR.out.below HB.out) hkl (HG.out.lo _ (List.getElem_mem hkl)) (by have := HG.out.hi _ (List.getElem_mem hkl); have := HW.out; omega) HG.out.n0 HW.out)
      obtain ⟨b, off, rfl, -, -, -⟩ := at_tm HTG.out hkl
      have HX := Lib.hid (fun (W : World) (hW : Below wr.heap.size wr W) => (HTG.out.below (Nat.le_refl _) hW).at2 hkl 0 _ rfl)
      simp only [show eTm.wd = 2 from rfl, Nat.add_zero] at HX
      have HKL : Hid (k + 1 ≤ L.length) := hkl
      have HLT : Hid ((sel (L.take k) (liv pat now)).length ≤ k ∧ k < 100000) := ⟨sel_take_le _ _ _, by omega⟩
      generalize liv pat now L[k].n = lv at CL HT
      generalize L[k].k = z at HX HT
      clear hkl hk
      cases lv
      · have HT2 : Hid (sel (L.take (k + 1)) (liv pat now) = sel (L.take k) (liv pat now)) := by show _ = _; rw [HT.out]; simp
        clear HT
        go_wp2_with fail
        refine CL.out.mono ?_
        rintro r w3 ⟨rfl, b3⟩
        have HB3 := Lib.hid (HB.out.trans (b3.mono HB.out.size))
        have HR3 : Hid (RowT eKy 9 w3 w.heap.size v (sel (L.take (k + 1)) (liv pat now))) := by
          show RowT _ _ _ _ _ _
          rw [HT2.out]
          exact HROW.out.below b3
        clear b3 CL
        go_wp2
        go_roundw
        case rel => exact ⟨k + 1, v, HKL.out, rfl, by go_num, HR3.out, HB3.out⟩
        case measure => simp [intOf]; omega
      · have HT2 : Hid (sel (L.take (k + 1)) (liv pat now) = sel (L.take k) (liv pat now) ++ [z]) := by show _ = _; rw [HT.out]; simp
        clear HT
        go_wp2_with fail
        refine CL.out.mono ?_
        rintro r w3 ⟨rfl, b3⟩
        have hb3 := HB.out.trans (b3.mono HB.out.size)
        obtain ⟨v', W', hrun, ho, hb'⟩ := RowT.grow el22 (w := w) rfl ((HROW.out.below b3).below ((Below.refl _ _).alloc (Nat.le_refl _) (.cells #[.string z] 9))) (hb3.alloc hb3.size (.cells #[.string z] 9)) (sl_one (E := eKy) w3 z 9) (n := 1) (c := 1) rfl (by simp) (by have := HLT.out; omega)
        have HO : Hid (RowT eKy 9 W' w.heap.size v' (sel (L.take (k + 1)) (liv pat now))) := by
          show RowT _ _ _ _ _ _
          rw [HT2.out]
          exact ho
        have R1 := Lib.hid hrun
        have HBB := Lib.hid hb'
        have e0 := (HBX.out.below b3).c0
        have e1 := HX.out w3 b3
        clear ho hb' hrun b3 hb3 CL c0 d2
        go_wp2_with (first | (at_builtin; refine wpList_append_run rfl _ _ 22 22 rfl _ _ rfl rfl _ W' R1.out ?_))
        go_roundw
        case rel => exact ⟨k + 1, _, HKL.out, rfl, by go_num, HO.out, HBB.out⟩
        case measure => simp [intOf]; omega
    · have hke : k = L.length := by have := HN.out; omega
      have hki : ¬ (k : Int) < (n : Int) := by omega
      rw [hke, List.take_length] at HROW
      clear hke hk hkm
      go_wp2
      go_ret
      exact ⟨v, rfl, HROW.out, HB.out⟩
theorem die_liv (pat now n : Int) : die pat (now + 1) n = (liv pat now n && !liv pat (now + 1) n) := by
  unfold die liv
  rw [Bool.eq_iff_iff]
  simp
  omega
structure TrI (L : List Tm) (pat now ch n1 : Int) (base h : Nat) (w : World) (k : Nat) (v : Value) (cc : Int) (wr : World) : Prop where
  row : RowT eKy 9 wr w.heap.size v (sel (L.take k) (die pat n1))
  ref : RefAt wr base h L pat n1 cc
  cc : cc = ch + ((sel (L.take k) (die pat n1)).length : Int)
  fr : Fr [38] [] base w wr
theorem TrI.below {L : List Tm} {pat now ch n1 : Int} {base h : Nat} {w : World} {k : Nat} {v : Value} {cc : Int} {wr W : World} (i : TrI L pat now ch n1 base h w k v cc wr) (hbs : base ≤ w.heap.size) (hb : Below wr.heap.size wr W) : TrI L pat now ch n1 base h w k v cc W :=
  ⟨i.row.below hb, i.ref.below hb, i.cc, i.fr.trans (Fr.of_below hb (Nat.le_trans hbs i.fr.size))⟩
def TrRel (L : List Tm) (pat now ch n1 : Int) (base h : Nat) (w : World) (s3 s4 : Value) (wr : World) : Prop :=
  ∃ (k : Nat) (v : Value) (cc : Int), k ≤ L.length ∧ v = s3 ∧ s4 = .int .i64 (k : Int) ∧ TrI L pat now ch n1 base h w k v cc wr
/-- One that dies. -/
theorem TrI.dies {L : List Tm} {pat now ch n1 : Int} {base h : Nat} {w : World} {k : Nat} {v : Value} {cc : Int} {W : World} (i : TrI L pat now ch n1 base h w k v cc W) (hbs : base ≤ w.heap.size) {z : ByteArray} (hT : sel (L.take (k + 1)) (die pat n1) = sel (L.take k) (die pat n1) ++ [z]) (hk : k < 100000) :
    ∃ v' W', (Builtin.append_ #[22, 22] 22 #[v, .slice (some ⟨W.heap.size, 0, none⟩) 1 1]).run Try.prog (W.alloc (.cells #[.string z] 9)) = .ok v' W' ∧ W'.cell? ⟨h, 3, none⟩ = some (.int .i64 cc) ∧ W'.frozen? ⟨h, 3, none⟩ = false ∧ TrI L pat now ch n1 base h w (k + 1) v' (cc + 1) (W'.setCell ⟨h, 3, none⟩ (.int .i64 (cc + 1))) := by
  have b3 : Below W.heap.size W (W.alloc (.cells #[.string z] 9)) := (Below.refl _ _).alloc (Nat.le_refl _) _
  have hbs2 : w.heap.size ≤ W.heap.size := i.fr.size
  have j := i.below hbs b3
  have hle := sel_take_le L (die pat n1) k
  obtain ⟨v', W', hrun, ho, hg⟩ := j.row.app el22 j.fr.size (sl_one (E := eKy) W z 9) (n := 1) (c := 1) rfl (by simp) (by omega)
  have F1 := Fr.own j.row hg j.fr.size
  have F2 := Fr.ownNew j.fr j.row hg hbs
  have R2 := j.ref.keep F1 (by simp) (by simp)
  obtain ⟨R3, F3⟩ := ref_ch R2 (cc + 1)
  obtain ⟨_, _, hbox, _⟩ := R2.parts
  refine ⟨v', W', hrun, hbox.c3, hbox.frozen 3, ⟨?_, R3, ?_, F2.trans F3⟩⟩
  · rw [hT]
    exact ho.fr F3 (by simp) (by simp)
  · rw [hT, i.cc]
    simp
    omega
set_option maxRecDepth 100000 in
set_option maxHeartbeats 8000000 in
theorem reftick_any (base h : Nat) (L : List Tm) (pat now ch : Int) (w : World) (hr : RefAt w base h L pat now ch) (hg : Good L pat now ch) (hnow : now < 1000000) (hch : ch ≤ 1000000000) (hbs : base ≤ w.heap.size) :
    Calls Try.prog 12 #[.pointer (some ⟨h, 0, none⟩)] w fun r w' => ∃ v, r = .returned v ∧ RowT eKy 9 w' w.heap.size v (dieL L pat (now + 1)) ∧ RefAt w' base h L pat (now + 1) (ch + ((dieL L pat (now + 1)).length : Int)) ∧ Fr [38] [] base w w' := by
  obtain ⟨n, hn⟩ : ∃ n, n = L.length := ⟨_, rfl⟩
  obtain ⟨n1, hn1⟩ : ∃ n1, n1 = now + 1 := ⟨_, rfl⟩
  have b0 : Below w.heap.size w (w.alloc (.cells #[] 9)) := (Below.refl _ _).alloc (Nat.le_refl _) _
  obtain ⟨_, _, hbx0, _⟩ := (hr.below b0).parts
  have q2 := hbx0.c2
  have qz := hbx0.frozen 2
  obtain ⟨r1, f1⟩ := ref_now (hr.below b0) n1
  have HI0 : Hid (TrI L pat now ch n1 base h w 0 (.slice (some ⟨w.heap.size, 0, none⟩) 0 0) ch ((w.alloc (.cells #[] 9)).setCell ⟨h, 2, none⟩ (.int .i64 n1))) :=
    ⟨(RowT.empty (E := eKy) (e := 9) w).fr f1 (by simp) (by simp), r1, by simp [sel, keys], (Fr.of_below b0 hbs).trans f1⟩
  have hn0 := hg.n0
  have hadd : IntKind.i64.wrap (now + 1) = n1 := by
    rw [hn1]
    exact IntWalk.i64_in _ (by omega)
  have hsub : IntKind.i64.wrap (n1 - 1) = now := by
    rw [hn1, show now + 1 - 1 = now by omega]
    exact IntWalk.i64_in _ (by omega)
  have HN := Lib.hid hn
  have HN1 := Lib.hid hn1
  have HR := Lib.hid hr
  have HG := Lib.hid hg
  have HW := Lib.hid hnow
  have HS := Lib.hid hbs
  have HCC : Hid (0 ≤ ch ∧ ch ≤ 1000000000) := ⟨hg.c0, hch⟩
  have hm2 : (n : Int) ≤ 100000 := by have := hr.2.1; omega
  clear hn hr hg hnow hbs hch r1 f1 b0 hbx0 hn1
  rw [← HN1.out]
  go_enter Try.func12, Try.ntmps12
  go_wp2_with fail
  go_loopw [3, 4] (TrRel L pat now ch n1 base h w) (fun _ i _ => n - (intOf i).toNat)
  case atStart => exact ⟨0, _, ch, Nat.zero_le _, rfl, rfl, HI0.out⟩
  case round =>
    obtain ⟨k, v, cc, hk, rfl, rfl, hi⟩ := hrel
    have HI := Lib.hid hi
    obtain ⟨A2, c2, hbox, _, htg, _, _, _⟩ := hi.ref.parts
    rw [← HN.out] at hbox
    have c0 := hbox.c0
    have d2 := hbox.c2
    have HBX := Lib.hid hbox
    have HTG := Lib.hid htg
    clear htg hbox hi HI0 q2 qz hadd
    by_cases hkm : k < n
    · have hkl : k < L.length := by have := HN.out; omega
      have hki : (k : Int) < (n : Int) := by omega
      have hk0 : (0 : Int) ≤ (k : Int) := by omega
      have HT := Lib.hid (sel_take (p := die pat n1) hkl)
      have hlo := HG.out.lo _ (List.getElem_mem hkl)
      have hhi : L[k].n ≤ 1000000 := by have := HG.out.hi _ (List.getElem_mem hkl); have := HW.out; omega
      have C1 := Lib.hid (lives_any base h L pat n1 cc now k wr HI.out.ref hkl hlo hhi HG.out.n0 (by have := HW.out; omega))
      have C2 : Hid (∀ W, Below wr.heap.size wr W → Calls Try.prog 19 #[.pointer (some ⟨h, 0, none⟩), .int .i64 (k : Int), .int .i64 n1] W fun r w' => r = .returned (.bool (liv pat n1 L[k].n)) ∧ Below W.heap.size W w') := fun W hW => lives_any base h L pat n1 cc n1 k W (HI.out.ref.below hW) hkl hlo hhi (by have := HG.out.n0; have := HN1.out; omega) (by have := HW.out; have := HN1.out; omega)
      have HD : Hid (die pat n1 L[k].n = (liv pat now L[k].n && !liv pat n1 L[k].n)) := by show _ = _; rw [HN1.out]; exact die_liv _ _ _
      obtain ⟨b, off, rfl, -, -, -⟩ := at_tm HTG.out hkl
      have HX := Lib.hid (fun (W : World) (hW : Below wr.heap.size wr W) => (HTG.out.below (Nat.le_refl _) hW).at2 hkl 0 _ rfl)
      simp only [show eTm.wd = 2 from rfl, Nat.add_zero] at HX
      have HKL : Hid (k + 1 ≤ L.length ∧ k < 100000) := ⟨hkl, by omega⟩
      have hcc : 0 ≤ cc ∧ cc ≤ 2000000000 := by have := HI.out.cc; have := HCC.out; have := sel_take_le L (die pat n1) k; omega
      obtain ⟨hcc1, hcc2⟩ := hcc
      generalize hdv : die pat n1 L[k].n = dv at HD HT
      clear hdv
      generalize liv pat now L[k].n = lv1 at C1 HD
      generalize liv pat n1 L[k].n = lv2 at C2 HD
      generalize L[k].k = z at HX HT
      clear hkl hk hlo hhi
      cases lv1
      · have HT2 : Hid (sel (L.take (k + 1)) (die pat n1) = sel (L.take k) (die pat n1)) := by show _ = _; rw [HT.out, HD.out]; simp
        clear HT HD C2
        go_wp2_with fail
        refine C1.out.mono ?_
        rintro r w3 ⟨rfl, b3⟩
        have HI3 : Hid (TrI L pat now ch n1 base h w (k + 1) v cc w3) := by
          have i3 := HI.out.below HS.out b3
          exact ⟨by rw [HT2.out]; exact i3.row, i3.ref, by rw [HT2.out]; exact i3.cc, i3.fr⟩
        clear b3 C1
        go_wp2
        go_roundw
        case rel => exact ⟨k + 1, v, cc, HKL.out.1, rfl, by go_num, HI3.out⟩
        case measure => simp [intOf]; omega
      · cases lv2
        · have HT2 : Hid (sel (L.take (k + 1)) (die pat n1) = sel (L.take k) (die pat n1) ++ [z]) := by show _ = _; rw [HT.out, HD.out]; simp
          clear HT HD
          go_wp2_with fail
          refine C1.out.mono ?_
          rintro r w3 ⟨rfl, b3⟩
          have C3 := Lib.hid (C2.out w3 b3)
          have e2 := (HBX.out.below b3).c2
          have B3 := Lib.hid b3
          clear b3 C1 C2 d2
          go_wp2_with fail
          refine C3.out.mono ?_
          rintro r w4 ⟨rfl, b4⟩
          have b5 := B3.out.trans (b4.mono B3.out.size)
          obtain ⟨v', W', hrun, y3, yz, hi'⟩ := (HI.out.below HS.out b5).dies HS.out HT2.out HKL.out.2
          have HI' := Lib.hid hi'
          have R1 := Lib.hid hrun
          have e0 := (HBX.out.below b5).c0
          have e1 := HX.out w4 b5
          clear hrun hi' b5 b4 C3 c0 e2
          go_wp2_with (first | (at_builtin; refine wpList_append_run rfl _ _ 22 22 rfl _ _ rfl rfl _ W' R1.out ?_))
          go_roundw
          case rel => exact ⟨k + 1, _, cc + 1, HKL.out.1, rfl, by go_num, HI'.out⟩
          case measure => simp [intOf]; omega
        · have HT2 : Hid (sel (L.take (k + 1)) (die pat n1) = sel (L.take k) (die pat n1)) := by show _ = _; rw [HT.out, HD.out]; simp
          clear HT HD
          go_wp2_with fail
          refine C1.out.mono ?_
          rintro r w3 ⟨rfl, b3⟩
          have C3 := Lib.hid (C2.out w3 b3)
          have e2 := (HBX.out.below b3).c2
          have B3 := Lib.hid b3
          clear b3 C1 C2 d2
          go_wp2_with fail
          refine C3.out.mono ?_
          rintro r w4 ⟨rfl, b4⟩
          have HI3 : Hid (TrI L pat now ch n1 base h w (k + 1) v cc w4) := by
            have i3 := HI.out.below HS.out (B3.out.trans (b4.mono B3.out.size))
            exact ⟨by rw [HT2.out]; exact i3.row, i3.ref, by rw [HT2.out]; exact i3.cc, i3.fr⟩
          clear b4 C3
          go_wp2
          go_roundw
          case rel => exact ⟨k + 1, v, cc, HKL.out.1, rfl, by go_num, HI3.out⟩
          case measure => simp [intOf]; omega
    · have hke : k = L.length := by have := HN.out; omega
      have hki : ¬ (k : Int) < (n : Int) := by omega
      have HE : Hid (RowT eKy 9 wr w.heap.size v (dieL L pat n1) ∧ RefAt wr base h L pat n1 (ch + ((dieL L pat n1).length : Int)) ∧ Fr [38] [] base w wr) := by
        have i := HI.out
        rw [hke] at i
        have h1 := i.row
        have h2 := i.ref
        have h3 := i.cc
        rw [List.take_length] at h1 h3
        rw [h3] at h2
        exact ⟨h1, h2, i.fr⟩
      clear hke hk hkm
      go_wp2
      go_ret
      exact ⟨v, rfl, HE.out⟩
end Go.Proofs.Ytdmgmbjdocechaa
