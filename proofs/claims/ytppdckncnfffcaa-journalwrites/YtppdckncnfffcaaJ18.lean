/-
  The document's example is answered as it says. Its conditions: none.
-/
import Derived.Test.YtppdckncnfffcaaJ17
import Derived.Lib.SlBytesConst
namespace Go.Proofs.Ytppdckncnfffcaa
open Go.RowKit
set_option maxRecDepth 100000

theorem xA_len : xA.K.length / 2 = 4 := by decide +kernel
def txt (l : List UInt8) : ByteArray := ⟨l.toArray⟩
theorem txt_eq {l m : List UInt8} (h : txt l = txt m) : l = m := by
  unfold txt at h
  injection h with h
  exact Array.toList_inj.mpr h |> fun e => by simpa using e
theorem conv_by {w : World} {A : Option Addr} {l : List UInt8} (h : Sl eBy w A l) {n : Nat} (hn : l.length = n) (c : Nat) : (convert 38 9 (.slice A n c)).run Try.prog w = .ok (.string (txt l)) w := by
  subst hn
  cases A with
  | none =>
    have hl : l = [] := by
      cases l with
      | nil => rfl
      | cons x r => obtain ⟨b, off, hA, _⟩ := h.2 (by simp); simp at hA
    subst hl
    rw [run_convert_bytes_string w 38 9 5 none _ c Try.underlying38 Try.underlying5 Try.underlying9]
    rfl
  | some a =>
    exact run_convert_bytes_back (P := Try.prog) w 38 9 5 a c l Try.underlying38 Try.underlying5 Try.underlying9 (fun j hj => by
      obtain ⟨b, off, hA, _, hc⟩ := at_by h hj
      injection hA with hA
      subst hA
      rw [addr_at, hc])
theorem sl_blk {w : World} {b : Nat} {t : TypeId} {fr : Nat × Nat} {X : List UInt8} (h : w.heap[b]? = some (.cells (bv X).toArray t fr)) (hm : X.length ≤ maxLen) : Sl eBy w (some ⟨b, 0, none⟩) X := by
  refine ⟨hm, fun _ => ⟨b, 0, rfl, lt_of_heap h, fun k x hk i u hu => ?_⟩⟩
  have hi : i = 0 := by
    have := (List.getElem?_eq_some_iff.mp hu).1
    have e : (eBy.f x).length = 1 := rfl
    omega
  subst hi
  have hu : Value.int .u8 (x.toNat : Int) = u := by simpa [eBy] using hu
  rw [cell_of h, show eBy.wd = 1 from rfl, ← hu]
  simp [bv, hk]
set_option maxHeartbeats 4000000 in
theorem awake_any (w : World) : Calls Try.prog 8 #[] w fun e w' => e = .returned (.bool true) ∧ Below w.heap.size w w' := by
  have CN := Lib.hid (st_new (w0 := w) (W := w) 8 (by omega) (by omega) (Below.refl _ _))
  go_enter Try.func8, Try.ntmps8
  go_wp2_with fail
  refine CN.out.mono ?_
  rintro r w1 ⟨dg, rfl, s1, _⟩
  change St w w1 dg xA at s1
  have CO := jopen_any w.heap.size dg xA w1 s1.dk (by decide +kernel) (by decide +kernel)
  rw [xA_len] at CO
  have CO := Lib.hid CO
  clear CN
  go_wp2_with fail
  refine CO.out.mono ?_
  rintro r w2 ⟨g, vr, xs, rfl, hr, hj, hg, hb⟩
  rw [ex_l0] at hr
  change JBox w2 g dg xJ at hj
  have hx0 := hr.rcd.1
  obtain ⟨A0, c0, rfl, _⟩ := hr.row.form
  obtain ⟨m0, hm0⟩ : ∃ m0, m0 = xs.length := ⟨_, rfl⟩
  have hz : m0 = 0 := by rw [hm0, hx0]; rfl
  rw [← hm0]
  subst hz
  have s2 := s1.below hb
  have hbg : w.heap.size ≤ g := Nat.le_trans s1.bel.size hg
  obtain ⟨ej1, ej2, ej3, ej4, ej5⟩ := ex_j
  have CA := jappend_any g dg w.heap.size 0 0 xJ xA [] none w2 hj s2.dk (by rw [ej1]; decide) (by rw [ej1]; exact ej3) (by rw [ej1]; exact ej4) ej5 hbg s2.bel.size rfl (Nat.le_refl _) (fun _ => rfl) (by decide) (by decide +kernel) (by decide +kernel) (fun w' _ => sl_nil _)
  rw [ex_b] at CA
  have CA := Lib.hid CA
  have HB2 := Lib.hid s2.bel
  clear CO hr hj hm0 hx0 s1 s2 hb hg
  go_wp2_with fail
  refine CA.out.mono ?_
  rintro r w3 ⟨rfl, hd3, hj3, hf3⟩
  have b3 := HB2.out.trans hf3.below
  dsimp only at hd3 hj3
  have bA : Below w3.heap.size w3 (w3.alloc (.cells #[.int .u8 97] 5 (1, 2))) := Below.alloc (Below.refl _ _) (Nat.le_refl _) _
  have hrow : (w3.alloc (.cells #[.int .u8 97] 5 (1, 2))).heap[w3.heap.size]? = some (.cells (bv [97]).toArray 5 (1, 2)) := heap_new _ _
  have CS := jstart_any g dg w.heap.size 1 1 xJ xA [97] (some ⟨w3.heap.size, 0, none⟩) (w3.alloc (.cells #[.int .u8 97] 5 (1, 2))) (hj3.below bA) (hd3.below bA) (by rw [ej1]; decide +kernel) (by rw [ej1]; decide) (by rw [ej1]; exact ej2) hbg (Nat.le_trans b3.size bA.size) rfl (Nat.le_refl _) (fun h => by cases h) (by decide) (by decide +kernel) (by decide +kernel)
    (fun w' hf => sl_blk (hf.keep _ _ hrow (by simp [kd]) (by simp)) (by unfold maxLen; simp))
  have kc := fun (w : World) (C : Array Value) (n c : Nat) => Lib.run_convert_bytes_const (P := Try.prog) w 38 5 C n c Try.underlying38 Try.underlying5
  change Calls _ _ _ _ (JPost _ _ _ _ xC) at CS
  have CS := Lib.hid CS
  have HB3 := Lib.hid (b3.trans (bA.mono b3.size))
  clear CA hd3 hj3 hf3 b3 bA hrow HB2
  go_wp2_with fail
  refine CS.out.mono ?_
  rintro r w4 ⟨rfl, hd4, hj4, hf4⟩
  have b4 := HB3.out.trans hf4.below
  obtain ⟨s1, s2, s3, s4, s5, s6, s7, s8, s9, s10⟩ := ex_s
  rw [ex_c]
  have CA2 := jappend_any g dg w.heap.size 0 0 xC.2.1 xC.1 [] none w4 hj4 hd4 (by rw [s7]; decide) (by rw [s7]; exact s8) (by rw [s7, s3]; exact s9) s10 hbg b4.size rfl (Nat.le_refl _) (fun _ => rfl) (by decide) s1 s2 (fun w' _ => sl_nil _)
  change Calls _ _ _ _ (JPost _ _ _ _ xD) at CA2
  have CA2 := Lib.hid CA2
  have HB4 := Lib.hid b4
  clear CS hd4 hj4 hf4 b4 HB3 kc
  go_wp2_with fail
  refine CA2.out.mono ?_
  rintro r w5 ⟨rfl, hd5, hj5, hf5⟩
  have b5 := HB4.out.trans hf5.below
  rw [ex_d]
  have CR := jroom_any g dg xD.2.1 w5 hj5 (by rw [ex_z.1]; decide) (by rw [ex_z.1]; exact ex_z.2)
  rw [ex_r] at CR
  have CR := Lib.hid CR
  have HJ5 := Lib.hid hj5
  have HD5 := Lib.hid hd5
  have HB5 := Lib.hid b5
  clear CA2 hd5 hj5 hf5 b5 HB4
  go_wp2_with fail
  refine CR.out.mono ?_
  rintro r w6 ⟨rfl, b6⟩
  have CL := lap_any g dg xD.2.1 w6 (HJ5.out.below b6)
  rw [ex_p] at CL
  have CL := Lib.hid CL
  have CO := jopen_any w.heap.size dg xD.1 w6 (HD5.out.below b6) s5 (by rw [s6]; decide)
  rw [s6, show 8 / 2 = 4 from rfl] at CO
  have CO := Lib.hid CO
  have HB6 := Lib.hid (HB5.out.trans (b6.mono HB5.out.size))
  clear CR b6
  go_wp2_with fail
  refine CL.out.mono ?_
  rintro r w7 ⟨rfl, rfl⟩
  go_wp2_with fail
  refine CO.out.mono ?_
  rintro r w8 ⟨g8, v8, x8, rfl, hr8, hj8, hg8, hb8⟩
  rw [ex_l] at hr8
  have hx8 := hr8.rcd.1
  have hrec := hr8.rcd.2
  obtain ⟨A8, c8, rfl, hsl8, _⟩ := hr8.row.sl (by rw [hx8]; unfold maxLen; simp)
  obtain ⟨y0, y1, rfl⟩ : ∃ y0 y1, x8 = [y0, y1] := by
    match x8, hx8 with
    | [y0, y1], _ => exact ⟨y0, y1, rfl⟩
  obtain ⟨b8, o8, rfl, _, hc8⟩ := hsl8.at_ (k := 0) (by simp)
  have d0 : w8.cell? ⟨b8, o8, none⟩ = some y0.v := hc8 0 _ rfl
  obtain ⟨Ay, cy, hyv, hsy, _⟩ := (hrec 0 y0 [97] rfl rfl).sl (by unfold maxLen; simp)
  rw [hyv] at d0
  have cv : (convert 38 9 (.slice Ay 1 cy)).run Try.prog w8 = .ok (.string (txt [97])) w8 := conv_by hsy rfl cy
  have HB8 := Lib.hid (HB6.out.trans (hb8.mono HB6.out.size))
  have e1 : (txt [97]).toList = [97] := by decide +kernel
  clear hr8 hx8 hrec hsl8 hc8 hyv hsy hb8 hj8 hg8 CO CL
  go_wp2_with fail
  go_ret
  exact ⟨rfl, HB8.out⟩
end Go.Proofs.Ytppdckncnfffcaa
