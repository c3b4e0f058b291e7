/-
  The contracts of remove, add, use. Their conditions: the cache lies in memory, and has no more things than a bound.
-/
import Derived.Test.YtmhpngfkipooiaaW2
namespace Go.Proofs.Ytmhpngfkipooiaa
open Go.RowKit Go.Maps

section
variable {w : World} {base g e B : Nat} {N : List Nd} {nw ol : Nat → Nat} {sz room kept : Int}
theorem Core.parts {A C : List Nd} {x : Nd} (h : Core w base g e B (A ++ x :: C) nw ol sz room kept) :
    x.1 ∈ ((e, th0) :: (A ++ x :: C)).map (·.1) ∧ nw x.1 ∈ ((e, th0) :: (A ++ x :: C)).map (·.1) ∧ ol x.1 ∈ ((e, th0) :: (A ++ x :: C)).map (·.1) ∧ ¬ x.1 = nw x.1 ∧ ¬ x.1 = e ∧
    seg (upd ol (nw x.1) (ol x.1)) (upd nw (ol x.1) (nw x.1)) e ((A ++ C).map (·.1)) e ∧ (e :: (A ++ C).map (·.1)).Nodup ∧ x.1 ∉ (e :: (A ++ C).map (·.1)) := by
  have hs := h.sg
  have hn := h.nd
  rw [List.map_append, List.map_cons] at hs hn
  obtain ⟨h1, h2⟩ := seg_append.mp hs
  have hp := seg_last h1
  have hq := seg_first h2
  obtain ⟨n1, n2⟩ := List.nodup_cons.mp hn
  obtain ⟨n3, n4, n5⟩ := List.nodup_append.mp n2
  obtain ⟨n6, n7⟩ := List.nodup_cons.mp n4
  have hxe : ¬ x.1 = e := fun he => n1 (by rw [← he]; simp)
  have hxA : x.1 ∉ A.map (·.1) := fun hx => n5 _ hx _ (by simp) rfl
  refine ⟨by simp, ?_, ?_, ?_, hxe, ?_, ?_, ?_⟩
  · rcases List.mem_cons.mp hp with hp | hp
    · rw [hp]; simp
    · rw [List.map_cons, List.map_append]
      exact List.mem_cons_of_mem _ (List.mem_append_left _ hp)
  · rcases List.mem_append.mp hq with hq | hq
    · rw [List.map_cons, List.map_append, List.map_cons]
      exact List.mem_cons_of_mem _ (List.mem_append_right _ (List.mem_cons_of_mem _ hq))
    · rw [List.mem_singleton] at hq
      rw [hq]
      simp
  · intro hx
    rw [← hx] at hp
    rcases List.mem_cons.mp hp with hp | hp
    · exact hxe hp
    · exact hxA hp
  · rw [List.map_append]
    exact seg_leave hs hn
  · rw [List.map_append]
    refine List.nodup_cons.mpr ⟨fun he => n1 ?_, List.nodup_append.mpr ⟨n3, n7, fun a ha b hb => n5 a ha b (List.mem_cons_of_mem _ hb)⟩⟩
    rcases List.mem_append.mp he with he | he
    · exact List.mem_append_left _ he
    · exact List.mem_append_right _ (List.mem_cons_of_mem _ he)
  · rw [List.map_append]
    intro hx
    rcases List.mem_cons.mp hx with hx | hx
    · exact hxe hx
    · rcases List.mem_append.mp hx with hx | hx
      · exact hxA hx
      · exact n6 hx
end
theorem sub_mid {A C : List Nd} {x y : Nd} {z : Nd} (h : y ∈ z :: (A ++ C)) : y ∈ z :: (A ++ x :: C) := by
  rcases List.mem_cons.mp h with rfl | h
  · simp
  · rcases List.mem_append.mp h with h | h
    · simp [h]
    · simp [h]
theorem keys_mid {A C : List Nd} {x : Nd} (h : (keys ((A ++ x :: C).map (·.2))).Nodup) : (keys ((A ++ C).map (·.2))).Nodup := by
  refine List.Sublist.nodup ?_ h
  exact (((List.sublist_cons_self x C).append_left A).map _).map _

def RemPost (w : World) (base g e B : Nat) (A C : List Nd) (x : Nd) (sz room kept : Int) (r : Ending) (w' : World) : Prop :=
  r = .returned (.tuple #[]) ∧ (∃ nw' ol', Core w' base g e B (A ++ C) nw' ol' (sz - x.2.s) room kept) ∧ (∃ p q, Link w' x.1 x.2 p q) ∧ Fr cK base w w'
set_option maxHeartbeats 1000000 in
theorem remove_any (base g e B : Nat) (A C : List Nd) (x : Nd) (nw ol : Nat → Nat) (sz room kept : Int) (w : World) (h : Core w base g e B (A ++ x :: C) nw ol sz room kept) (h1 : -9223372036854775808 ≤ sz - x.2.s) (h2 : sz - x.2.s ≤ 9223372036854775807) :
    Calls Try.prog 36 #[.pointer (some ⟨g, 0, none⟩), .pointer (some ⟨x.1, 0, none⟩)] w (RemPost w base g e B A C x sz room kept) := by
  obtain ⟨p1, p2, p3, p4, _, p6, p7, _⟩ := h.parts
  have C1 := Lib.hid (leave_any base _ nw ol x.1 _ _ w h.ln h.fr p1 rfl rfl p2 p3 p4)
  have HH := Lib.hid h
  have HS := Lib.hid p6
  have HN := Lib.hid p7
  have hw : IntKind.i64.wrap (sz - x.2.s) = sz - x.2.s := IntWalk.i64_in _ (by omega)
  clear p1 p2 p3 p4 p6 p7 h h1 h2
  go_enter Try.func36, Try.ntmps36
  go_wp2_with fail
  refine C1.out.mono ?_
  rintro r w1 ⟨rfl, l1, f1⟩
  have h := HH.out
  have b1 := h.box.fr f1 (by simp)
  have m1 := h.mp.fr f1 (by simp)
  have x1 := l1 x (by simp)
  obtain ⟨w2, hr2, m2, g2⟩ := MapAt.del (w := w1.drew) m1 (h.ks x (by simp)) h.kn 0
  have hx2 := grown_box g2 m1 x1 (by simp [kd])
  have hb2 := grown_box g2 m1 b1 (by simp [kd])
  have b2 : Box w2 g e B sz room kept := hb2.trans b1
  have x2 : Link w2 x.1 x.2 _ _ := hx2.trans x1
  have c1 := b1.c1
  have c0 := x1.c0
  have d2 := b2.c2
  have d1 := x2.c1
  have fz := b2.frozen 2
  have X2 := Lib.hid x2
  have B2 := Lib.hid b2
  have M2 := Lib.hid m2
  have HF : Hid (Fr cK base w w2) := ((f1.mono (by simp [cK])).drew.grown g2 (h.mp.fr f1 (by simp)).isMap.choose_spec.choose_spec (by simp [kd, cK]) h.bB)
  have HL : Hid (Links w2 ((e, th0) :: (A ++ C)) (upd nw (ol x.1) (nw x.1)) (upd ol (nw x.1) (ol x.1))) := by
    intro y hy
    have := l1 y (sub_mid hy)
    exact this.keep ((grown_box g2 m1 this (by simp [kd])).trans rfl)
  have HK : Hid (base ≤ g ∧ base ≤ B ∧ From base ((e, th0) :: (A ++ C)) ∧ (∀ y ∈ A ++ C, y.2.k.size ≤ maxLen) ∧ (keys ((A ++ C).map (·.2))).Nodup) :=
    ⟨h.bg, h.bB, fun y hy => h.fr y (sub_mid hy), fun y hy => h.ks y (by rcases List.mem_append.mp hy with q | q <;> simp [q]), keys_mid h.kn⟩
  clear h b1 m1 x1 b2 x2 m2 g2 hx2 hb2 l1 f1 HH
  go_wp2_with fail
  go_region
  go_wp2_with fail
  go_region
  go_wp2
  go_end0
  obtain ⟨k1, k2, k3, k4, k5⟩ := HK.out
  have hF2 : Fr [61] base w2 ((w2.setCell ⟨g, 2, none⟩ (.int .i64 (sz - x.2.s))).drew) := ((Fr.refl _ _ _).set B2.out (by simp [kd]) k1 _).drew
  exact ⟨rfl, ⟨_, _, B2.out.set2 _, HL.out.fr hF2 (by simp), k3, HS.out, HN.out, M2.out.fr hF2 (by simp), k1, k2, k4, k5⟩, ⟨_, _, X2.out.fr hF2 (by simp)⟩, HF.out.trans (hF2.mono (by simp [cK]))⟩

def AddPost (w : World) (base g e B : Nat) (N : List Nd) (t : Th) (sz room kept : Int) (r : Ending) (w' : World) : Prop :=
  r = .returned (.tuple #[]) ∧ (∃ b nw' ol', Core w' base g e B ((b, t) :: N) nw' ol' (sz + t.s) room kept) ∧ Fr cK base w w'
theorem loose_new (w : World) (t : Th) : Loose (w.alloc (.cells #[.string t.k, .int .i64 t.s, .int .i64 t.n, .pointer none, .pointer none] 66)) w.heap.size t := ⟨none, none, heap_new _ _⟩
set_option maxHeartbeats 1000000 in
theorem add_any (base g e B : Nat) (N : List Nd) (t : Th) (nw ol : Nat → Nat) (sz room kept : Int) (w : World) (h : Core w base g e B N nw ol sz room kept) (hbs : base ≤ w.heap.size) (hk : t.k.size ≤ maxLen) (hn : t.k ∉ keys (N.map (·.2))) (hl : N.length ≤ 100000) (h1 : -9223372036854775808 ≤ sz + t.s) (h2 : sz + t.s ≤ 9223372036854775807) :
    Calls Try.prog 31 #[.pointer (some ⟨g, 0, none⟩), .string t.k, .int .i64 t.s, .int .i64 t.n] w (AddPost w base g e B N t sz room kept) := by
  have hw : IntKind.i64.wrap (sz + t.s) = sz + t.s := IntWalk.i64_in _ (by omega)
  obtain ⟨b, hb⟩ : ∃ b, b = w.heap.size := ⟨_, rfl⟩
  obtain ⟨W, hW⟩ : ∃ W, W = w.alloc (.cells #[.string t.k, .int .i64 t.s, .int .i64 t.n, .pointer none, .pointer none] 66) := ⟨_, rfl⟩
  have F0 : Fr cK base w W := by rw [hW]; exact (Fr.refl _ _ _).alloc hbs _
  have C0 : Core W base g e B N nw ol sz room kept := h.keep (l := []) (base' := base) (by rw [hW]; exact (Fr.refl _ _ _).alloc hbs _) (by simp)
  have LO : Loose W b t := by rw [hW, hb]; exact loose_new w t
  obtain ⟨w2, hr2, m2, g2⟩ := C0.mp.put b hk hn hl
  have f2 : Fr cK base w w2 := F0.grown g2 C0.mp.isMap.choose_spec.choose_spec (by simp [kd, cK]) C0.bB
  have b2 : Box w2 g e B sz room kept := (grown_box g2 C0.mp C0.box (by simp [kd])).trans C0.box
  have l2 : Links w2 ((e, th0) :: N) nw ol := fun y hy => (C0.ln y hy).keep (grown_box g2 C0.mp (C0.ln y hy) (by simp [kd]))
  have o2 : Loose w2 b t := by
    obtain ⟨p, q, ho⟩ := LO
    exact ⟨p, q, (grown_box g2 C0.mp ho (by simp [kd])).trans ho⟩
  have hF3 : Fr [61] base w2 (w2.setCell ⟨g, 2, none⟩ (.int .i64 (sz + t.s))) := (Fr.refl _ _ _).set b2 (by simp [kd]) h.bg _
  have hbl : b ∉ ((e, th0) :: N).map (·.1) := by
    intro hx
    obtain ⟨y, hy, hyb⟩ := List.mem_map.mp hx
    have := (h.ln y hy).lt
    omega
  have hf := seg_first h.sg
  have hfS : ol e ∈ ((e, th0) :: N).map (·.1) := by
    rcases List.mem_append.mp hf with q | q
    · exact List.mem_cons_of_mem _ q
    · rw [List.mem_singleton] at q
      rw [q]
      simp
  have CL := Lib.hid (lead_any base ((e, th0) :: N) nw ol g b e (ol e) t _ (b2.set2 (sz + t.s)).c0 (o2.fr hF3 (by simp)) (l2.fr hF3 (by simp)) h.fr (by omega) hbl rfl (by simp) hfS)
  have HS : Hid (seg (upd (upd ol b (ol e)) e b) (upd (upd nw b e) (ol e) b) e (b :: N.map (·.1)) e) := seg_lead h.sg h.nd hbl
  have HN : Hid ((e :: b :: N.map (·.1)).Nodup) := by
    show List.Nodup _
    have hq := hbl
    rw [List.map_cons] at hq
    obtain ⟨n1, n2⟩ := List.nodup_cons.mp h.nd
    exact List.nodup_cons.mpr ⟨fun hx => by rcases List.mem_cons.mp hx with hx | hx; exact hq (by simp [hx]); exact n1 hx, List.nodup_cons.mpr ⟨fun hx => hq (List.mem_cons_of_mem _ hx), n2⟩⟩
  have HK : Hid (base ≤ g ∧ base ≤ B ∧ From base ((e, th0) :: (b, t) :: N) ∧ (∀ y ∈ (b, t) :: N, y.2.k.size ≤ maxLen) ∧ (keys (((b, t) :: N).map (·.2))).Nodup) := by
    refine ⟨h.bg, h.bB, fun y hy => ?_, fun y hy => ?_, List.nodup_cons.mpr ⟨hn, h.kn⟩⟩
    · rcases List.mem_cons.mp hy with rfl | hy
      · exact h.fr _ (by simp)
      · rcases List.mem_cons.mp hy with rfl | hy
        · show base ≤ b
          omega
        · exact h.fr y (by simp [hy])
    · rcases List.mem_cons.mp hy with rfl | hy
      · exact hk
      · exact h.ks y hy
  have c1 := C0.box.c1
  have c2 := b2.c2
  have fz := b2.frozen 2
  have HB := Lib.hid (b2.set2 (sz + t.s))
  have HM := Lib.hid (m2.fr hF3 (by simp))
  have HF := Lib.hid (f2.trans (hF3.mono (by simp [cK])))
  have HR := Lib.hid hr2
  clear h hbs hk hn hl h1 h2 C0 F0 LO m2 g2 f2 b2 l2 o2 hF3 hbl hf hfS
  rw [hW] at c1 hr2
  rw [hb] at hr2 CL
  go_enter Try.func31, Try.ntmps31
  go_wp2_with fail
  refine CL.out.mono ?_
  rintro r w4 ⟨rfl, l4, f4⟩
  obtain ⟨k1, k2, k3, k4, k5⟩ := HK.out
  have l4' : Links w4 ((e, th0) :: (b, t) :: N) (upd (upd nw b e) (ol e) b) (upd (upd ol b (ol e)) e b) := by
    rw [hb]
    intro y hy
    refine l4 y ?_
    rcases List.mem_cons.mp hy with rfl | hy
    · simp
    · rcases List.mem_cons.mp hy with rfl | hy
      · simp
      · simp [hy]
  have CO : Hid (Core w4 base g e B ((b, t) :: N) (upd (upd nw b e) (ol e) b) (upd (upd ol b (ol e)) e b) (sz + t.s) room kept) :=
    ⟨HB.out.fr f4 (by simp), l4', k3, HS.out, HN.out, HM.out.fr f4 (by simp), k1, k2, k4, k5⟩
  have HF4 := Lib.hid (HF.out.trans (f4.mono (by simp [cK])))
  clear l4 f4 l4' k1 k2 k3 k4 k5 c1 c2 fz hr2
  go_wp2
  go_end0
  exact ⟨rfl, ⟨_, _, _, CO.out⟩, HF4.out⟩

theorem MapAt.front {w : World} {B : Nat} {A C : List Nd} {x : Nd} (h : MapAt w B (A ++ x :: C)) (hn : (keys ((A ++ x :: C).map (·.2))).Nodup) : MapAt w B (x :: (A ++ C)) := by
  obtain ⟨D, hown, hat, hsz⟩ := h
  have hl : (A ++ x :: C).length = (x :: (A ++ C)).length := by simp; omega
  refine ⟨D, by rw [← hl]; exact hown, fun k z => ?_, by rw [← hl]; exact hsz⟩
  rw [hat]
  have hn' : (keys (A.map (·.2)) ++ x.2.k :: keys (C.map (·.2))).Nodup := by simpa [keys] using hn
  obtain ⟨_, _, h3⟩ := List.nodup_append.mp hn'
  have hA : x.2.k ∉ keys (A.map (·.2)) := fun hx => h3 _ hx _ (by simp) rfl
  by_cases e : x.2.k = k
  · subst e
    simp [look, List.find?_append, find_none hA]
  · simp [look, List.find?_append, e]
def UsePost (w : World) (base g e B : Nat) (N : List Nd) (sz room kept : Int) (r : Ending) (w' : World) : Prop :=
  r = .returned (.tuple #[]) ∧ (∃ nw' ol', Core w' base g e B N nw' ol' sz room kept) ∧ Fr cK base w w'
set_option maxHeartbeats 1000000 in
theorem use_any (base g e B : Nat) (A C : List Nd) (x : Nd) (nw ol : Nat → Nat) (sz room kept : Int) (w : World) (h : Core w base g e B (A ++ x :: C) nw ol sz room kept) :
    Calls Try.prog 34 #[.pointer (some ⟨g, 0, none⟩), .pointer (some ⟨x.1, 0, none⟩)] w (UsePost w base g e B (x :: (A ++ C)) sz room kept) := by
  obtain ⟨p1, p2, p3, p4, _, p6, p7, p8⟩ := h.parts
  have C1 := Lib.hid (leave_any base _ nw ol x.1 _ _ w h.ln h.fr p1 rfl rfl p2 p3 p4)
  have HH := Lib.hid h
  have HS := Lib.hid p6
  have HN := Lib.hid p7
  have HX := Lib.hid p8
  clear p1 p2 p3 p4 p6 p7 p8 h
  go_enter Try.func34, Try.ntmps34
  go_wp2_with fail
  refine C1.out.mono ?_
  rintro r w1 ⟨rfl, l1, f1⟩
  have h := HH.out
  have b1 := h.box.fr f1 (by simp)
  have m1 := h.mp.fr f1 (by simp)
  have hf := seg_first HS.out
  have hfS : upd ol (nw x.1) (ol x.1) e ∈ ((e, th0) :: (A ++ C)).map (·.1) := by
    rcases List.mem_append.mp hf with q | q
    · exact List.mem_cons_of_mem _ q
    · rw [List.mem_singleton] at q
      rw [q]
      simp
  have hbx : base ≤ x.1 := h.fr x (by simp)
  have CL := Lib.hid (lead_any base ((e, th0) :: (A ++ C)) _ _ g x.1 e _ x.2 w1 b1.c0 (l1 x (by simp)).loose (l1.sub fun y hy => sub_mid hy) (fun y hy => h.fr y (sub_mid hy)) hbx HX.out rfl (by simp) hfS)
  have B1 := Lib.hid b1
  have M1 := Lib.hid (m1.front h.kn)
  have F1 := Lib.hid f1
  have HP := Lib.hid (seg_lead HS.out HN.out HX.out)
  have HQ : Hid ((e :: x.1 :: (A ++ C).map (·.1)).Nodup) := by
    show List.Nodup _
    have hq := HX.out
    obtain ⟨n1, n2⟩ := List.nodup_cons.mp HN.out
    exact List.nodup_cons.mpr ⟨fun hx => by rcases List.mem_cons.mp hx with hx | hx; exact hq (by simp [hx]); exact n1 hx, List.nodup_cons.mpr ⟨fun hx => hq (List.mem_cons_of_mem _ hx), n2⟩⟩
  have HK : Hid (base ≤ g ∧ base ≤ B ∧ From base ((e, th0) :: x :: (A ++ C)) ∧ (∀ y ∈ x :: (A ++ C), y.2.k.size ≤ maxLen) ∧ (keys ((x :: (A ++ C)).map (·.2))).Nodup) := by
    have hn' : (keys (A.map (·.2)) ++ x.2.k :: keys (C.map (·.2))).Nodup := by simpa [keys] using h.kn
    obtain ⟨_, n4, n5⟩ := List.nodup_append.mp hn'
    refine ⟨h.bg, h.bB, fun y hy => ?_, fun y hy => ?_, List.nodup_cons.mpr ⟨?_, keys_mid h.kn⟩⟩
    · rcases List.mem_cons.mp hy with rfl | hy
      · exact h.fr _ (by simp)
      · rcases List.mem_cons.mp hy with rfl | hy
        · exact hbx
        · exact h.fr y (sub_mid (List.mem_cons_of_mem _ hy))
    · rcases List.mem_cons.mp hy with rfl | hy
      · exact h.ks _ (by simp)
      · exact h.ks y (by rcases List.mem_append.mp hy with q | q <;> simp [q])
    · intro hx
      have hx : x.2.k ∈ keys (A.map (·.2)) ++ keys (C.map (·.2)) := by simpa [keys] using hx
      rcases List.mem_append.mp hx with hx | hx
      · exact n5 _ hx _ (by simp) rfl
      · exact (List.nodup_cons.mp n4).1 hx
  clear h b1 m1 f1 l1 hf hfS hbx HH
  go_wp2_with fail
  refine CL.out.mono ?_
  rintro r w2 ⟨rfl, l2, f2⟩
  obtain ⟨k1, k2, k3, k4, k5⟩ := HK.out
  have l2' : Links w2 ((e, th0) :: x :: (A ++ C)) _ _ := l2.sub fun y hy => by
    rcases List.mem_cons.mp hy with rfl | hy
    · simp
    · rcases List.mem_cons.mp hy with rfl | hy
      · simp
      · exact List.mem_cons_of_mem _ (List.mem_cons_of_mem _ hy)
  have CO := Lib.hid (show Core w2 base g e B (x :: (A ++ C)) _ _ sz room kept from ⟨B1.out.fr f2 (by simp), l2', k3, HP.out, HQ.out, M1.out.fr f2 (by simp), k1, k2, k4, k5⟩)
  have HF := Lib.hid ((F1.out.trans f2).mono (m := cK) (by simp [cK]))
  clear l2 f2 l2' k1 k2 k3 k4 k5
  go_wp2
  go_end0
  exact ⟨rfl, ⟨_, _, CO.out⟩, HF.out⟩
end Go.Proofs.Ytmhpngfkipooiaa
