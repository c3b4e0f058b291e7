/-
  A cache in memory. The contracts of New, Used, Reserved, Peek, Get, Drop, Release, Clear. Their conditions: the cache lies in memory, and has no more things than a bound.
-/
import Derived.Test.YtmhpngfkipooiaaW3
namespace Go.Proofs.Ytmhpngfkipooiaa
open Go.RowKit Go.Maps

/-- A cache that lies in block g: its things, its room, what is reserved. -/
def CacheAt (w : World) (base g : Nat) (L : List Th) (room kept : Int) : Prop :=
  ∃ e B N nw ol, Core w base g e B N nw ol (tot L) room kept ∧ N.map (·.2) = L ∧ Good L room kept
section
variable {w : World} {base g : Nat} {L : List Th} {room kept : Int}
theorem CacheAt.good (h : CacheAt w base g L room kept) : Good L room kept := by obtain ⟨_, _, _, _, _, _, _, h⟩ := h; exact h
theorem CacheAt.keep {w' : World} (h : CacheAt w base g L room kept) {l : List Nat} {base' : Nat} (hf : Fr l base' w w') (hl : ∀ x ∈ cK, x ∉ l) : CacheAt w' base g L room kept := by
  obtain ⟨e, B, N, nw, ol, h1, h2⟩ := h
  exact ⟨e, B, N, nw, ol, h1.keep hf hl, h2⟩
theorem CacheAt.same {w' : World} (h : CacheAt w base g L room kept) {base' : Nat} (hf : Fr [] base' w w') : CacheAt w' base g L room kept := h.keep hf (by simp)
theorem CacheAt.below {w' : World} (h : CacheAt w base g L room kept) (hf : Below w.heap.size w w') : CacheAt w' base g L room kept := h.same (base' := w.heap.size) (Fr.of_below hf (Nat.le_refl _))
theorem CacheAt.lt (h : CacheAt w base g L room kept) : g < w.heap.size := by obtain ⟨_, _, _, _, _, h, _⟩ := h; exact h.box.lt
theorem CacheAt.box (h : CacheAt w base g L room kept) : ∃ e B, Box w g e B (tot L) room kept := by obtain ⟨e, B, _, _, _, h, _⟩ := h; exact ⟨e, B, h.box⟩
theorem CacheAt.bg (h : CacheAt w base g L room kept) : base ≤ g := by obtain ⟨_, _, _, _, _, h, _⟩ := h; exact h.bg
end
theorem nd_split {N : List Nd} (k : ByteArray) (hn : (keys (N.map (·.2))).Nodup) :
    (fnd (N.map (·.2)) k = none ∧ ptrOf N k = none) ∨ ∃ A x C, N = A ++ x :: C ∧ x.2.k = k ∧ ptrOf N k = some ⟨x.1, 0, none⟩ ∧ fnd (N.map (·.2)) k = some x.2 ∧ drp (N.map (·.2)) k = (A ++ C).map (·.2) := by
  have e1 : fnd (N.map (·.2)) k = (N.find? fun x => decide (x.2.k = k)).map (·.2) := by
    unfold fnd
    rw [List.find?_map]
    rfl
  cases hf : N.find? fun x => decide (x.2.k = k) with
  | none => exact .inl ⟨by rw [e1, hf]; rfl, by simp [ptrOf, hf]⟩
  | some x =>
    have hx := List.mem_of_find?_eq_some hf
    have hk : x.2.k = k := by simpa using List.find?_some hf
    obtain ⟨A, C, rfl⟩ := List.append_of_mem hx
    subst hk
    refine .inr ⟨A, x, C, rfl, rfl, by simp [ptrOf, hf], by rw [e1, hf]; rfl, ?_⟩
    have hn' : (keys (A.map (·.2)) ++ x.2.k :: keys (C.map (·.2))).Nodup := by simpa [keys] using hn
    obtain ⟨_, h2, h3⟩ := List.nodup_append.mp hn'
    have hA : x.2.k ∉ keys (A.map (·.2)) := fun hx => h3 _ hx _ (by simp) rfl
    have hC := (List.nodup_cons.mp h2).1
    have e2 : drp ((A ++ x :: C).map (·.2)) x.2.k = drp (A.map (·.2)) x.2.k ++ drp (C.map (·.2)) x.2.k := by simp [drp]
    rw [e2, drp_none hA, drp_none hC, List.map_append]

theorem run_max2 {P : Program} (w : World) (ts : Array TypeId) (t : TypeId) (x y n : Int) (h : n = max x y) :
    (Builtin.max_ ts t #[.int .i64 x, .int .i64 y]).run P w = .ok (.int .i64 n) w := by
  subst h
  simp [Builtin.max_, Builtin.max2]
  try omega
theorem run_min2 {P : Program} (w : World) (ts : Array TypeId) (t : TypeId) (x y n : Int) (h : n = min x y) :
    (Builtin.min_ ts t #[.int .i64 x, .int .i64 y]).run P w = .ok (.int .i64 n) w := by
  subst h
  simp [Builtin.min_, Builtin.min2]
  try omega

def NewPost (w : World) (base : Nat) (room : Int) (r : Ending) (w' : World) : Prop :=
  ∃ g, r = .returned (.pointer (some ⟨g, 0, none⟩)) ∧ w.heap.size ≤ g ∧ CacheAt w' base g [] room 0 ∧ Below w.heap.size w w'
theorem links_one {w : World} {e : Nat} (h : Link w e th0 e e) : Links w [(e, th0)] (fun _ => e) (fun _ => e) := by
  intro x hx
  rw [List.mem_singleton] at hx
  subst hx
  exact h
set_option maxHeartbeats 1000000 in
theorem new_any (base : Nat) (n room : Int) (w : World) (hbs : base ≤ w.heap.size) (hr : room = max n 0) (hn : n ≤ 9223372036854775807) : Calls Try.prog 10 #[.int .i64 n] w (NewPost w base room) := by
  have hmax : ∀ w, (Builtin.max_ #[3, 3] 3 #[.int .i64 n, .int .i64 0]).run Try.prog w = .ok (.int .i64 room) w := fun w => run_max2 w _ _ _ _ _ hr
  have HG : Hid (Good [] room 0) := Good.nil (by omega) (by omega)
  have HB := Lib.hid hbs
  clear hr hn hbs
  go_enter Try.func10, Try.ntmps10
  go_wp2_with fail
  refine (newring_any w).mono ?_
  rintro r w1 ⟨rfl, rfl⟩
  go_wp2
  go_ret
  have hb1 := ringWorld_below w
  have hs := ringWorld_size w
  have hbs := HB.out
  have hB : Below w.heap.size w ((ringWorld w).alloc (.cells #[.pointer (some ⟨w.heap.size + 1, 0, none⟩), .map (some (w.heap.size + 2)), .int .i64 0, .int .i64 room, .int .i64 0] 61)) := hb1.alloc (by omega) _
  have hF : Fr [] base (ringWorld w) ((ringWorld w).alloc (.cells #[.pointer (some ⟨w.heap.size + 1, 0, none⟩), .map (some (w.heap.size + 2)), .int .i64 0, .int .i64 room, .int .i64 0] 61)) := (Fr.refl _ _ _).alloc (by omega) _
  refine ⟨(ringWorld w).heap.size, rfl, by omega, ⟨w.heap.size + 1, w.heap.size + 2, [], fun _ => w.heap.size + 1, fun _ => w.heap.size + 1, ⟨heap_new _ _, (links_one (ringWorld_link w)).fr hF (by simp), ?_, ⟨rfl, rfl⟩, by simp, ?_, by omega, by omega, by simp, List.nodup_nil⟩, rfl, HG.out⟩, hB⟩
  · intro x hx
    rw [List.mem_singleton] at hx
    subst hx
    show base ≤ w.heap.size + 1
    omega
  · refine MapAt.fr ?_ hF (by simp)
    exact ⟨.map [], ringWorld_map w _ _ _, fun k z => rfl, rfl⟩

theorem used_any (base g : Nat) (L : List Th) (room kept : Int) (w : World) (h : CacheAt w base g L room kept) :
    Calls Try.prog 24 #[.pointer (some ⟨g, 0, none⟩)] w fun r w' => r = .returned (.int .i64 (tot L + kept)) ∧ w' = w.drew := by
  obtain ⟨e, B, hb⟩ := h.box
  have h0 := h.good.tot0
  have h1 := h.good.kept0
  have h2 := h.good.fits
  have h3 := h.good.top
  have hw : IntKind.i64.wrap (tot L + kept) = tot L + kept := IntWalk.i64_in _ (by omega)
  have c2 := hb.c2
  have c4 := hb.c4
  clear hb h h0 h1 h2 h3
  go_enter Try.func24, Try.ntmps24
  go_wp2_with fail
  go_region
  go_wp2
  go_ret
  exact ⟨rfl, rfl⟩
theorem used_nil (w : World) : Calls Try.prog 24 #[.pointer none] w fun r w' => r = .returned (.int .i64 0) ∧ w = w' := by
  go_enter Try.func24, Try.ntmps24
  go_wp2
  go_ret
  exact ⟨rfl, rfl⟩
theorem reserved_any (base g : Nat) (L : List Th) (room kept : Int) (w : World) (h : CacheAt w base g L room kept) :
    Calls Try.prog 26 #[.pointer (some ⟨g, 0, none⟩)] w fun r w' => r = .returned (.int .i64 kept) ∧ w = w' := by
  obtain ⟨e, B, hb⟩ := h.box
  have c4 := hb.c4
  clear hb h
  go_enter Try.func26, Try.ntmps26
  go_wp2
  go_ret
  exact ⟨rfl, rfl⟩
theorem reserved_nil (w : World) : Calls Try.prog 26 #[.pointer none] w fun r w' => r = .returned (.int .i64 0) ∧ w = w' := by
  go_enter Try.func26, Try.ntmps26
  go_wp2
  go_ret
  exact ⟨rfl, rfl⟩

/-- What Get and Peek tell. -/
def getV : Option Th → Value
  | none => .tuple #[.int .i64 0, .bool false]
  | some t => .tuple #[.int .i64 t.n, .bool true]
set_option maxHeartbeats 1000000 in
theorem peek_any (base g : Nat) (L : List Th) (room kept : Int) (k : ByteArray) (w : World) (h : CacheAt w base g L room kept) (hk : k.size ≤ maxLen) :
    Calls Try.prog 14 #[.pointer (some ⟨g, 0, none⟩), .string k] w fun r w' => r = .returned (getV (fnd L k)) ∧ w = w' := by
  obtain ⟨e, B, N, nw, ol, hc, rfl, hg⟩ := h
  have C1 := Lib.hid (find_any g e B N _ _ _ k w hc.box hc.mp hk)
  rcases nd_split k hg.nd with ⟨hf, hp⟩ | ⟨A, x, C, hN, hx, hp, hf, _⟩
  · rw [hf]
    rw [hp] at C1
    clear hf hp hc hg hk
    go_enter Try.func14, Try.ntmps14
    go_wp2_with fail
    refine C1.out.mono ?_
    rintro r w1 ⟨rfl, rfl⟩
    go_wp2
    go_ret2
    exact ⟨rfl, rfl⟩
  · rw [hf]
    rw [hp] at C1
    have c2 := (hc.ln x (by rw [hN]; simp)).c2
    clear hf hp hc hg hk hN hx
    go_enter Try.func14, Try.ntmps14
    go_wp2_with fail
    refine C1.out.mono ?_
    rintro r w1 ⟨rfl, rfl⟩
    go_wp2
    go_ret2
    exact ⟨rfl, rfl⟩
set_option maxHeartbeats 1000000 in
theorem peek_nil (k : ByteArray) (w : World) : Calls Try.prog 14 #[.pointer none, .string k] w fun r w' => r = .returned (.tuple #[.int .i64 0, .bool false]) ∧ w = w' := by
  go_enter Try.func14, Try.ntmps14
  go_wp2_with fail
  refine (find_nil k w).mono ?_
  rintro r w1 ⟨rfl, rfl⟩
  go_wp2
  go_ret2
  exact ⟨rfl, rfl⟩
/-- What is used is the latest one. -/
def usd (L : List Th) (k : ByteArray) : List Th := match fnd L k with | some t => t :: drp L k | none => L
theorem Good.front {L M : List Th} {t : Th} {room kept : Int} (h : Good L room kept) (hk : t.k ∉ keys M) (hs : M.Sublist L) (ht : t ∈ L) (e : tot L = t.s + tot M) : Good (t :: M) room kept :=
  (h.sub hs).put hk (h.pos t ht) (by have := h.fits; omega)
theorem tot_split {L : List Th} {k : ByteArray} {t : Th} (hn : (keys L).Nodup) (h : fnd L k = some t) : tot L = t.s + tot (drp L k) := by
  obtain ⟨A, B, e1, e2, _⟩ := fnd_split hn h
  rw [e2, e1, tot_append, tot_append]
  simp only [tot]
  omega
theorem usd_keys {L : List Th} {k : ByteArray} {t : Th} (h : fnd L k = some t) : fnd (t :: drp L k) k = some t := by
  have := (fnd_some h).2
  simp [fnd, this]
theorem Good.usd {L : List Th} {room kept : Int} (h : Good L room kept) (k : ByteArray) : Good (usd L k) room kept := by
  unfold Ytmhpngfkipooiaa.usd
  split
  · rename_i t ht
    obtain ⟨h1, h2⟩ := fnd_some ht
    exact h.front (by rw [h2]; exact not_in_drp L k) (drp_sub L k) h1 (tot_split h.nd ht)
  · exact h
def GetPost (w : World) (base g : Nat) (L : List Th) (room kept : Int) (v : Value) (r : Ending) (w' : World) : Prop :=
  r = .returned v ∧ CacheAt w' base g L room kept ∧ Fr cK base w w'
set_option maxHeartbeats 1000000 in
theorem get_any (base g : Nat) (L : List Th) (room kept : Int) (k : ByteArray) (w : World) (h : CacheAt w base g L room kept) (hk : k.size ≤ maxLen) :
    Calls Try.prog 15 #[.pointer (some ⟨g, 0, none⟩), .string k] w (GetPost w base g (usd L k) room kept (getV (fnd L k))) := by
  have hgd := h.good.usd k
  have H := Lib.hid h
  obtain ⟨e, B, N, nw, ol, hc, rfl, hg⟩ := h
  have C1 := Lib.hid (find_any g e B N _ _ _ k w hc.box hc.mp hk)
  have HK := Lib.hid hk
  unfold usd at hgd ⊢
  rcases nd_split k hg.nd with ⟨hf, hp⟩ | ⟨A, x, C, hN, hx, hp, hf, hd⟩
  · have C2 := Lib.hid (peek_any base g _ room kept k w H.out hk)
    rw [hf] at C2 ⊢
    rw [hp] at C1
    clear hf hp hc hg hk hgd
    go_enter Try.func15, Try.ntmps15
    go_wp2_with fail
    refine C1.out.mono ?_
    rintro r w1 ⟨rfl, rfl⟩
    go_wp2_with fail
    refine C2.out.mono ?_
    rintro r w1 ⟨rfl, rfl⟩
    simp only [getV]
    go_wp2
    go_ret2
    exact ⟨rfl, H.out, Fr.refl _ _ _⟩
  · have hts := tot_split hg.nd hf
    have hfd := usd_keys hf
    rw [hf] at hgd ⊢
    simp only at hgd ⊢
    rw [hp] at C1
    have e1 : (x :: (A ++ C)).map (·.2) = x.2 :: drp (N.map (·.2)) k := by rw [hd]; rfl
    have HW : Hid (∀ w' nw' ol', Core w' base g e B (x :: (A ++ C)) nw' ol' (tot (N.map (·.2))) room kept → CacheAt w' base g (x.2 :: drp (N.map (·.2)) k) room kept) :=
      fun w' nw' ol' hc' => ⟨e, B, x :: (A ++ C), nw', ol', by rw [show tot (x.2 :: drp (N.map (·.2)) k) = tot (N.map (·.2)) from hts.symm]; exact hc', e1, hgd⟩
    have C3 : Hid (∀ w', CacheAt w' base g (x.2 :: drp (N.map (·.2)) k) room kept → Calls Try.prog 14 #[.pointer (some ⟨g, 0, none⟩), .string k] w' fun r w'' => r = .returned (getV (some x.2)) ∧ w' = w'') := fun w' h' => by
      have := peek_any base g _ room kept k w' h' HK.out
      rw [hfd] at this
      exact this
    subst hN
    have C2 := Lib.hid (use_any base g e B A C x nw ol _ room kept w hc)
    clear hf hp hc hg hk hx hd hgd hfd hts e1 H
    go_enter Try.func15, Try.ntmps15
    go_wp2_with fail
    refine C1.out.mono ?_
    rintro r w1 ⟨rfl, rfl⟩
    go_wp2_with fail
    refine C2.out.mono ?_
    rintro r w2 ⟨rfl, ⟨nw', ol', hc2⟩, f2⟩
    have hca := HW.out _ _ _ hc2
    have C4 := Lib.hid (C3.out _ hca)
    have HCA := Lib.hid hca
    have F2 := Lib.hid f2
    clear hca hc2 f2 HW
    go_wp2_with fail
    refine C4.out.mono ?_
    rintro r w3 ⟨rfl, rfl⟩
    simp only [getV]
    go_wp2
    go_ret2
    exact ⟨rfl, HCA.out, F2.out⟩
theorem get_nil (k : ByteArray) (w : World) : Calls Try.prog 15 #[.pointer none, .string k] w fun r w' => r = .returned (.tuple #[.int .i64 0, .bool false]) ∧ w = w' := by
  go_enter Try.func15, Try.ntmps15
  go_wp2_with fail
  refine (find_nil k w).mono ?_
  rintro r w1 ⟨rfl, rfl⟩
  go_wp2_with fail
  refine (peek_nil k w).mono ?_
  rintro r w1 ⟨rfl, rfl⟩
  go_wp2
  go_ret2
  exact ⟨rfl, rfl⟩
set_option maxHeartbeats 1000000 in
theorem drop_any (base g : Nat) (L : List Th) (room kept : Int) (k : ByteArray) (w : World) (h : CacheAt w base g L room kept) (hk : k.size ≤ maxLen) :
    Calls Try.prog 17 #[.pointer (some ⟨g, 0, none⟩), .string k] w (GetPost w base g (drp L k) room kept (.bool (has L k))) := by
  have hgd := h.good.sub (drp_sub L k)
  have H := Lib.hid h
  obtain ⟨e, B, N, nw, ol, hc, rfl, hg⟩ := h
  have C1 := Lib.hid (find_any g e B N _ _ _ k w hc.box hc.mp hk)
  rcases nd_split k hg.nd with ⟨hf, hp⟩ | ⟨A, x, C, hN, hx, hp, hf, hd⟩
  · have hh : has (N.map (·.2)) k = false := by simp [has, hf]
    rw [drp_none (fnd_none.mp hf), hh]
    rw [hp] at C1
    clear hf hp hc hg hk hgd hh
    go_enter Try.func17, Try.ntmps17
    go_wp2_with fail
    refine C1.out.mono ?_
    rintro r w1 ⟨rfl, rfl⟩
    go_wp2
    go_ret
    exact ⟨rfl, H.out, Fr.refl _ _ _⟩
  · have hh : has (N.map (·.2)) k = true := by simp [has, hf]
    rw [hh]
    have hts := tot_split hg.nd hf
    rw [hp] at C1
    have t0 := hgd.tot0
    have t1 := hgd.fits
    have t2 := hgd.top
    have t3 := hgd.kept0
    have HW : Hid (∀ w' nw' ol', Core w' base g e B (A ++ C) nw' ol' (tot (N.map (·.2)) - x.2.s) room kept → CacheAt w' base g (drp (N.map (·.2)) k) room kept) :=
      fun w' nw' ol' hc' => ⟨e, B, A ++ C, nw', ol', by rw [show tot (drp (N.map (·.2)) k) = tot (N.map (·.2)) - x.2.s by omega]; exact hc', hd.symm, hgd⟩
    have b1 : -9223372036854775808 ≤ tot (N.map (·.2)) - x.2.s := by omega
    have b2 : tot (N.map (·.2)) - x.2.s ≤ 9223372036854775807 := by omega
    subst hN
    have C2 := Lib.hid (remove_any base g e B A C x nw ol _ room kept w hc b1 b2)
    clear hf hp hc hg hk hx hd hgd hts t0 t1 t2 t3 H hh b1 b2
    go_enter Try.func17, Try.ntmps17
    go_wp2_with fail
    refine C1.out.mono ?_
    rintro r w1 ⟨rfl, rfl⟩
    go_wp2_with fail
    refine C2.out.mono ?_
    rintro r w2 ⟨rfl, ⟨nw', ol', hc2⟩, _, f2⟩
    have HCA := Lib.hid (HW.out _ _ _ hc2)
    have F2 := Lib.hid f2
    clear hc2 f2 HW
    go_wp2
    go_ret
    exact ⟨rfl, HCA.out, F2.out⟩
theorem drop_nil (k : ByteArray) (w : World) : Calls Try.prog 17 #[.pointer none, .string k] w fun r w' => r = .returned (.bool false) ∧ w = w' := by
  go_enter Try.func17, Try.ntmps17
  go_wp2_with fail
  refine (find_nil k w).mono ?_
  rintro r w1 ⟨rfl, rfl⟩
  go_wp2
  go_ret
  exact ⟨rfl, rfl⟩
/-- What is left of what is reserved. -/
def rel (n kept : Int) : Int := if 0 < n then kept - min n kept else kept
theorem Good.kept {L : List Th} {room kept : Int} (h : Good L room kept) {x : Int} (h0 : 0 ≤ x) (h1 : tot L + x ≤ room) : Good L room x := ⟨h.nd, h.pos, h0, h1, h.top⟩
theorem Core.kept {w : World} {base g e B : Nat} {N : List Nd} {nw ol : Nat → Nat} {sz room kept : Int} (h : Core w base g e B N nw ol sz room kept) (x : Int) : Core (w.setCell ⟨g, 4, none⟩ (.int .i64 x)) base g e B N nw ol sz room x := by
  have hF : Fr [61] base w (w.setCell ⟨g, 4, none⟩ (.int .i64 x)) := (Fr.refl _ _ _).set h.box (by simp [kd]) h.bg _
  exact ⟨h.box.set4 x, h.ln.fr hF (by simp), h.fr, h.sg, h.nd, h.mp.fr hF (by simp), h.bg, h.bB, h.ks, h.kn⟩
theorem CacheAt.kept {w : World} {base g : Nat} {L : List Th} {room kept : Int} (h : CacheAt w base g L room kept) {x : Int} (h0 : 0 ≤ x) (h1 : tot L + x ≤ room) : CacheAt (w.setCell ⟨g, 4, none⟩ (.int .i64 x)) base g L room x ∧ Fr cK base w (w.setCell ⟨g, 4, none⟩ (.int .i64 x)) := by
  obtain ⟨e, B, N, nw, ol, hc, h2, hg⟩ := h
  exact ⟨⟨e, B, N, nw, ol, hc.kept x, h2, hg.kept h0 h1⟩, (Fr.refl _ _ _).set hc.box (by simp [kd, cK]) hc.bg _⟩
set_option maxHeartbeats 1000000 in
theorem release_any (base g : Nat) (L : List Th) (room kept n : Int) (w : World) (h : CacheAt w base g L room kept) :
    Calls Try.prog 21 #[.pointer (some ⟨g, 0, none⟩), .int .i64 n] w (GetPost w base g L room (rel n kept) (.tuple #[])) := by
  have h0 := h.good.kept0
  have h1 := h.good.fits
  have h2 := h.good.top
  have h3 := h.good.tot0
  have H := Lib.hid h
  by_cases hn : 0 < n
  · obtain ⟨e, B, hb⟩ := h.box
    obtain ⟨m, hm⟩ : ∃ m, m = min n kept := ⟨_, rfl⟩
    have hmin : ∀ w, (Builtin.min_ #[3, 3] 3 #[.int .i64 n, .int .i64 kept]).run Try.prog w = .ok (.int .i64 m) w := fun w => run_min2 w _ _ _ _ _ hm
    have hw : IntKind.i64.wrap (kept - m) = kept - m := IntWalk.i64_in _ (by omega)
    have HO := Lib.hid (h.kept (x := kept - m) (by omega) (by omega))
    have e1 : rel n kept = kept - m := by simp [rel, hn, hm]
    rw [e1]
    have c4 := hb.c4
    have f4 := hb.frozen 4
    clear hb h h0 h1 h2 h3 hm e1 H
    go_enter Try.func21, Try.ntmps21
    go_wp2_with fail
    go_region
    go_wp2
    go_end0
    exact ⟨rfl, HO.out.1.same (base' := 0) (Fr.refl _ _ _).drew, HO.out.2.drew⟩
  · have e1 : rel n kept = kept := by simp [rel, hn]
    rw [e1]
    clear h h0 h1 h2 h3 e1
    go_enter Try.func21, Try.ntmps21
    go_wp2
    go_end0
    exact ⟨rfl, H.out, Fr.refl _ _ _⟩
theorem release_nil (n : Int) (w : World) : Calls Try.prog 21 #[.pointer none, .int .i64 n] w fun r w' => r = .returned (.tuple #[]) ∧ w = w' := by
  go_enter Try.func21, Try.ntmps21
  go_wp2
  go_end0
  exact ⟨rfl, rfl⟩
theorem clear_nil (w : World) : Calls Try.prog 23 #[.pointer none] w fun r w' => r = .returned (.tuple #[]) ∧ w = w' := by
  go_enter Try.func23, Try.ntmps23
  go_wp2
  go_end0
  exact ⟨rfl, rfl⟩
theorem Box.set0 {w : World} {g e B : Nat} {sz room kept : Int} (h : Box w g e B sz room kept) (x : Nat) : Box (w.setCell ⟨g, 0, none⟩ (.pointer (some ⟨x, 0, none⟩))) g x B sz room kept := by
  unfold Box at h ⊢
  simp [World.setCell, Array.getElem?_modify, h]
theorem Box.set1 {w : World} {g e B : Nat} {sz room kept : Int} (h : Box w g e B sz room kept) (x : Nat) : Box (w.setCell ⟨g, 1, none⟩ (.map (some x))) g e x sz room kept := by
  unfold Box at h ⊢
  simp [World.setCell, Array.getElem?_modify, h]
set_option maxHeartbeats 1000000 in
theorem clear_any (base g : Nat) (L : List Th) (room kept : Int) (w : World) (h : CacheAt w base g L room kept) (hbs : base ≤ w.heap.size) :
    Calls Try.prog 23 #[.pointer (some ⟨g, 0, none⟩)] w (GetPost w base g [] room kept (.tuple #[])) := by
  obtain ⟨e, B, hb⟩ := h.box
  have H := Lib.hid h
  have hbb : Box (ringWorld w) g e B (tot L) room kept := ((ringWorld_below w).block g hb.lt).trans hb
  have c0 := hbb.c0
  have c1 := hbb.c1
  have c2 := hbb.c2
  have f0 := hbb.frozen 0
  have f1 := hbb.frozen 1
  have f2 := hbb.frozen 2
  have d0 := (hbb.set0 (w.heap.size + 1))
  have d1 := d0.set1 (w.heap.size + 2)
  have hF : Fr [61] base (ringWorld w) ((((ringWorld w).setCell ⟨g, 0, none⟩ (.pointer (some ⟨w.heap.size + 1, 0, none⟩))).setCell ⟨g, 1, none⟩ (.map (some (w.heap.size + 2)))).setCell ⟨g, 2, none⟩ (.int .i64 0)) :=
    (((Fr.refl _ _ _).set hbb (by simp [kd]) h.bg _).set d0 (by simp [kd]) h.bg _).set d1 (by simp [kd]) h.bg _
  have HB := Lib.hid (d1.set2 0)
  have HF := Lib.hid hF
  have HL := Lib.hid hbs
  clear hb h hbb d0 d1 hF hbs
  go_enter Try.func23, Try.ntmps23
  go_wp2_with fail
  refine (newring_any w).mono ?_
  rintro r w1 ⟨rfl, rfl⟩
  go_wp2
  go_end0
  have h := H.out
  have hbs := HL.out
  have hg := h.good
  have hk0 := hg.kept0
  have ht0 := hg.tot0
  have hft := hg.fits
  refine ⟨rfl, ⟨w.heap.size + 1, w.heap.size + 2, [], fun _ => w.heap.size + 1, fun _ => w.heap.size + 1, ⟨HB.out, (links_one (ringWorld_link w)).fr HF.out (by simp), ?_, ⟨rfl, rfl⟩, by simp, ?_, h.bg, by omega, by simp, List.nodup_nil⟩, rfl, ⟨List.nodup_nil, by intro t ht; simp at ht, hk0, by simp only [tot]; omega, hg.top⟩⟩, (Fr.of_below (ringWorld_below w) hbs).trans (HF.out.mono (by simp [cK]))⟩
  · intro x hx
    rw [List.mem_singleton] at hx
    subst hx
    show base ≤ w.heap.size + 1
    omega
  · refine MapAt.fr ?_ HF.out (by simp)
    exact ⟨.map [], ringWorld_map w _ _ _, fun k z => rfl, rfl⟩
end Go.Proofs.Ytmhpngfkipooiaa
