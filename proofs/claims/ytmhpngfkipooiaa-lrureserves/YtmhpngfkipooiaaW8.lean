/-
  Words for memory: a script that came in; a cache beside the step that is played. The walk of LruBound. Its conditions: the script reads as steps.
-/
import Derived.Test.YtmhpngfkipooiaaW7
import Derived.Deep.CutBlock
namespace Go.Proofs.Ytmhpngfkipooiaa
open Go.RowKit Go.Maps

/-- One step of a script. -/
structure Step where
  K : Int
  key : ByteArray
  S : Int
  N : Int
/-- A slice (its address A) that reads as the steps l. -/
def Scr (w : World) (A : Option Addr) (l : List Step) : Prop :=
  l.length ≤ maxLen ∧ (∀ x ∈ l, x.key.size ≤ maxLen) ∧ (0 < l.length → ∃ b off, A = some ⟨b, off, none⟩ ∧ b < w.heap.size ∧ ∀ (k : Nat) (x : Step), l[k]? = some x →
    w.cell? ⟨b, off + k * 4, none⟩ = some (.int .i64 x.K) ∧ w.cell? ⟨b, off + k * 4 + 1, none⟩ = some (.string x.key) ∧ w.cell? ⟨b, off + k * 4 + 2, none⟩ = some (.int .i64 x.S) ∧ w.cell? ⟨b, off + k * 4 + 3, none⟩ = some (.int .i64 x.N))
theorem Scr.below {w w' : World} {A : Option Addr} {l : List Step} {B : Nat} (h : Scr w A l) (hB : w.heap.size ≤ B) (hb : Below B w w') : Scr w' A l := by
  obtain ⟨h1, h2, h3⟩ := h
  refine ⟨h1, h2, fun hl => ?_⟩
  obtain ⟨b, off, hA, hlt, hc⟩ := h3 hl
  have e : ∀ o, w'.cell? ⟨b, o, none⟩ = w.cell? ⟨b, o, none⟩ := fun o => hb.cell (p := ⟨b, o, none⟩) (Nat.lt_of_lt_of_le hlt hB)
  exact ⟨b, off, hA, Nat.lt_of_lt_of_le hlt hb.size, fun k x hk => by rw [e, e, e, e]; exact hc k x hk⟩
theorem Scr.at_ {w : World} {A : Option Addr} {l : List Step} (h : Scr w A l) {k : Nat} (hk : k < l.length) : ∃ b off, A = some ⟨b, off, none⟩ ∧ b < w.heap.size ∧
    w.cell? ⟨b, off + k * 4, none⟩ = some (.int .i64 l[k].K) ∧ w.cell? ⟨b, off + k * 4 + 1, none⟩ = some (.string l[k].key) ∧ w.cell? ⟨b, off + k * 4 + 2, none⟩ = some (.int .i64 l[k].S) ∧ w.cell? ⟨b, off + k * 4 + 3, none⟩ = some (.int .i64 l[k].N) := by
  obtain ⟨b, off, hA, hlt, hc⟩ := h.2.2 (by omega)
  exact ⟨b, off, hA, hlt, hc k _ (List.getElem?_eq_getElem hk)⟩

/-- A cache, and a block that no call turns. -/
structure St (w0 W : World) (g : Nat) (L : List Th) (room kept : Int) (q : Nat) (o : Obj) : Prop where
  cache : CacheAt W w0.heap.size g L room kept
  box : W.heap[q]? = some o
  kind : kd o ∉ cK
  bel : Below w0.heap.size w0 W
section
variable {w0 W : World} {g : Nat} {L : List Th} {room kept : Int} {q : Nat} {o : Obj}
theorem St.below {W' : World} (s : St w0 W g L room kept q o) (hb : Below W.heap.size W W') : St w0 W' g L room kept q o :=
  ⟨s.cache.below hb, (hb.block q (Array.getElem?_eq_some_iff.mp s.box).1).trans s.box, s.kind, s.bel.trans (hb.mono s.bel.size)⟩
theorem St.drew (s : St w0 W g L room kept q o) : St w0 W.drew g L room kept q o := s.below (Below.refl _ _).drew
theorem St.turn {W' : World} {L' : List Th} {kept' : Int} (s : St w0 W g L room kept q o) (hf : Fr cK w0.heap.size W W') (hc : CacheAt W' w0.heap.size g L' room kept') : St w0 W' g L' room kept' q o :=
  ⟨hc, hf.keep q o s.box s.kind, s.kind, s.bel.trans hf.below⟩
theorem st_used (s : St w0 W g L room kept q o) : Calls Try.prog 24 #[.pointer (some ⟨g, 0, none⟩)] W fun r w' => r = .returned (.int .i64 (tot L + kept)) ∧ St w0 w' g L room kept q o := by
  refine (used_any _ g L room kept W s.cache).mono ?_
  rintro r w' ⟨rfl, rfl⟩
  exact ⟨rfl, s.drew⟩
theorem st_reserved (s : St w0 W g L room kept q o) : Calls Try.prog 26 #[.pointer (some ⟨g, 0, none⟩)] W fun r w' => r = .returned (.int .i64 kept) ∧ St w0 w' g L room kept q o := by
  refine (reserved_any _ g L room kept W s.cache).mono ?_
  rintro r w' ⟨rfl, rfl⟩
  exact ⟨rfl, s⟩
theorem st_peek (s : St w0 W g L room kept q o) (k : ByteArray) (hk : k.size ≤ maxLen) : Calls Try.prog 14 #[.pointer (some ⟨g, 0, none⟩), .string k] W fun r w' => r = .returned (getV (fnd L k)) ∧ St w0 w' g L room kept q o := by
  refine (peek_any _ g L room kept k W s.cache hk).mono ?_
  rintro r w' ⟨rfl, rfl⟩
  exact ⟨rfl, s⟩
theorem st_get (s : St w0 W g L room kept q o) (k : ByteArray) (hk : k.size ≤ maxLen) : Calls Try.prog 15 #[.pointer (some ⟨g, 0, none⟩), .string k] W fun r w' => r = .returned (getV (fnd L k)) ∧ St w0 w' g (usd L k) room kept q o := by
  refine (get_any _ g L room kept k W s.cache hk).mono ?_
  rintro r w' ⟨rfl, hc, hf⟩
  exact ⟨rfl, s.turn hf hc⟩
theorem st_drop (s : St w0 W g L room kept q o) (k : ByteArray) (hk : k.size ≤ maxLen) : Calls Try.prog 17 #[.pointer (some ⟨g, 0, none⟩), .string k] W fun r w' => r = .returned (.bool (has L k)) ∧ St w0 w' g (drp L k) room kept q o := by
  refine (drop_any _ g L room kept k W s.cache hk).mono ?_
  rintro r w' ⟨rfl, hc, hf⟩
  exact ⟨rfl, s.turn hf hc⟩
theorem st_release (s : St w0 W g L room kept q o) (n : Int) : Calls Try.prog 21 #[.pointer (some ⟨g, 0, none⟩), .int .i64 n] W fun r w' => r = .returned (.tuple #[]) ∧ St w0 w' g L room (rel n kept) q o := by
  refine (release_any _ g L room kept n W s.cache).mono ?_
  rintro r w' ⟨rfl, hc, hf⟩
  exact ⟨rfl, s.turn hf hc⟩
theorem st_clear (s : St w0 W g L room kept q o) : Calls Try.prog 23 #[.pointer (some ⟨g, 0, none⟩)] W fun r w' => r = .returned (.tuple #[]) ∧ St w0 w' g [] room kept q o := by
  refine (clear_any _ g L room kept W s.cache s.bel.size).mono ?_
  rintro r w' ⟨rfl, hc, hf⟩
  exact ⟨rfl, s.turn hf hc⟩
theorem wG_len (room kept n : Int) (L : List Th) : (wG room kept n L).length ≤ L.length := by
  unfold wG
  split
  · rw [gone_len]; omega
  · simp
theorem st_put (s : St w0 W g L room kept q o) (t : Th) (hk : t.k.size ≤ maxLen) (hl : L.length ≤ 99999) : Calls Try.prog 11 #[.pointer (some ⟨g, 0, none⟩), .string t.k, .int .i64 t.s, .int .i64 t.n] W fun r w' =>
    ∃ A c, r = .returned (.tuple #[.slice A (wG room kept t.s (drp L t.k)).length c, .bool (wayOk room kept t.s)]) ∧ Row w' W.heap.size (.slice A (wG room kept t.s (drp L t.k)).length c) (wG room kept t.s (drp L t.k)) ∧ St w0 w' g (putL room kept L t) room kept q o := by
  refine (put_any _ g L room kept t W s.cache s.bel.size hl hk).mono ?_
  rintro r w' ⟨v, rfl, ho, hc, hf⟩
  obtain ⟨A, c, rfl⟩ := ho.form
  exact ⟨A, c, rfl, ho, s.turn hf hc⟩
theorem st_reserve (s : St w0 W g L room kept q o) (n : Int) (hl : L.length ≤ 100000) : Calls Try.prog 19 #[.pointer (some ⟨g, 0, none⟩), .int .i64 n] W fun r w' =>
    ∃ A c, r = .returned (.tuple #[.slice A (wG room kept n L).length c, .bool (wayOk room kept n)]) ∧ Row w' W.heap.size (.slice A (wG room kept n L).length c) (wG room kept n L) ∧ St w0 w' g (wL room kept n L) room (resK room kept n) q o := by
  refine (reserve_any _ g L room kept n W s.cache s.bel.size hl).mono ?_
  rintro r w' ⟨v, rfl, ho, hc, hf⟩
  obtain ⟨A, c, rfl⟩ := ho.form
  exact ⟨A, c, rfl, ho, s.turn hf hc⟩
theorem st_keys (s : St w0 W g L room kept q o) (hl : L.length ≤ 100000) : Calls Try.prog 27 #[.pointer (some ⟨g, 0, none⟩)] W fun r w' =>
    ∃ A c, r = .returned (.slice A L.length c) ∧ Row w' W.heap.size (.slice A L.length c) (keys L) ∧ St w0 w' g L room kept q o := by
  refine (keys_any _ g L room kept W s.cache hl).mono ?_
  rintro r w' ⟨v, rfl, ho, hb⟩
  obtain ⟨A, c, rfl⟩ := ho.form
  rw [keys_length] at ho ⊢
  exact ⟨A, c, rfl, ho, s.below hb⟩
end
def oStep (x : Step) : Obj := .cells #[.int .i64 x.K, .string x.key, .int .i64 x.S, .int .i64 x.N] 31 (0, 0)
theorem St.cells {w0 W : World} {g : Nat} {L : List Th} {room kept : Int} {q : Nat} {x : Step} (s : St w0 W g L room kept q (oStep x)) :
    W.cell? ⟨q, 0, none⟩ = some (.int .i64 x.K) ∧ W.cell? ⟨q, 1, none⟩ = some (.string x.key) ∧ W.cell? ⟨q, 2, none⟩ = some (.int .i64 x.S) ∧ W.cell? ⟨q, 3, none⟩ = some (.int .i64 x.N) := by
  have := s.box
  unfold oStep at this
  refine ⟨?_, ?_, ?_, ?_⟩ <;> simp [World.cell?, this]
theorem st_new {w wr : World} {g : Nat} {L : List Th} {room kept : Int} (x : Step) (hm : CacheAt wr w.heap.size g L room kept) (hb : Below w.heap.size w wr) : St w (wr.alloc (oStep x)) g L room kept wr.heap.size (oStep x) := by
  have hb1 : Below wr.heap.size wr (wr.alloc (oStep x)) := (Below.refl _ _).alloc (Nat.le_refl _) _
  exact ⟨hm.below hb1, heap_new _ _, by simp [oStep, kd, cK], hb.trans (hb1.mono hb.size)⟩

theorem gone_pos {room kept n : Int} {L : List Th} (h : 0 < (wG room kept n L).length) : wayOk room kept n = true ∧ room - kept - n < tot L := by
  unfold wG at h
  split at h
  · rename_i hok
    rw [gone_len] at h
    exact ⟨hok, way_more (by omega)⟩
  · simp at h
/-- What LruBound asks of what went. -/
def Bd (room : Int) (us S : Int) (m : Nat) (ok : Bool) : Prop := 0 < m → ok = true ∧ 0 ≤ S ∧ S ≤ room ∧ ¬ us ≤ room - S
theorem bd_way {room a : Int} {L : List Th} {kept S : Int} (hr : room = max a 0) (hg : Good L room kept) : Bd a (tot L + kept) S (wG room kept S L).length (wayOk room kept S) := by
  intro h
  obtain ⟨h1, h2⟩ := gone_pos h
  obtain ⟨h3, h4⟩ := wayOk_iff.mp h1
  have h5 := hg.kept0
  have h6 := hg.fits
  have h7 := hg.tot0
  exact ⟨h1, h3, by omega, by omega⟩
theorem bd_nil (a us S : Int) (ok : Bool) : Bd a us S 0 ok := fun h => by omega
theorem drp_none' {L : List Th} {k : ByteArray} (h : fnd L k = none) : drp L k = L := drp_none (fnd_none.mp h)
theorem drp_drp (L : List Th) (k : ByteArray) : drp (drp L k) k = drp L k := drp_none (not_in_drp L k)
/-- A thing of no size is put where its key was. -/
theorem put_zero {L : List Th} {room kept : Int} (hg : Good L room kept) (k : ByteArray) (v : Int) : putL room kept (drp L k) ⟨k, 0, v⟩ = ⟨k, 0, v⟩ :: drp L k := by
  have h1 := hg.kept0
  have h2 := (hg.sub (drp_sub L k)).fits
  have h3 := hg.tot0
  have h4 := (hg.sub (drp_sub L k)).tot0
  have hok : wayOk room kept 0 = true := wayOk_iff.mpr ⟨Int.le_refl _, by omega⟩
  simp only [putL, hok, if_true, wL, drp_drp]
  rw [way_all (by omega), List.take_length]
theorem drp_cons_same (t : Th) (L : List Th) : drp (t :: drp L t.k) t.k = drp L t.k := by
  have : drp (t :: drp L t.k) t.k = drp (drp L t.k) t.k := by simp [drp]
  rw [this, drp_drp]
theorem drp_len (L : List Th) (k : ByteArray) : (drp L k).length ≤ L.length := List.length_filter_le _ _
theorem usd_len (L : List Th) (k : ByteArray) : (usd L k).length ≤ L.length + 1 := by
  have := drp_len L k
  unfold usd
  split
  · simp; omega
  · omega

def gv (o : Option Th) : Int := (o.map (·.n)).getD 0
def gb (o : Option Th) : Bool := o.isSome
theorem getV_eq (o : Option Th) : getV o = .tuple #[.int .i64 (gv o), .bool (gb o)] := by cases o <;> rfl
def BdRel (l : List Step) (g : Nat) (room : Int) (w : World) (s6 : Value) (wr : World) : Prop :=
  ∃ (k : Nat) (L : List Th) (kept : Int), k ≤ 200 ∧ k ≤ l.length ∧ s6 = .int .i64 (k : Int) ∧ CacheAt wr w.heap.size g L room kept ∧ Below w.heap.size w wr ∧ L.length ≤ 2 * k
/-- What the switch leaves. -/
def SwRel (w : World) (g q k : Nat) (x : Step) (room a us : Int) (s11 s12 : Value) (W : World) : Prop :=
  ∃ (L : List Th) (kept : Int) (A : Option Addr) (m c : Nat) (ok : Bool), s11 = .slice A m c ∧ s12 = .bool ok ∧ St w W g L room kept q (oStep x) ∧ Bd a us x.S m ok ∧ L.length ≤ 2 * k + 2
set_option maxRecDepth 100000 in
set_option maxHeartbeats 8000000 in
theorem bound_walk (a : Int) (l : List Step) (A : Option Addr) (n c : Nat) (w : World) (ha : a ≤ 9223372036854775807) (hs : Scr w A l) (hn : l.length = n) :
    Calls Try.prog 4 #[.int .i64 a, .slice A n c] w fun e w' => e = .returned (.bool true) ∧ Below w.heap.size w w' := by
  obtain ⟨room, hroom⟩ : ∃ room, room = max a 0 := ⟨_, rfl⟩
  have hmax : ∀ w, (Builtin.max_ #[3, 3] 3 #[.int .i64 a, .int .i64 0]).run Try.prog w = .ok (.int .i64 room) w := fun w => run_max2 w _ _ _ _ _ hroom
  have H := Lib.hid hs
  have HE := Lib.hid hn
  have HR := Lib.hid hroom
  have HA := Lib.hid ha
  clear hs hn hroom ha
  go_enter Try.func4, Try.ntmps4
  go_wp2_with fail
  refine (awake_any w).mono ?_
  rintro e w1 ⟨rfl, b1⟩
  have B1 := Lib.hid b1
  clear b1
  go_wp2_with fail
  refine (new_any w.heap.size a room w1 B1.out.size HR.out HA.out).mono ?_
  rintro e w2 ⟨g, rfl, _, c2, b2⟩
  have C2 := Lib.hid c2
  have B2 := Lib.hid (B1.out.trans (b2.mono B1.out.size))
  clear c2 b2 B1
  go_wp2
  go_loopw [6] (BdRel l g room w) (fun i _ => 201 - (intOf i).toNat)
  case atStart => exact ⟨0, [], 0, Nat.zero_le _, Nat.zero_le _, rfl, C2.out, B2.out, Nat.le_refl _⟩
  case round =>
    obtain ⟨k, L, kept, hk2, hkl, rfl, hm, hb, hlen⟩ := hrel
    have HM := Lib.hid hm
    have HB := Lib.hid hb
    clear hm hb C2 B2
    rw [HE.out] at hkl
    by_cases hlt : k < n ∧ k < 200
    · obtain ⟨hlt1, hlt2⟩ := hlt
      have hkl2 : k < l.length := by rw [HE.out]; exact hlt1
      obtain ⟨b, off, rfl, hbs, c0, c1, c2, c3⟩ := (H.out.below (Nat.le_refl _) HB.out).at_ hkl2
      have S0 := Lib.hid (st_new l[k] HM.out HB.out)
      have HKS := Lib.hid (H.out.2.1 l[k] (List.getElem_mem hkl2))
      generalize l[k] = x at c0 c1 c2 c3 S0 HKS
      obtain ⟨K, key, S, N⟩ := x
      simp only at c0 c1 c2 c3 S0 HKS
      have hlti : (k : Int) < (n : Int) := by omega
      have hlti2 : (k : Int) < 200 := by omega
      have hk0 : (0 : Int) ≤ (k : Int) := by omega
      have HL := Lib.hid hlen
      have HK2 := Lib.hid hk2
      clear hkl2 hlen hbs
      go_wp2_with fail
      obtain ⟨W0, hW0⟩ : ∃ W0, wr.alloc (oStep ⟨K, key, S, N⟩) = W0 := ⟨_, rfl⟩
      have hW0' := hW0
      simp only [oStep] at hW0'
      rw [hW0] at S0
      rw [hW0']
      clear hW0 hW0' c0 c1 c2 c3 HM HB
      generalize wr.heap.size = q at S0 ⊢
      refine (st_used S0.out).mono ?_
      rintro r W1 ⟨rfl, s1⟩
      have S1 := Lib.hid s1
      obtain ⟨z0, z1, z2, z3⟩ := s1.cells
      clear s1 S0
      go_wp2_with fail
      refine (st_peek S1.out key HKS.out).mono ?_
      rintro r W2 ⟨rfl, s2⟩
      have S2 := Lib.hid s2
      obtain ⟨y0, y1, y2, y3⟩ := s2.cells
      clear s2 S1 z0 z1 z2 z3
      rw [getV_eq]
      have HG := Lib.hid S2.out.cache.good
      cases hf : fnd L key with
      | none =>
        simp only [gv, gb, Option.map_none, Option.getD_none, Option.isSome_none]
        have HD : Hid (K = 0 → drp L key = L) := fun _ => drp_none' hf
        clear hf
        have HUS : Hid ((K = 0 → tot L + kept = tot (drp L key) + kept) ∧ Good L room kept) := ⟨fun h => by rw [HD.out h], HG.out⟩
        obtain ⟨us, hus⟩ : ∃ us, us = tot L + kept := ⟨_, rfl⟩
        rw [← hus]
        have HUE := Lib.hid hus
        clear hus
        go_upto_block 2 with fail
        go_cut [11, 12] from 17 to 125 (SwRel w g q k ⟨K, key, S, N⟩ room a us)
        case first =>
          by_cases hK0 : K = 0
          · subst hK0
            have C5 := Lib.hid (st_put S2.out ⟨key, S, N⟩ HKS.out (by have := HL.out; have := HK2.out; omega))
            have HPL := Lib.hid (putL_len room kept L ⟨key, S, N⟩)
            go_wp2_with fail
            refine C5.out.mono ?_
            rintro r W6 ⟨A6, c6, rfl, _, s6⟩
            have SF := Lib.hid s6
            clear s6 C5
            go_wp2
            go_meet
            case rel => exact ⟨_, _, _, _, _, _, rfl, rfl, SF.out, by rw [HUE.out, HUS.out.1 (by trivial)]; exact bd_way HR.out (HG.out.sub (drp_sub L key)), by have := HPL.out; have := HL.out; omega⟩
          · by_cases hK1 : K = 1
            · subst hK1
              go_wp2_with fail
              refine (st_get S2.out key HKS.out).mono ?_
              rintro r W6 ⟨rfl, s6⟩
              have SF := Lib.hid s6
              clear s6
              go_wp2
              go_meet
              case rel => exact ⟨_, _, _, _, _, _, rfl, rfl, SF.out, bd_nil _ _ _ _, by have := usd_len L key; have := HL.out; omega⟩
            · by_cases hK3 : K = 3
              · subst hK3
                go_wp2_with fail
                refine (st_drop S2.out key HKS.out).mono ?_
                rintro r W6 ⟨rfl, s6⟩
                have SF := Lib.hid s6
                clear s6
                go_wp2
                go_meet
                case rel => exact ⟨_, _, _, _, _, _, rfl, rfl, SF.out, bd_nil _ _ _ _, by have := drp_len L key; have := HL.out; omega⟩
              · by_cases hK4 : K = 4
                · subst hK4
                  have C5 := Lib.hid (st_reserve S2.out S (by have := HL.out; have := HK2.out; omega))
                  go_wp2_with fail
                  refine C5.out.mono ?_
                  rintro r W6 ⟨A6, c6, rfl, _, s6⟩
                  have SF := Lib.hid s6
                  clear s6 C5
                  go_wp2
                  go_meet
                  case rel => exact ⟨_, _, _, _, _, _, rfl, rfl, SF.out, by rw [HUE.out]; exact bd_way HR.out HG.out, by have := wl_len room kept S L; have := HL.out; omega⟩
                · by_cases hK5 : K = 5
                  · subst hK5
                    go_wp2_with fail
                    refine (st_release S2.out S).mono ?_
                    rintro r W6 ⟨rfl, s6⟩
                    have SF := Lib.hid s6
                    clear s6
                    go_wp2
                    go_meet
                    case rel => exact ⟨_, _, _, _, _, _, rfl, rfl, SF.out, bd_nil _ _ _ _, by have := HL.out; omega⟩
                  · go_wp2
                    go_meet
                    case rel => exact ⟨_, _, _, _, _, _, rfl, rfl, S2.out, bd_nil _ _ _ _, by have := HL.out; omega⟩
        case rest =>
          obtain ⟨L2, kept2, A6, m2, c6, ok, rfl, rfl, sf, hbd, hl2⟩ := hcut
          have SF := Lib.hid sf
          have HBD := Lib.hid hbd
          have HL2 := Lib.hid hl2
          clear sf hbd hl2 S2 y0 y1 y2 y3
          have CU : Hid (∀ W, St w W g L2 room kept2 q (oStep ⟨K, key, S, N⟩) → Calls Try.prog 24 #[.pointer (some ⟨g, 0, none⟩)] W fun r w' => r = .returned (.int .i64 (tot L2 + kept2)) ∧ St w w' g L2 room kept2 q (oStep ⟨K, key, S, N⟩)) := fun W hW => st_used hW
          obtain ⟨uu, huu⟩ : ∃ uu, uu = tot L2 + kept2 := ⟨_, rfl⟩
          have hle : ¬ uu > room := by rw [huu]; have := SF.out.cache.good.fits; omega
          have hge : ¬ uu < kept2 := by rw [huu]; have := SF.out.cache.good.tot0; omega
          rw [← huu] at CU
          clear huu
          go_wp2_with fail
          refine (CU.out _ SF.out).mono ?_
          rintro r Wa ⟨rfl, sa⟩
          have SA := Lib.hid sa
          clear sa SF
          go_wp2_with fail
          refine (CU.out _ SA.out).mono ?_
          rintro r Wb ⟨rfl, sb⟩
          have SB := Lib.hid sb
          clear sb SA
          go_wp2_with fail
          refine (st_reserved SB.out).mono ?_
          rintro r Wc ⟨rfl, sc⟩
          have SC := Lib.hid sc
          obtain ⟨v0, v1, v2, v3⟩ := sc.cells
          clear sc SB
          by_cases hm0 : 0 < m2
          · obtain ⟨rfl, hS0, hSa, hnu⟩ := HBD.out hm0
            have hwr : IntKind.i64.wrap (a - S) = a - S := IntWalk.i64_in _ (by have := HA.out; omega)
            have hm1 : (m2 : Int) > 0 := by omega
            go_wp2
            go_roundw
            case rel => exact ⟨k + 1, L2, kept2, by omega, by have := HE.out; omega, by go_num, SC.out.cache, SC.out.bel, by have := HL2.out; omega⟩
            case measure => simp [intOf]; omega
          · obtain rfl : m2 = 0 := by omega
            go_wp2
            go_roundw
            case rel => exact ⟨k + 1, L2, kept2, by omega, by have := HE.out; omega, by go_num, SC.out.cache, SC.out.bel, by have := HL2.out; omega⟩
            case measure => simp [intOf]; omega
      | some t =>
        by_cases hK0 : K = 0
        · subst hK0
          have hgb : gb (some t) = true := rfl
          rw [hgb, ← hf]
          clear hgb hf
          have S2' := Lib.hid (st_drop S2.out key HKS.out)
          go_wp2_with fail
          refine S2'.out.mono ?_
          rintro r W3 ⟨rfl, s3⟩
          have S3 := Lib.hid s3
          obtain ⟨x0, x1, x2, x3⟩ := s3.cells
          clear s3 S2 S2' y0 y1 y2 y3
          have HG3 := Lib.hid S3.out.cache.good
          go_wp2_with fail
          refine (st_used S3.out).mono ?_
          rintro r W4 ⟨rfl, s4⟩
          have S4 := Lib.hid s4
          obtain ⟨t0, t1, t2, t3⟩ := s4.cells
          clear s4 S3 x0 x1 x2 x3
          have C4 := Lib.hid (st_put S4.out ⟨key, 0, gv (fnd L key)⟩ HKS.out (by have := drp_len L key; have := HL.out; have := HK2.out; omega))
          rw [put_zero HG.out key] at C4
          go_wp2_with fail
          refine C4.out.mono ?_
          rintro r W5 ⟨A5, c5, rfl, _, s5⟩
          have S5 := Lib.hid s5
          obtain ⟨r0, r1, r2, r3⟩ := s5.cells
          clear s5 S4 C4 t0 t1 t2 t3
          have C5 := Lib.hid (st_put S5.out ⟨key, S, N⟩ HKS.out (by have := drp_len L key; have := HL.out; have := HK2.out; simp; omega))
          have hdd : drp (⟨key, 0, gv (fnd L key)⟩ :: drp L key) key = drp L key := drp_cons_same ⟨key, 0, gv (fnd L key)⟩ L
          simp only [hdd] at C5
          have HPL := Lib.hid (putL_len room kept (⟨key, 0, gv (fnd L key)⟩ :: drp L key) ⟨key, S, N⟩)
          clear hdd
          go_wp2_with fail
          refine C5.out.mono ?_
          rintro r W6 ⟨A6, c6, rfl, _, s6⟩
          have SF := Lib.hid s6
          clear s6 S5 C5 r0 r1 r2 r3
          have HBD : Hid (Bd a (tot (drp L key) + kept) S (wG room kept S (drp L key)).length (wayOk room kept S)) := bd_way HR.out HG3.out
          have HL2 : Hid ((putL room kept (⟨key, 0, gv (fnd L key)⟩ :: drp L key) ⟨key, S, N⟩).length ≤ 2 * k + 2) := by
            show _ ≤ _
            have := HPL.out
            have := drp_len L key
            have := HL.out
            simp at *
            omega
          generalize (wG room kept S (drp L key)).length = m2 at HBD ⊢
          generalize wayOk room kept S = ok at HBD ⊢
          generalize tot (drp L key) + kept = us at HBD ⊢
          generalize putL room kept (⟨key, 0, gv (fnd L key)⟩ :: drp L key) ⟨key, S, N⟩ = L2 at SF HL2
          clear HPL HG HG3
          have CU : Hid (∀ W, St w W g L2 room kept q (oStep ⟨0, key, S, N⟩) → Calls Try.prog 24 #[.pointer (some ⟨g, 0, none⟩)] W fun r w' => r = .returned (.int .i64 (tot L2 + kept)) ∧ St w w' g L2 room kept q (oStep ⟨0, key, S, N⟩)) := fun W hW => st_used hW
          obtain ⟨uu, huu⟩ : ∃ uu, uu = tot L2 + kept := ⟨_, rfl⟩
          have hle : ¬ uu > room := by rw [huu]; have := SF.out.cache.good.fits; omega
          have hge : ¬ uu < kept := by rw [huu]; have := SF.out.cache.good.tot0; omega
          rw [← huu] at CU
          clear huu
          go_wp2_with fail
          refine (CU.out _ SF.out).mono ?_
          rintro r Wa ⟨rfl, sa⟩
          have SA := Lib.hid sa
          clear sa SF
          go_wp2_with fail
          refine (CU.out _ SA.out).mono ?_
          rintro r Wb ⟨rfl, sb⟩
          have SB := Lib.hid sb
          clear sb SA
          go_wp2_with fail
          refine (st_reserved SB.out).mono ?_
          rintro r Wc ⟨rfl, sc⟩
          have SC := Lib.hid sc
          obtain ⟨v0, v1, v2, v3⟩ := sc.cells
          clear sc SB
          by_cases hm0 : 0 < m2
          · obtain ⟨rfl, hS0, hSa, hnu⟩ := HBD.out hm0
            have hwr : IntKind.i64.wrap (a - S) = a - S := IntWalk.i64_in _ (by have := HA.out; omega)
            have hm1 : (m2 : Int) > 0 := by omega
            go_wp2
            go_roundw
            case rel => exact ⟨k + 1, L2, kept, by omega, by have := HE.out; omega, by go_num, SC.out.cache, SC.out.bel, by have := HL2.out; omega⟩
            case measure => simp [intOf]; omega
          · obtain rfl : m2 = 0 := by omega
            go_wp2
            go_roundw
            case rel => exact ⟨k + 1, L2, kept, by omega, by have := HE.out; omega, by go_num, SC.out.cache, SC.out.bel, by have := HL2.out; omega⟩
            case measure => simp [intOf]; omega
        · simp only [gb, Option.isSome_some]
          have HD : Hid (K = 0 → drp L key = L) := fun h => absurd h hK0
          clear hf
          have HUS : Hid ((K = 0 → tot L + kept = tot (drp L key) + kept) ∧ Good L room kept) := ⟨fun h => by rw [HD.out h], HG.out⟩
          obtain ⟨us, hus⟩ : ∃ us, us = tot L + kept := ⟨_, rfl⟩
          rw [← hus]
          have HUE := Lib.hid hus
          clear hus
          go_upto_block 2 with fail
          go_cut [11, 12] from 17 to 125 (SwRel w g q k ⟨K, key, S, N⟩ room a us)
          case first =>
            · by_cases hK1 : K = 1
              · subst hK1
                go_wp2_with fail
                refine (st_get S2.out key HKS.out).mono ?_
                rintro r W6 ⟨rfl, s6⟩
                have SF := Lib.hid s6
                clear s6
                go_wp2
                go_meet
                case rel => exact ⟨_, _, _, _, _, _, rfl, rfl, SF.out, bd_nil _ _ _ _, by have := usd_len L key; have := HL.out; omega⟩
              · by_cases hK3 : K = 3
                · subst hK3
                  go_wp2_with fail
                  refine (st_drop S2.out key HKS.out).mono ?_
                  rintro r W6 ⟨rfl, s6⟩
                  have SF := Lib.hid s6
                  clear s6
                  go_wp2
                  go_meet
                  case rel => exact ⟨_, _, _, _, _, _, rfl, rfl, SF.out, bd_nil _ _ _ _, by have := drp_len L key; have := HL.out; omega⟩
                · by_cases hK4 : K = 4
                  · subst hK4
                    have C5 := Lib.hid (st_reserve S2.out S (by have := HL.out; have := HK2.out; omega))
                    go_wp2_with fail
                    refine C5.out.mono ?_
                    rintro r W6 ⟨A6, c6, rfl, _, s6⟩
                    have SF := Lib.hid s6
                    clear s6 C5
                    go_wp2
                    go_meet
                    case rel => exact ⟨_, _, _, _, _, _, rfl, rfl, SF.out, by rw [HUE.out]; exact bd_way HR.out HG.out, by have := wl_len room kept S L; have := HL.out; omega⟩
                  · by_cases hK5 : K = 5
                    · subst hK5
                      go_wp2_with fail
                      refine (st_release S2.out S).mono ?_
                      rintro r W6 ⟨rfl, s6⟩
                      have SF := Lib.hid s6
                      clear s6
                      go_wp2
                      go_meet
                      case rel => exact ⟨_, _, _, _, _, _, rfl, rfl, SF.out, bd_nil _ _ _ _, by have := HL.out; omega⟩
                    · go_wp2
                      go_meet
                      case rel => exact ⟨_, _, _, _, _, _, rfl, rfl, S2.out, bd_nil _ _ _ _, by have := HL.out; omega⟩
          case rest =>
            obtain ⟨L2, kept2, A6, m2, c6, ok, rfl, rfl, sf, hbd, hl2⟩ := hcut
            have SF := Lib.hid sf
            have HBD := Lib.hid hbd
            have HL2 := Lib.hid hl2
            clear sf hbd hl2 S2 y0 y1 y2 y3
            have CU : Hid (∀ W, St w W g L2 room kept2 q (oStep ⟨K, key, S, N⟩) → Calls Try.prog 24 #[.pointer (some ⟨g, 0, none⟩)] W fun r w' => r = .returned (.int .i64 (tot L2 + kept2)) ∧ St w w' g L2 room kept2 q (oStep ⟨K, key, S, N⟩)) := fun W hW => st_used hW
            obtain ⟨uu, huu⟩ : ∃ uu, uu = tot L2 + kept2 := ⟨_, rfl⟩
            have hle : ¬ uu > room := by rw [huu]; have := SF.out.cache.good.fits; omega
            have hge : ¬ uu < kept2 := by rw [huu]; have := SF.out.cache.good.tot0; omega
            rw [← huu] at CU
            clear huu
            go_wp2_with fail
            refine (CU.out _ SF.out).mono ?_
            rintro r Wa ⟨rfl, sa⟩
            have SA := Lib.hid sa
            clear sa SF
            go_wp2_with fail
            refine (CU.out _ SA.out).mono ?_
            rintro r Wb ⟨rfl, sb⟩
            have SB := Lib.hid sb
            clear sb SA
            go_wp2_with fail
            refine (st_reserved SB.out).mono ?_
            rintro r Wc ⟨rfl, sc⟩
            have SC := Lib.hid sc
            obtain ⟨v0, v1, v2, v3⟩ := sc.cells
            clear sc SB
            by_cases hm0 : 0 < m2
            · obtain ⟨rfl, hS0, hSa, hnu⟩ := HBD.out hm0
              have hwr : IntKind.i64.wrap (a - S) = a - S := IntWalk.i64_in _ (by have := HA.out; omega)
              have hm1 : (m2 : Int) > 0 := by omega
              go_wp2
              go_roundw
              case rel => exact ⟨k + 1, L2, kept2, by omega, by have := HE.out; omega, by go_num, SC.out.cache, SC.out.bel, by have := HL2.out; omega⟩
              case measure => simp [intOf]; omega
            · obtain rfl : m2 = 0 := by omega
              go_wp2
              go_roundw
              case rel => exact ⟨k + 1, L2, kept2, by omega, by have := HE.out; omega, by go_num, SC.out.cache, SC.out.bel, by have := HL2.out; omega⟩
              case measure => simp [intOf]; omega
    · skip
      have hcase : ¬ (k : Int) < (n : Int) ∨ ((k : Int) < (n : Int) ∧ ¬ (k : Int) < 200) := by omega
      clear hlt hk2 hkl hlen HM
      rcases hcase with hc1 | ⟨hc1, hc2⟩
      all_goals
        go_wp2
        go_ret
        exact ⟨rfl, HB.out⟩
end Go.Proofs.Ytmhpngfkipooiaa
