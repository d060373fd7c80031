/-
  R9E, RPure, RPure2, At11.
-/
import Derived.Test.YtnfbmdniomelnaaGG
import Derived.Test.YtnfbmdniomelnaaGB
import Derived.Test.YtnfbmdniomelnaaGF
/-
  The document's At, Same, Equal (layer 9).
-/
namespace Go.Proofs.Ytnfbmdniomelnaa
open Go.RowKit Mem Spans
set_option linter.unusedSimpArgs false
set_option linter.unusedVariables false
set_option maxRecDepth 100000

/-- How many are at a place: by the first of them. -/
def alk : List Int → List Int → Int → Int
  | x :: xs, y :: ys, p => if x = p then y else alk xs ys p
  | _, _, _ => 0
set_option maxHeartbeats 1000000 in
theorem lat_any (v u : Value) (xs ys : List Int) (p : Int) (w : World) (h : ISrc w v xs) (h2 : ISrc w u ys) (hl : xs.length ≤ ys.length) :
    Calls Try.prog 52 #[v, u, .int .i64 p] w fun e w' => e = .returned (.int .i64 (alk xs ys p)) ∧ w = w' := by
  obtain ⟨ao, cap, rfl, hcap, hmax, _, b, off, ha, hc⟩ := h
  obtain ⟨ao2, cap2, rfl, hcap2, hmax2, _, b2, off2, ha2, hc2⟩ := h2
  have HC : Hid (∀ j s, xs[j]? = some s → w.cell? ⟨b, off + j, none⟩ = some (.int .i64 s)) := hc
  have HC2 : Hid (∀ j s, ys[j]? = some s → w.cell? ⟨b2, off2 + j, none⟩ = some (.int .i64 s)) := hc2
  have HA : Hid (0 < xs.length → ao = some ⟨b, off, none⟩) := ha
  have HA2 : Hid (0 < ys.length → ao2 = some ⟨b2, off2, none⟩) := ha2
  have hml : xs.length ≤ 9223372036854775807 := by unfold maxLen at hmax; omega
  clear hc ha hc2 ha2
  go_enter Try.func52, Try.ntmps52
  go_wp2
  go_loopw [7] (fun i wr => ∃ (k : Nat), k ≤ xs.length ∧ i = .int .i64 (k : Int) ∧ alk xs ys p = alk (xs.drop k) (ys.drop k) p ∧ wr = w) (fun i _ => xs.length - (intOf i).toNat)
  case atStart => exact ⟨0, by omega, rfl, rfl, rfl⟩
  case round =>
    obtain ⟨k, hk, rfl, hr, rfl⟩ := hrel
    have HR : Hid (alk xs ys p = alk (xs.drop k) (ys.drop k) p) := hr
    clear hr
    by_cases hlt : k < xs.length
    · obtain rfl := HA.out (by omega)
      obtain rfl := HA2.out (by omega)
      have hlt2 : k < ys.length := by omega
      obtain ⟨x, hx⟩ := at_lt hlt
      obtain ⟨y, hy⟩ := at_lt hlt2
      have c0 := HC.out k x hx
      have c1 := HC2.out k y hy
      have HR2 : Hid (alk xs ys p = if x = p then y else alk (xs.drop (k + 1)) (ys.drop (k + 1)) p) := by rw [Hid, HR.out, drop_at hx, drop_at hy]; rfl
      clear hx hy HR
      by_cases hxp : x = p
      · have HE : Hid (alk xs ys p = y) := by rw [Hid, HR2.out, if_pos hxp]
        go_wp2
        go_ret
        exact ⟨by rw [HE.out]; rfl, rfl⟩
      · have HE : Hid (alk xs ys p = alk (xs.drop (k + 1)) (ys.drop (k + 1)) p) := by rw [Hid, HR2.out, if_neg hxp]
        go_wp2
        go_roundw
        case rel => first | exact ⟨k + 1, by omega, by go_num, HE.out, trivial⟩ | exact ⟨_, _, ⟨k + 1, by omega, rfl, HE.out⟩, rfl, by go_num⟩
        case measure => simp [intOf]; omega
    · have HE : Hid (alk xs ys p = 0) := by rw [Hid, HR.out, List.drop_eq_nil_of_le (by omega)]; rfl
      go_wp2
      go_ret
      exact ⟨by rw [HE.out]; rfl, rfl⟩

/-- Is at each place of one side as many on the other one? -/
def hlf (xs ys qs ns : List Int) : Bool := (xs.zip ys).all fun s => decide (s.2 = alk qs ns s.1)
def smb (xs ys qs ns : List Int) : Bool := hlf xs ys qs ns && hlf qs ns xs ys
theorem hlf_no {xs ys qs ns : List Int} {k : Nat} {x y : Int} (hx : xs[k]? = some x) (hy : ys[k]? = some y) (h : y ≠ alk qs ns x) : hlf xs ys qs ns = false := by
  rw [Bool.eq_false_iff]
  intro h2
  unfold hlf at h2
  rw [List.all_eq_true] at h2
  have hm : (x, y) ∈ xs.zip ys := List.mem_of_getElem? (List.getElem?_zip_eq_some.2 ⟨hx, hy⟩)
  exact h (by simpa using h2 _ hm)
theorem hlf_take {xs ys qs ns : List Int} (hl : ys.length ≤ xs.length) (h : hlf (xs.take xs.length) (ys.take xs.length) qs ns = true) : hlf xs ys qs ns = true := by
  rw [List.take_of_length_le (Nat.le_refl _), List.take_of_length_le hl] at h
  exact h
theorem hlf_snoc {xs ys qs ns : List Int} {k : Nat} {x y : Int} (hx : xs[k]? = some x) (hy : ys[k]? = some y) (h : hlf (xs.take k) (ys.take k) qs ns = true) (e : y = alk qs ns x) : hlf (xs.take (k + 1)) (ys.take (k + 1)) qs ns = true := by
  have hxk := (List.getElem?_eq_some_iff.1 hx).1
  have hyk := (List.getElem?_eq_some_iff.1 hy).1
  unfold hlf at *
  rw [take_at hx, take_at hy, List.zip_append (by simp; omega), List.all_append, h]
  simp [e]


theorem sp_len (l : List Sp) (d : List Int) : (spl l d).length = (svl l d).length := by
  unfold spl svl
  split
  · rename_i h
    have hz := sde_zero.1 h
    rw [abv_length hz.2.2.1]; exact hz.2.1.symm
  · rfl
theorem spl_in (l : List Sp) (d : List Int) : ∀ z ∈ spl l d, in64 z := by
  intro z hz; unfold spl at hz; split at hz
  · exact pls_in64 z hz
  · simp at hz
theorem svl_in (l : List Sp) (d : List Int) : ∀ z ∈ svl l d, in64 z := by
  intro z hz; unfold svl at hz; split at hz
  · exact abv_in d z hz
  · simp at hz
theorem nineR_mid (w : World) (cs : Array Value) (o : Obj) : NineR ((w.alloc (.cells cs 37)).alloc o) w.heap.size cs := (NineR.new w cs).kept ((Fr.refl [] _).alloc _) (by simp)
/-- The document's Equal. -/
def smx (a b : Hs) : Bool := smb (spl a.P a.pd) (svl a.P a.pd) (spl b.P b.pd) (svl b.P b.pd) && smb (spl a.N a.nd) (svl a.N a.nd) (spl b.N b.nd) (svl b.N b.nd)
def req (a b : Hs) : Bool := decide (che a = 0 ∧ che b = 0 ∧ a.s = b.s ∧ a.z = b.z ∧ a.zc = b.zc ∧ a.c = b.c ∧ a.sm = b.sm) && smx a b

end Go.Proofs.Ytnfbmdniomelnaa

/-
  Histograms of whole counts: the document's Equal is Equal.
-/
namespace Go.Proofs.Ytnfbmdniomelnaa
open Go.RowKit Mem Spans
set_option linter.unusedSimpArgs false
set_option linter.unusedVariables false

/-- Places that rise. -/
def up (l : List Sp) : Prop := l.Pairwise fun s t => s.1 < t.1
theorem up_fsts {l : List Sp} : up l ↔ (fsts l).Pairwise (· < ·) := by unfold up fsts; rw [List.pairwise_map]
theorem sdl_up (l : List Sp) (d : List Int) : up (sdl l d) := by
  by_cases h : sde l d = 0
  · rw [up_fsts, (sdl_zip h).2.1]; exact rises_pair (pls_rises l)
  · unfold sdl; rw [if_neg h]; exact List.Pairwise.nil
theorem up_wio {l : List Sp} {z : Int} (h : up l) : up (wio l z) := List.Pairwise.filter _ h
theorem up_ext {A B : List Sp} (hA : up A) (hB : up B) (h : ∀ s, s ∈ A ↔ s ∈ B) : A = B := by
  induction A generalizing B with
  | nil =>
    cases B with
    | nil => rfl
    | cons b r => exact absurd ((h b).2 (by simp)) (by simp)
  | cons a r ih =>
    cases B with
    | nil => exact absurd ((h a).1 (by simp)) (by simp)
    | cons b q =>
      unfold up at hA hB
      rw [List.pairwise_cons] at hA hB
      have hab : a = b := by
        rcases List.mem_cons.1 ((h a).1 (by simp)) with h1 | h1
        · exact h1
        · rcases List.mem_cons.1 ((h b).2 (by simp)) with h2 | h2
          · exact h2.symm
          · have := hA.1 b h2
            have := hB.1 a h1
            omega
      subst hab
      congr 1
      refine ih hA.2 hB.2 fun s => ?_
      constructor
      · intro hs
        rcases List.mem_cons.1 ((h s).1 (List.mem_cons_of_mem _ hs)) with h1 | h1
        · have := hA.1 s hs; rw [h1] at this; omega
        · exact h1
      · intro hs
        rcases List.mem_cons.1 ((h s).2 (List.mem_cons_of_mem _ hs)) with h1 | h1
        · have := hB.1 s hs; rw [h1] at this; omega
        · exact h1
theorem alk_out {l : List Sp} {p : Int} (h : ∀ s ∈ l, s.1 ≠ p) : alk (fsts l) (snds l) p = 0 := by
  induction l with
  | nil => rfl
  | cons a r ih =>
    show (if a.1 = p then a.2 else alk (fsts r) (snds r) p) = 0
    rw [if_neg (h a (by simp))]
    exact ih fun s hs => h s (by simp [hs])
theorem alk_mem {l : List Sp} {s : Sp} (h : up l) (hs : s ∈ l) : alk (fsts l) (snds l) s.1 = s.2 := by
  induction l with
  | nil => simp at hs
  | cons a r ih =>
    unfold up at h
    rw [List.pairwise_cons] at h
    show (if a.1 = s.1 then a.2 else alk (fsts r) (snds r) s.1) = s.2
    rcases List.mem_cons.1 hs with h1 | h1
    · rw [h1, if_pos rfl]
    · have := h.1 s h1
      rw [if_neg (by omega)]
      exact ih h.2 h1
theorem zip_self (l : List Sp) : (fsts l).zip (snds l) = l := by
  induction l with
  | nil => rfl
  | cons a r ih => show (a.1, a.2) :: ((fsts r).zip (snds r)) = a :: r; rw [ih]
theorem hlf_iff {A : List Sp} {qs ns : List Int} : hlf (fsts A) (snds A) qs ns = true ↔ ∀ s ∈ A, s.2 = alk qs ns s.1 := by
  unfold hlf
  rw [zip_self, List.all_eq_true]
  simp
theorem alk_wio {A B : List Sp} (hA : up A) (hB : up B) (e : wio A 0 = wio B 0) {s : Sp} (hs : s ∈ A) : s.2 = alk (fsts B) (snds B) s.1 := by
  by_cases h : ∃ t ∈ B, t.1 = s.1
  · obtain ⟨t, ht, hts⟩ := h
    rw [← hts, alk_mem hB ht]
    by_cases h0 : s.2 = 0
    · by_cases h1 : t.2 = 0
      · omega
      · have h2 : t ∈ wio A 0 := by rw [e]; exact wio_mem.2 ⟨ht, h1⟩
        have h3 := alk_mem hA (wio_mem.1 h2).1
        have h4 := alk_mem hA hs
        rw [hts] at h3
        omega
    · have h2 : s ∈ wio B 0 := by rw [← e]; exact wio_mem.2 ⟨hs, h0⟩
      have h3 := alk_mem hB (wio_mem.1 h2).1
      have h4 := alk_mem hB ht
      rw [hts] at h4
      omega
  · have hn : ∀ t ∈ B, t.1 ≠ s.1 := fun t ht e2 => h ⟨t, ht, e2⟩
    rw [alk_out hn]
    refine Classical.byContradiction fun h0 => ?_
    have h2 : s ∈ wio B 0 := by rw [← e]; exact wio_mem.2 ⟨hs, h0⟩
    exact hn s (wio_mem.1 h2).1 rfl
theorem smb_wio {A B : List Sp} (hA : up A) (hB : up B) : smb (fsts A) (snds A) (fsts B) (snds B) = decide (wio A 0 = wio B 0) := by
  rw [Bool.eq_iff_iff, decide_eq_true_iff]
  unfold smb
  rw [Bool.and_eq_true, hlf_iff, hlf_iff]
  constructor
  · rintro ⟨h1, h2⟩
    have one : ∀ {A B : List Sp}, (∀ s ∈ A, s.2 = alk (fsts B) (snds B) s.1) → up B → ∀ s ∈ wio A 0, s ∈ wio B 0 := by
      intro A B h hB s hs
      obtain ⟨hs1, hs2⟩ := wio_mem.1 hs
      have e := h s hs1
      by_cases hm : ∃ t ∈ B, t.1 = s.1
      · obtain ⟨t, ht, hts⟩ := hm
        have h3 := alk_mem hB ht
        rw [hts, ← e] at h3
        have : s = t := Prod.ext hts.symm h3
        rw [this] at hs2 ⊢
        exact wio_mem.2 ⟨ht, hs2⟩
      · rw [alk_out (fun t ht e2 => hm ⟨t, ht, e2⟩)] at e
        exact absurd e hs2
    exact up_ext (up_wio hA) (up_wio hB) fun s => ⟨one h1 hB s, one h2 hA s⟩
  · intro e
    exact ⟨fun s hs => alk_wio hA hB e hs, fun s hs => alk_wio hB hA e.symm hs⟩
theorem spl_sdl {l : List Sp} {d : List Int} (h : sde l d = 0) : spl l d = fsts (sdl l d) ∧ svl l d = snds (sdl l d) := by
  have := sdl_zip h
  unfold spl svl
  rw [if_pos h, if_pos h]
  exact ⟨this.2.1.symm, this.2.2.symm⟩
theorem req_heq (a b : Hs) : req a b = heq a b := by
  by_cases h : che a = 0 ∧ che b = 0
  · obtain ⟨h1, h2⟩ := h
    have k1 := che_zero.1 h1
    have k2 := che_zero.1 h2
    have e1 : sdp a = sdl a.P a.pd ∧ sdn a = sdl a.N a.nd := by unfold sdp sdn; rw [if_pos h1, if_pos h1]; exact ⟨rfl, rfl⟩
    have e2 : sdp b = sdl b.P b.pd ∧ sdn b = sdl b.N b.nd := by unfold sdp sdn; rw [if_pos h2, if_pos h2]; exact ⟨rfl, rfl⟩
    have e3 : smx a b = decide (wio (sdp a) 0 = wio (sdp b) 0 ∧ wio (sdn a) 0 = wio (sdn b) 0) := by
      unfold smx
      rw [(spl_sdl k1.2.1).1, (spl_sdl k1.2.1).2, (spl_sdl k1.2.2.1).1, (spl_sdl k1.2.2.1).2, (spl_sdl k2.2.1).1, (spl_sdl k2.2.1).2, (spl_sdl k2.2.2.1).1, (spl_sdl k2.2.2.1).2, smb_wio (sdl_up _ _) (sdl_up _ _), smb_wio (sdl_up _ _) (sdl_up _ _), e1.1, e1.2, e2.1, e2.2]
      rw [Bool.eq_iff_iff]; simp
    unfold req heq
    rw [e3, Bool.eq_iff_iff]
    simp only [Bool.and_eq_true, decide_eq_true_eq]
    constructor
    · rintro ⟨⟨p1, p2, p3, p4, p5, p6, p7⟩, p8, p9⟩; exact ⟨p1, p2, p3, p4, p5, p6, p7, p8, p9⟩
    · rintro ⟨p1, p2, p3, p4, p5, p6, p7, p8, p9⟩; exact ⟨⟨p1, p2, p3, p4, p5, p6, p7⟩, p8, p9⟩
  · unfold req heq
    rw [decide_eq_false (fun k => h ⟨k.1, k.2.1⟩), decide_eq_false (fun k => h ⟨k.1, k.2.1⟩)]
    rfl
theorem heq_comm (a b : Hs) : heq b a = heq a b := by
  unfold heq
  rw [decide_eq_decide]
  constructor <;> · rintro ⟨p1, p2, p3, p4, p5, p6, p7, p8, p9⟩; exact ⟨p2, p1, p3.symm, p4.symm, p5.symm, p6.symm, p7.symm, p8.symm, p9.symm⟩
theorem heq_self (a : Hs) : heq a a = (che a == 0) := by
  unfold heq
  rw [Bool.eq_iff_iff, decide_eq_true_iff, beq_iff_eq]
  exact ⟨fun h => h.1, fun h => ⟨h, h, rfl, rfl, rfl, rfl, rfl, rfl, rfl⟩⟩
end Go.Proofs.Ytnfbmdniomelnaa

/-
  Histograms of whole counts: what is made of places and counts has them; without empty buckets it counts the same.
-/
namespace Go.Proofs.Ytnfbmdniomelnaa
open Go.RowKit Mem Spans
set_option linter.unusedSimpArgs false
set_option linter.unusedVariables false

theorem absl_dltl {a : Int} {l o : List Int} (h : dltl a l = some o) (hl : ∀ z ∈ l, in64 z) : absl a o = some l := by
  induction l generalizing a o with
  | nil => simp [dltl] at h; subst h; rfl
  | cons d r ih =>
    simp only [dltl] at h
    split at h
    · obtain ⟨t, h1, rfl⟩ := Option.map_eq_some_iff.1 h
      simp only [absl]
      rw [show a + (d - a) = d from by omega, if_pos (fits_iff.2 (hl d (by simp))), ih h1 (fun z hz => hl z (by simp [hz]))]
      rfl
    · cases h
theorem dltl_up {a : Int} {l : List Int} (ha : 0 ≤ a ∧ in64 a) (hl : ∀ z ∈ l, 0 ≤ z ∧ in64 z) : ∃ o, dltl a l = some o := by
  induction l generalizing a with
  | nil => exact ⟨[], rfl⟩
  | cons d r ih =>
    have hd := hl d (by simp)
    obtain ⟨o, ho⟩ := ih hd (fun z hz => hl z (by simp [hz]))
    refine ⟨(d - a) :: o, ?_⟩
    simp only [dltl]
    rw [if_pos (fits_iff.2 (by have h1 := ha.2; have h2 := hd.2; unfold in64 at h1 h2 ⊢; omega)), ho]
    rfl
theorem dle_zero {l : List Int} : dle l = 0 ↔ ∃ o, dltl 0 l = some o := by unfold dle; cases dltl 0 l <;> simp
theorem dle_up {l : List Int} (hl : ∀ z ∈ l, 0 ≤ z ∧ in64 z) : dle l = 0 := dle_zero.2 (dltl_up ⟨by omega, by unfold in64; omega⟩ hl)
theorem dlv_ab {l : List Int} (h : dle l = 0) (hl : ∀ z ∈ l, in64 z) : abe (dlv l) = 0 ∧ abv (dlv l) = l ∧ (dlv l).length = l.length := by
  obtain ⟨o, ho⟩ := dle_zero.1 h
  have e : dlv l = o := by unfold dlv; rw [ho]; rfl
  have k := absl_dltl ho hl
  rw [e]
  refine ⟨abe_zero.2 ⟨l, k⟩, by unfold abv; rw [k]; rfl, (dltl_in ho).1⟩
/-- What apart tells has these places and counts. -/
theorem ap_sde {l : List Sp} (h : ape l = 0) (hl : ∀ s ∈ l, in64 s.1 ∧ in64 s.2) : sde (aps l) (apd l) = (if nng (snds l) = true then 0 else 22) ∧ abv (apd l) = snds l ∧ pls (aps l) = fsts l ∧ cnn (aps l) = true := by
  have k := ape_zero.1 h
  have kf := frm_ok k.1
  have e1 : aps l = rns 0 (fsts l) := by unfold aps; rw [if_pos h]
  have e2 : apd l = dlv (snds l) := by unfold apd; rw [if_pos h]
  have hs : ∀ z ∈ snds l, in64 z := by
    intro z hz
    obtain ⟨s, hs, rfl⟩ := List.mem_map.1 hz
    exact (hl s hs).2
  have kd := dlv_ab k.2 hs
  have ep : pls (rns 0 (fsts l)) = fsts l := by unfold pls; rw [if_pos kf.1, kf.2.2]
  rw [e1, e2]
  refine ⟨?_, kd.2.1, ep, ?_⟩
  · unfold sde
    rw [if_pos kf.1, if_pos (by rw [ep, kd.2.2, fsts_length, snds_length]), if_pos kd.1, kd.2.1]
  · unfold cnn
    rw [decide_eq_true kf.1, (shpB_iff _ _).2 kf.2.1]
    rfl
theorem ap_sdl {l : List Sp} (h : ape l = 0) (hl : ∀ s ∈ l, in64 s.1 ∧ in64 s.2) (hn : nng (snds l) = true) : sdl (aps l) (apd l) = l := by
  have k := ap_sde h hl
  have h0 : sde (aps l) (apd l) = 0 := by rw [k.1, if_pos hn]
  rw [(sdl_zip h0).1, k.2.1, k.2.2.1, zip_self]
/-- Make's error, as the document has it. -/
def mka (h : Hs) (p n : List Sp) : Int :=
  if ape p = 0 then (if ape n = 0 then (if hde h.s h.z = 0 then (if nng (snds p) = true then (if nng (snds n) = true then fte h.zc h.c h.sm (snds p) (snds n) else 22) else 22) else hde h.s h.z) else ape n) else ape p
theorem mke_mka (h : Hs) {p n : List Sp} (hp : ∀ s ∈ p, in64 s.1 ∧ in64 s.2) (hn : ∀ s ∈ n, in64 s.1 ∧ in64 s.2) : mke h p n = mka h p n := by
  unfold mke mka
  by_cases h1 : ape p = 0
  · rw [if_pos h1, if_pos h1]
    by_cases h2 : ape n = 0
    · rw [if_pos h2, if_pos h2]
      have k1 := ap_sde h1 hp
      have k2 := ap_sde h2 hn
      by_cases h3 : hde h.s h.z = 0
      · rw [if_pos h3]
        by_cases h4 : nng (snds p) = true
        · rw [if_pos h4]
          by_cases h5 : nng (snds n) = true
          · rw [if_pos h5, che_fts (h := mks h p n) h3 (by show sde (aps p) (apd p) = 0; rw [k1.1, if_pos h4]) (by show sde (aps n) (apd n) = 0; rw [k2.1, if_pos h5])]
            show (if fts h.zc h.c h.sm (abv (apd p)) (abv (apd n)) = true then (0 : Int) else 22) = _
            rw [k1.2.1, k2.2.1]; rfl
          · rw [if_neg h5, che_neg (h := mks h p n) h3 (by show sde (aps p) (apd p) = 0; rw [k1.1, if_pos h4]) (by show sde (aps n) (apd n) ≠ 0; rw [k2.1, if_neg h5]; decide)]
            show sde (aps n) (apd n) = 22
            rw [k2.1, if_neg h5]
        · rw [if_neg h4, che_pos (h := mks h p n) h3 (by show sde (aps p) (apd p) ≠ 0; rw [k1.1, if_neg h4]; decide)]
          show sde (aps p) (apd p) = 22
          rw [k1.1, if_neg h4]
      · rw [if_neg h3, che_head (h := mks h p n) h3]; rfl
    · rw [if_neg h2, if_neg h2]
  · rw [if_neg h1, if_neg h1]
/-- What was made has just these places and counts. -/
theorem mks_sd {h : Hs} {p n : List Sp} (hp : ∀ s ∈ p, in64 s.1 ∧ in64 s.2) (hn : ∀ s ∈ n, in64 s.1 ∧ in64 s.2) (k : mke h p n = 0) : che (mks h p n) = 0 ∧ sdp (mks h p n) = p ∧ sdn (mks h p n) = n ∧ cnn (aps p) = true ∧ cnn (aps n) = true := by
  have kk := k
  rw [mke_mka h hp hn] at kk
  unfold mka at kk
  unfold mke at k
  split at kk
  · rename_i h1
    split at kk
    · rename_i h2
      split at kk
      · split at kk
        · rename_i h4
          split at kk
          · rename_i h5
            rw [if_pos h1, if_pos h2] at k
            refine ⟨k, ?_, ?_, (ap_sde h1 hp).2.2.2, (ap_sde h2 hn).2.2.2⟩
            · unfold sdp; rw [if_pos k]; exact ap_sdl h1 hp h4
            · unfold sdn; rw [if_pos k]; exact ap_sdl h2 hn h5
          · cases kk
        · cases kk
      · rename_i h3; exact absurd kk h3
    · rename_i h2; exact absurd kk h2
  · rename_i h1; exact absurd kk h1

theorem lft_drop0 {a : Int} {l : List Int} (ha : 0 ≤ a) (hl : ∀ z ∈ l, 0 ≤ z) : lft a (l.filter fun z => !decide (z = 0)) = lft a l := by
  induction l generalizing a with
  | nil => rfl
  | cons d r ih =>
    have hd := hl d (by simp)
    have hr : ∀ z ∈ r, 0 ≤ z := fun z hz => hl z (by simp [hz])
    by_cases h0 : d = 0
    · subst h0
      rw [List.filter_cons_of_neg (by simp), lft_cons, if_pos ha, Int.sub_zero]
      exact ih ha hr
    · rw [List.filter_cons_of_pos (by simpa using h0), lft_cons, lft_cons]
      by_cases h1 : d ≤ a
      · rw [if_pos h1, if_pos h1]; exact ih (by omega) hr
      · rw [if_neg h1, if_neg h1]
theorem snds_wio (l : List Sp) : snds (wio l 0) = (snds l).filter fun z => !decide (z = 0) := by
  unfold snds wio
  rw [List.filter_map]
  rfl
theorem wio_wio (l : List Sp) : wio (wio l 0) 0 = wio l 0 := by
  unfold wio
  rw [List.filter_filter]
  congr 1
  funext s
  simp
theorem abv_nn {l : List Sp} {d : List Int} (h : sde l d = 0) : ∀ s ∈ sdl l d, 0 ≤ s.2 ∧ in64 s.2 := by
  intro s hs
  refine ⟨?_, (sdl_in l d s hs).2⟩
  have h1 : s.2 ∈ snds (sdl l d) := List.mem_map.2 ⟨s, hs, rfl⟩
  rw [(sdl_zip h).2.2] at h1
  exact nng_iff.1 (sde_zero.1 h).2.2.2 _ h1
theorem sdl_ape {l : List Sp} {d : List Int} (h : sde l d = 0) (hl : (sdl l d).length ≤ 1024) : ape (wio (sdl l d) 0) = 0 ∧ nng (snds (wio (sdl l d) 0)) = true := by
  have hup := up_wio (z := 0) (sdl_up l d)
  have hlen := wio_le (sdl l d) 0
  constructor
  · refine ape_zero.2 ⟨frm_zero.2 ⟨?_, ?_, ?_⟩, ?_⟩
    · refine rises_of (up_fsts.1 hup) fun x hx => ?_
      obtain ⟨s, hs, rfl⟩ := List.mem_map.1 hx
      have h1 : s.1 ∈ fsts (sdl l d) := List.mem_map.2 ⟨s, (wio_mem.1 hs).1, rfl⟩
      rw [(sdl_zip h).2.1] at h1
      exact rises_mem (pls_rises l) s.1 h1
    · rw [fsts_length]; omega
    · rw [rns_runs]
      have := rn_le_length none (fsts (wio (sdl l d) 0))
      rw [fsts_length] at this
      omega
    · refine dle_up fun z hz => ?_
      obtain ⟨s, hs, rfl⟩ := List.mem_map.1 hz
      exact abv_nn h s (wio_mem.1 hs).1
  · rw [nng_iff]
    intro z hz
    obtain ⟨s, hs, rfl⟩ := List.mem_map.1 hz
    exact (abv_nn h s (wio_mem.1 hs).1).1
/-- Canon of what is right and has few buckets. -/
theorem canon_ok {h : Hs} (k : che h = 0) (hl : h.pd.length ≤ 300 ∧ h.nd.length ≤ 300) : cae h = 0 ∧ cah h = mks h (wio (sdp h) 0) (wio (sdn h) 0) ∧ che (mks h (wio (sdp h) 0) (wio (sdn h) 0)) = 0 ∧ sdp (mks h (wio (sdp h) 0) (wio (sdn h) 0)) = wio (sdp h) 0 ∧ sdn (mks h (wio (sdp h) 0) (wio (sdn h) 0)) = wio (sdn h) 0 ∧ cnn (aps (wio (sdp h) 0)) = true ∧ cnn (aps (wio (sdn h) 0)) = true := by
  have kz := che_zero.1 k
  have e1 : sdp h = sdl h.P h.pd ∧ sdn h = sdl h.N h.nd := by unfold sdp sdn; rw [if_pos k, if_pos k]; exact ⟨rfl, rfl⟩
  have len : ∀ {l : List Sp} {d : List Int}, sde l d = 0 → d.length ≤ 300 → (sdl l d).length ≤ 1024 := by
    intro l d h1 h2
    have h3 := congrArg List.length (sdl_zip h1).2.2
    rw [snds_length, abv_length (sde_zero.1 h1).2.2.1] at h3
    omega
  have a1 := sdl_ape kz.2.1 (len kz.2.1 hl.1)
  have a2 := sdl_ape kz.2.2.1 (len kz.2.2.1 hl.2)
  have i1 := wio_in (z := 0) (sdp_in h)
  have i2 := wio_in (z := 0) (sdn_in h)
  rw [← e1.1] at a1
  rw [← e1.2] at a2
  have hm : mke h (wio (sdp h) 0) (wio (sdn h) 0) = 0 := by
    rw [mke_mka h i1 i2]
    unfold mka
    rw [if_pos a1.1, if_pos a2.1, if_pos kz.1, if_pos a1.2, if_pos a2.2]
    have hf := kz.2.2.2
    unfold fte
    rw [if_pos]
    unfold fts at hf ⊢
    by_cases hzc : h.zc ≤ h.c
    · rw [snds_wio, snds_wio, ← List.filter_append, e1.1, e1.2, (sdl_zip kz.2.1).2.2, (sdl_zip kz.2.2.1).2.2]
      rw [lft_drop0 (by omega) (by
        intro z hz
        rcases List.mem_append.1 hz with h1 | h1
        · exact nng_iff.1 (sde_zero.1 kz.2.1).2.2.2 z h1
        · exact nng_iff.1 (sde_zero.1 kz.2.2.1).2.2.2 z h1)]
      exact hf
    · rw [decide_eq_false hzc] at hf; cases hf
  have hs := mks_sd i1 i2 hm
  refine ⟨by unfold cae; rw [if_pos k]; exact hm, ?_, hs⟩
  unfold cah mkh
  rw [if_pos k, if_pos hm]
theorem canon_twice {h : Hs} (k : che h = 0) (hl : h.pd.length ≤ 300 ∧ h.nd.length ≤ 300) : cae (cah h) = 0 ∧ cah (cah h) = cah h ∧ heq (cah h) h = true := by
  have c := canon_ok k hl
  have hm : mke (mks h (wio (sdp h) 0) (wio (sdn h) 0)) (wio (sdp h) 0) (wio (sdn h) 0) = 0 := by
    have h1 := c.1
    unfold cae at h1
    rw [if_pos k] at h1
    exact h1
  have e : cae (cah h) = 0 ∧ cah (cah h) = cah h := by
    rw [c.2.1]
    unfold cae cah
    rw [if_pos c.2.2.1, if_pos c.2.2.1, c.2.2.2.1, c.2.2.2.2.1, wio_wio, wio_wio]
    refine ⟨hm, ?_⟩
    unfold mkh
    rw [if_pos hm]
    rfl
  refine ⟨e.1, e.2, ?_⟩
  rw [c.2.1]
  unfold heq
  rw [decide_eq_true_iff, c.2.2.2.1, c.2.2.2.2.1, wio_wio, wio_wio]
  exact ⟨c.2.2.1, k, rfl, rfl, rfl, rfl, rfl, rfl, rfl⟩
end Go.Proofs.Ytnfbmdniomelnaa

/-
  The document's At (layer 10), of any row; what At answers is what is there.
-/
namespace Go.Proofs.Ytnfbmdniomelnaa
open Go.RowKit Mem Spans
set_option linter.unusedSimpArgs false
set_option linter.unusedVariables false
set_option maxRecDepth 100000

set_option maxHeartbeats 1000000 in
theorem lat10_any (v u : Value) (xs ys : List Int) (p : Int) (w : World) (h : ISrc w v xs) (h2 : USrc w u ys) (hl : xs.length ≤ ys.length) :
    Calls Try.prog 55 #[v, u, .int .i64 p] w fun e w' => e = .returned (.int .u64 (alk xs ys p)) ∧ w = w' := by
  obtain ⟨ao, cap, rfl, hcap, hmax, _, b, off, ha, hc⟩ := h
  obtain ⟨ao2, cap2, rfl, hcap2, hmax2, _, b2, off2, ha2, hc2⟩ := h2
  have HC : Hid (∀ j s, xs[j]? = some s → w.cell? ⟨b, off + j, none⟩ = some (.int .i64 s)) := hc
  have HC2 : Hid (∀ j s, ys[j]? = some s → w.cell? ⟨b2, off2 + j, none⟩ = some (.int .u64 s)) := hc2
  have HA : Hid (0 < xs.length → ao = some ⟨b, off, none⟩) := ha
  have HA2 : Hid (0 < ys.length → ao2 = some ⟨b2, off2, none⟩) := ha2
  have hml : xs.length ≤ 9223372036854775807 := by unfold maxLen at hmax; omega
  clear hc ha hc2 ha2
  go_enter Try.func55, Try.ntmps55
  go_wp2
  go_loopw [7] (fun i wr => ∃ (k : Nat), k ≤ xs.length ∧ i = .int .i64 (k : Int) ∧ alk xs ys p = alk (xs.drop k) (ys.drop k) p ∧ wr = w) (fun i _ => xs.length - (intOf i).toNat)
  case atStart => exact ⟨0, by omega, rfl, rfl, rfl⟩
  case round =>
    obtain ⟨k, hk, rfl, hr, rfl⟩ := hrel
    have HR : Hid (alk xs ys p = alk (xs.drop k) (ys.drop k) p) := hr
    clear hr
    by_cases hlt : k < xs.length
    · obtain rfl := HA.out (by omega)
      obtain rfl := HA2.out (by omega)
      have hlt2 : k < ys.length := by omega
      obtain ⟨x, hx⟩ := at_lt hlt
      obtain ⟨y, hy⟩ := at_lt hlt2
      have c0 := HC.out k x hx
      have c1 := HC2.out k y hy
      have HR2 : Hid (alk xs ys p = if x = p then y else alk (xs.drop (k + 1)) (ys.drop (k + 1)) p) := by rw [Hid, HR.out, drop_at hx, drop_at hy]; rfl
      clear hx hy HR
      by_cases hxp : x = p
      · have HE : Hid (alk xs ys p = y) := by rw [Hid, HR2.out, if_pos hxp]
        go_wp2
        go_ret
        exact ⟨by rw [HE.out]; rfl, rfl⟩
      · have HE : Hid (alk xs ys p = alk (xs.drop (k + 1)) (ys.drop (k + 1)) p) := by rw [Hid, HR2.out, if_neg hxp]
        go_wp2
        go_roundw
        case rel => first | exact ⟨k + 1, by omega, by go_num, HE.out, trivial⟩ | exact ⟨_, _, ⟨k + 1, by omega, rfl, HE.out⟩, rfl, by go_num⟩
        case measure => simp [intOf]; omega
    · have HE : Hid (alk xs ys p = 0) := by rw [Hid, HR.out, List.drop_eq_nil_of_le (by omega)]; rfl
      go_wp2
      go_ret
      exact ⟨by rw [HE.out]; rfl, rfl⟩


theorem alk_vat (l : List Sp) (p : Int) : alk (fsts l) (snds l) p = vat l p := by
  induction l with
  | nil => rfl
  | cons x t ih => show (if x.1 = p then x.2 else alk (fsts t) (snds t) p) = _; rw [ih]; rfl
end Go.Proofs.Ytnfbmdniomelnaa
