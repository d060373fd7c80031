/-
  FFrom, W10, FPure2.
-/
import Derived.Test.YtoaibabkkphlaaaGF
import Derived.Test.YtoaibabkkphlaaaGE
import Derived.Test.YtoaibabkkphlaaaGH
/-
  Package fhist: From.
-/
namespace Go.Proofs.Ytoaibabkkphlaaa
open Go.RowKit Mem Spans Floats
set_option linter.unusedSimpArgs false
set_option linter.unusedVariables false
set_option maxRecDepth 100000

/-- From's histogram. -/
def frs (h : Hs) : Fs := ⟨h.s, h.z, flI h.zc, flI h.c, h.sm, h.P, h.N, fla h.pd, fla h.nd⟩
def frh (h : Hs) : Fs := if che h = 0 then frs h else fzero

theorem fla_in (d : List Int) (h : ∀ z ∈ abv d, 0 ≤ z) : ∀ x ∈ fla d, inu x := by
  intro x hx
  obtain ⟨y, hy, rfl⟩ := List.mem_map.1 hx
  have h1 := h y hy
  have h2 := abv_in d y hy
  exact flI_in (by unfold in64 at h2; unfold inu; omega)

set_option maxHeartbeats 8000000 in
theorem ffrom_any (v : Value) (h : Hs) (w : World) (hh : HSrc w v h) :
    Calls Try.prog 41 #[v] w fun e w' => ∃ u, e = .returned (.tuple #[u, .int .i64 (che h)]) ∧ FKeep w.heap.size w' u (frh h) ∧ Fr [] w w' := by
  have HH : Hid (∀ wx, Fr [] w wx → HSrc wx v h) := fun wx hx => hh.kept hx
  obtain ⟨po, pc, no, nc, qo, qc, ro, rc, rfl, hin, hsr, _⟩ := hh.opens
  have HIN : Hid (in64 h.s ∧ inu h.z ∧ inu h.zc ∧ inu h.c ∧ inu h.sm) := hin
  have HSR : Hid (SSrc w (.slice po h.P.length pc) h.P ∧ SSrc w (.slice no h.N.length nc) h.N ∧ ISrc w (.slice qo h.pd.length qc) h.pd ∧ ISrc w (.slice ro h.nd.length rc) h.nd) := hsr
  clear hh hin hsr
  obtain ⟨s, z, zc, c, sm, P, N, pd, nd⟩ := h
  simp only at HIN HSR ⊢
  go_enter Try.func41, Try.ntmps41
  obtain ⟨cs, hcs⟩ : ∃ cs : Array Value, cs = #[.int .i64 s, .int .u64 z, .int .u64 zc, .int .u64 c, .int .u64 sm, .slice po P.length pc, .slice no N.length nc, .slice qo pd.length qc, .slice ro nd.length rc] := ⟨_, rfl⟩
  have HA : Hid (∀ z, Nine ((w.alloc (.cells cs 70)).alloc (.cells z 26)) w.heap.size cs ∧ NineF ((w.alloc (.cells cs 70)).alloc (.cells z 26)) (w.heap.size + 1) z ∧ Fr [] w ((w.alloc (.cells cs 70)).alloc (.cells z 26))) := fun z => ⟨nine_mid _ _ _, nineF_top _ _ _, ((Fr.refl [] w).alloc _).alloc _⟩
  subst hcs
  go_wp2_with fail
  obtain ⟨hA3, hA6, hAF⟩ := HA.out #[.int .i64 0, .int .u64 0, .int .u64 0, .int .u64 0, .int .u64 0, .slice none 0 0, .slice none 0 0, .slice none 0 0, .slice none 0 0]
  clear HA
  generalize (w.alloc (.cells _ _)).alloc (.cells _ _) = wA at hA3 hA6 hAF ⊢
  have HSZ : Hid (w.heap.size + 1 < wA.heap.size) := hA6.lt
  refine (hcheck_any _ ⟨s, z, zc, c, sm, P, N, pd, nd⟩ wA (HH.out _ hAF)).mono ?_
  rintro e w1 ⟨rfl, hf1⟩
  have HF1 : Hid (Fr [] w w1) := hAF.trans hf1 (by simp)
  have HS1 : Hid (wA.heap.size ≤ w1.heap.size) := hf1.size
  have H3 : Hid (Nine w1 w.heap.size #[.int .i64 s, .int .u64 z, .int .u64 zc, .int .u64 c, .int .u64 sm, .slice po P.length pc, .slice no N.length nc, .slice qo pd.length qc, .slice ro nd.length rc]) := hA3.kept hf1 (by simp)
  have H6 : Hid (NineF w1 (w.heap.size + 1) #[.int .i64 0, .int .u64 0, .int .u64 0, .int .u64 0, .int .u64 0, .slice none 0 0, .slice none 0 0, .slice none 0 0, .slice none 0 0]) := hA6.kept hf1 (by simp)
  clear hf1 hA3 hA6 hAF
  by_cases h0 : che ⟨s, z, zc, c, sm, P, N, pd, nd⟩ = 0
  case neg =>
    have HE : Hid (frh ⟨s, z, zc, c, sm, P, N, pd, nd⟩ = fzero) := by
      unfold Hid frh; rw [if_neg h0]
    have d0 := H6.out.cell 0 rfl
    have d1 := H6.out.cell 1 rfl
    have d2 := H6.out.cell 2 rfl
    have d3 := H6.out.cell 3 rfl
    have d4 := H6.out.cell 4 rfl
    have d5 := H6.out.cell 5 rfl
    have d6 := H6.out.cell 6 rfl
    have d7 := H6.out.cell 7 rfl
    have d8 := H6.out.cell 8 rfl
    have f0 := H6.out.frozen 0
    have f1 := H6.out.frozen 1
    have f2 := H6.out.frozen 2
    have f3 := H6.out.frozen 3
    have f4 := H6.out.frozen 4
    have f5 := H6.out.frozen 5
    have f6 := H6.out.frozen 6
    have f7 := H6.out.frozen 7
    have f8 := H6.out.frozen 8
    go_wp2
    refine bodyPost_ret (fhist_res rfl _ _ (w.heap.size + 1) _ _ _ _ _ _ _ _ _ rfl (set9_nineF H6.out (.int .i64 0) (.int .u64 0) (.int .u64 0) (.int .u64 0) (.int .u64 0) (.slice none 0 0) (.slice none 0 0) (.slice none 0 0) (.slice none 0 0))) rfl ?_
    exact ⟨_, rfl, by rw [HE.out]; exact fzero_keep _ _, set9_fr HF1.out (.inr (by simp)) (.int .i64 0) (.int .u64 0) (.int .u64 0) (.int .u64 0) (.int .u64 0) (.slice none 0 0) (.slice none 0 0) (.slice none 0 0) (.slice none 0 0)⟩
  have HC : Hid (frh ⟨s, z, zc, c, sm, P, N, pd, nd⟩ = frs ⟨s, z, zc, c, sm, P, N, pd, nd⟩) := by unfold Hid frh; rw [if_pos h0]
  have HLN : Hid (pd.length ≤ 1000000 ∧ nd.length ≤ 1000000 ∧ P.length ≤ 1000000 ∧ N.length ≤ 1000000 ∧ (∀ z ∈ abv pd, 0 ≤ z) ∧ (∀ z ∈ abv nd, 0 ≤ z)) := by
    have h1 := (che_zero.1 h0).2
    have h2 := sde_zero.1 h1.1
    have h3 := sde_zero.1 h1.2.1
    have h4 := pls_le P
    have h5 := pls_le N
    simp only at h2 h3
    have h6 := chk_len h2.1
    have h7 := chk_len h3.1
    exact ⟨by omega, by omega, h6, h7, nng_iff.1 h2.2.2.2, nng_iff.1 h3.2.2.2⟩
  have HE0 : Hid (che ⟨s, z, zc, c, sm, P, N, pd, nd⟩ = 0) := h0
  rw [h0]
  clear h0
  have HX1 : Hid (∀ wx, Calls Try.prog 39 #[.int .u64 zc] wx fun e w' => e = .returned (.int .u64 (flI zc)) ∧ wx = w') := fun wx => floatI_any zc wx HIN.out.2.2.1
  have HX2 : Hid (∀ wx, Calls Try.prog 39 #[.int .u64 c] wx fun e w' => e = .returned (.int .u64 (flI c)) ∧ wx = w') := fun wx => floatI_any c wx HIN.out.2.2.2.1
  have HX3 : Hid (∀ wx, Fr [] w1 wx → Calls Try.prog 63 #[.slice po P.length pc] wx fun e w' => ∃ ao cap, e = .returned (.slice ao P.length cap) ∧ w'.ownsRow w1.heap.size 95 2 (.slice ao P.length cap) P.length (spCells P) ∧ Fr [] w1 w') := by
    intro wx hx
    refine (clone_any _ P wx (HSR.out.1.kept (HF1.out.trans hx (by simp))) HLN.out.2.2.1).mono ?_
    rintro e w' ⟨ao, cap, rfl, ho, hf⟩
    exact ⟨ao, cap, rfl, ownsRow_mono ho hx.size, hx.trans hf (by simp)⟩
  have HX4 : Hid (∀ wx, Fr [] w1 wx → Calls Try.prog 68 #[.slice qo pd.length qc] wx fun e w' => ∃ ao cap, e = .returned (.slice ao (fla pd).length cap) ∧ UOwn 22 w1.heap.size w' (.slice ao (fla pd).length cap) (fla pd) ∧ Fr [] w1 w' ∧ Fr [] wx w') := by
    intro wx hx
    refine (floats_any _ pd wx (HSR.out.2.2.1.kept (HF1.out.trans hx (by simp))) HLN.out.1 HLN.out.2.2.2.2.1).mono ?_
    rintro e w' ⟨u, rfl, ho, hf⟩
    obtain ⟨ao, cap, rfl⟩ := ho.val
    exact ⟨ao, cap, rfl, ho.mono hx.size, hx.trans hf (by simp), hf⟩
  have HX5 : Hid (∀ wx, Fr [] w1 wx → Calls Try.prog 63 #[.slice no N.length nc] wx fun e w' => ∃ ao cap, e = .returned (.slice ao N.length cap) ∧ w'.ownsRow w1.heap.size 95 2 (.slice ao N.length cap) N.length (spCells N) ∧ Fr [] w1 w' ∧ Fr [] wx w') := by
    intro wx hx
    refine (clone_any _ N wx (HSR.out.2.1.kept (HF1.out.trans hx (by simp))) HLN.out.2.2.2.1).mono ?_
    rintro e w' ⟨ao, cap, rfl, ho, hf⟩
    exact ⟨ao, cap, rfl, ownsRow_mono ho hx.size, hx.trans hf (by simp), hf⟩
  have HX6 : Hid (∀ wx, Fr [] w1 wx → Calls Try.prog 68 #[.slice ro nd.length rc] wx fun e w' => ∃ ao cap, e = .returned (.slice ao (fla nd).length cap) ∧ UOwn 22 w1.heap.size w' (.slice ao (fla nd).length cap) (fla nd) ∧ Fr [] w1 w' ∧ Fr [] wx w') := by
    intro wx hx
    refine (floats_any _ nd wx (HSR.out.2.2.2.kept (HF1.out.trans hx (by simp))) HLN.out.2.1 HLN.out.2.2.2.2.2).mono ?_
    rintro e w' ⟨u, rfl, ho, hf⟩
    obtain ⟨ao, cap, rfl⟩ := ho.val
    exact ⟨ao, cap, rfl, ho.mono hx.size, hx.trans hf (by simp), hf⟩
  have L0 : ∀ wx, Fr [] w1 wx → wx.cell? ⟨w.heap.size, 0, none⟩ = some (.int .i64 s) := fun wx hx => hx.cell_some (H3.out.cell 0 rfl) List.not_mem_nil
  have L1 : ∀ wx, Fr [] w1 wx → wx.cell? ⟨w.heap.size, 1, none⟩ = some (.int .u64 z) := fun wx hx => hx.cell_some (H3.out.cell 1 rfl) List.not_mem_nil
  have L2 : ∀ wx, Fr [] w1 wx → wx.cell? ⟨w.heap.size, 2, none⟩ = some (.int .u64 zc) := fun wx hx => hx.cell_some (H3.out.cell 2 rfl) List.not_mem_nil
  have L3 : ∀ wx, Fr [] w1 wx → wx.cell? ⟨w.heap.size, 3, none⟩ = some (.int .u64 c) := fun wx hx => hx.cell_some (H3.out.cell 3 rfl) List.not_mem_nil
  have L4 : ∀ wx, Fr [] w1 wx → wx.cell? ⟨w.heap.size, 4, none⟩ = some (.int .u64 sm) := fun wx hx => hx.cell_some (H3.out.cell 4 rfl) List.not_mem_nil
  have L5 : ∀ wx, Fr [] w1 wx → wx.cell? ⟨w.heap.size, 5, none⟩ = some (.slice po P.length pc) := fun wx hx => hx.cell_some (H3.out.cell 5 rfl) List.not_mem_nil
  have L6 : ∀ wx, Fr [] w1 wx → wx.cell? ⟨w.heap.size, 6, none⟩ = some (.slice no N.length nc) := fun wx hx => hx.cell_some (H3.out.cell 6 rfl) List.not_mem_nil
  have L7 : ∀ wx, Fr [] w1 wx → wx.cell? ⟨w.heap.size, 7, none⟩ = some (.slice qo pd.length qc) := fun wx hx => hx.cell_some (H3.out.cell 7 rfl) List.not_mem_nil
  have L8 : ∀ wx, Fr [] w1 wx → wx.cell? ⟨w.heap.size, 8, none⟩ = some (.slice ro nd.length rc) := fun wx hx => hx.cell_some (H3.out.cell 8 rfl) List.not_mem_nil
  have F0 : Fr [] w1 w1.drew := (Fr.refl _ _).drew
  go_upto_region 4 with fail
  go_region_held3 (fun w' => w'.cell? ⟨w.heap.size, 0, none⟩ = some (.int .i64 s) ∧ w'.cell? ⟨w.heap.size, 1, none⟩ = some (.int .u64 z) ∧ w'.cell? ⟨w.heap.size, 2, none⟩ = some (.int .u64 zc) ∧ w'.cell? ⟨w.heap.size, 3, none⟩ = some (.int .u64 c) ∧ w'.cell? ⟨w.heap.size, 4, none⟩ = some (.int .u64 sm) ∧ w'.cell? ⟨w.heap.size, 5, none⟩ = some (.slice po P.length pc) ∧ w'.cell? ⟨w.heap.size, 6, none⟩ = some (.slice no N.length nc) ∧ w'.cell? ⟨w.heap.size, 7, none⟩ = some (.slice qo pd.length qc) ∧ w'.cell? ⟨w.heap.size, 8, none⟩ = some (.slice ro nd.length rc)) (go_keep) (first
    | (go_at_call 39; first
      | (with_reducible refine (HX1.out _).mono ?_; rintro e wz ⟨rfl, rfl⟩)
      | (with_reducible refine (HX2.out _).mono ?_; rintro e wz ⟨rfl, rfl⟩))
    | (go_at_call 63; first
      | (with_reducible refine (HX3.out _ F0).mono ?_; rintro e wa ⟨aa, ac, rfl, hoa, hfa⟩)
      | (with_reducible refine (HX5.out _ hfb).mono ?_; rintro e wc ⟨ca, cc, rfl, hoc, hfc, hfbc⟩))
    | (go_at_call 68; first
      | (with_reducible refine (HX4.out _ hfa).mono ?_; rintro e wb ⟨ba, bc, rfl, hob, hfb, hfab⟩)
      | (with_reducible refine (HX6.out _ hfc).mono ?_; rintro e wd ⟨da, dc, rfl, hod, hfd, hfcd⟩; have h6 := H6.out.kept hfd (by simp); have d0 := h6.cell 0 rfl; have d1 := h6.cell 1 rfl; have d2 := h6.cell 2 rfl; have d3 := h6.cell 3 rfl; have d4 := h6.cell 4 rfl; have d5 := h6.cell 5 rfl; have d6 := h6.cell 6 rfl; have d7 := h6.cell 7 rfl; have d8 := h6.cell 8 rfl; have f0 := h6.frozen 0; have f1 := h6.frozen 1; have f2 := h6.frozen 2; have f3 := h6.frozen 3; have f4 := h6.frozen 4; have f5 := h6.frozen 5; have f6 := h6.frozen 6; have f7 := h6.frozen 7; have f8 := h6.frozen 8)))
  have H6b : Hid (NineF wd (w.heap.size + 1) _) := h6
  have HOA : Hid (wd.ownsRow w1.heap.size 95 2 (.slice aa P.length ac) P.length (spCells P)) := ownsRow_keptS (ownsRow_keptS (ownsRow_keptS hoa hfab (by simp)) hfbc (by simp)) hfcd (by simp)
  have HOC : Hid (wd.ownsRow w1.heap.size 95 2 (.slice ca N.length cc) N.length (spCells N)) := ownsRow_keptS hoc hfcd (by simp)
  have HOB : Hid (UOwn 22 w1.heap.size wd (.slice ba (fla pd).length bc) (fla pd)) := (hob.kept hfbc).kept hfcd
  have HOD : Hid (UOwn 22 w1.heap.size wd (.slice da (fla nd).length dc) (fla nd)) := hod
  have HFD : Hid (Fr [] w wd) := HF1.out.trans hfd (by simp)
  clear h6 hoa hob hoc hod hfa hfb hfc hfd hfab hfbc hfcd
  go_wp2
  have hs9 := set9_fr (S := [w.heap.size + 1]) (g := w.heap.size + 1) (Fr.refl _ wd) (.inl (by simp)) (.int .i64 s) (.int .u64 z) (.int .u64 (flI zc)) (.int .u64 (flI c)) (.int .u64 sm) (.slice aa P.length ac) (.slice ca N.length cc) (.slice ba (fla pd).length bc) (.slice da (fla nd).length dc)
  have hb : ∀ y ∈ [w.heap.size + 1], y < w1.heap.size := by have := HSZ.out; have := HS1.out; simp; omega
  have k1 := ownsRow_keptS HOA.out hs9 hb
  have k2 := ownsRow_keptS HOC.out hs9 hb
  have k3 := HOB.out.keptS hs9 hb
  have k4 := HOD.out.keptS hs9 hb
  have hp64 : ∀ s ∈ P, in64 s.1 ∧ in64 s.2 := by obtain ⟨_, _, _, _, _, h64, _⟩ := HSR.out.1; exact h64
  have hn64 : ∀ s ∈ N, in64 s.1 ∧ in64 s.2 := by obtain ⟨_, _, _, _, _, h64, _⟩ := HSR.out.2.1; exact h64
  refine bodyPost_ret (fhist_res rfl _ _ (w.heap.size + 1) _ _ _ _ _ _ _ _ _ rfl (set9_nineF H6b.out _ _ _ _ _ _ _ _ _)) rfl ?_
  refine ⟨_, by rw [HE0.out]; rfl, ?_, set9_fr HFD.out (.inr (by simp)) _ _ _ _ _ _ _ _ _⟩
  rw [HC.out]
  intro S w2 hS hbS
  have hb3 : ∀ y ∈ S, y < w1.heap.size := fun y hy => by have := hbS y hy; have := HSZ.out; have := HS1.out; omega
  obtain ⟨_, _, _, k5⟩ := ssrc_of_owns (ownsRow_keptS k1 hS hb3) hp64
  obtain ⟨_, _, _, k6⟩ := ssrc_of_owns (ownsRow_keptS k2 hS hb3) hn64
  exact ⟨_, _, _, _, rfl, HIN.out.1, ⟨HIN.out.2.1, flI_in HIN.out.2.2.1, flI_in HIN.out.2.2.2.1, HIN.out.2.2.2.2⟩, k5, k6, (k3.keptS hS hb3).src (fla_in pd HLN.out.2.2.2.2.1), (k4.keptS hS hb3).src (fla_in nd HLN.out.2.2.2.2.2)⟩
end Go.Proofs.Ytoaibabkkphlaaa

/-
  The document's Float and Whole, of any uint64 as an Int.
-/
namespace Go.Proofs.Ytoaibabkkphlaaa
open Go.RowKit Mem Spans Floats
set_option linter.unusedSimpArgs false
set_option linter.unusedVariables false
set_option maxRecDepth 100000

theorem lfloatI_any (z : Int) (w : World) (h : inu z) :
    Calls Try.prog 40 #[.int .u64 z] w fun e w' => e = .returned (.int .u64 (flI z)) ∧ Fr [] w w' := by
  unfold inu at h
  obtain ⟨n, rfl⟩ := Int.eq_ofNat_of_zero_le h.1
  have := lfloat10_any n w (by omega)
  simpa [flI] using this
/-- The document's second answer. -/
def w1I (z : Int) : Int := wh1 z.toNat
theorem lwholeI_any (z : Int) (w : World) (h : inu z) :
    Calls Try.prog 38 #[.int .u64 z] w fun e w' => e = .returned (.tuple #[.int .u64 (wvI z), .int .i64 (w1I z)]) ∧ Fr [] w w' := by
  unfold inu at h
  obtain ⟨n, rfl⟩ := Int.eq_ofNat_of_zero_le h.1
  have := lwhole10_any n w (by omega)
  simpa [wvI, w1I] using this
theorem w1_cases (z : Int) : (wbI z = true ∧ w1I z = 1) ∨ (wbI z = false ∧ w1I z = 0) := by
  unfold wbI w1I wh1
  cases whb z.toNat
  · exact .inr ⟨rfl, rfl⟩
  · exact .inl ⟨rfl, rfl⟩
theorem flI_wv {z : Int} (hz : inu z) (h : wbI z = true) : flI (wvI z) = z := by
  unfold inu at hz
  obtain ⟨n, rfl⟩ := Int.eq_ofNat_of_zero_le hz.1
  unfold wbI whb at h
  unfold flI wvI whv
  simp only [Int.toNat_natCast] at h ⊢
  cases hw : whl n with
  | none => rw [hw] at h; cases h
  | some m =>
    have : flt m = n := by
      unfold whl at hw
      split at hw
      · split at hw
        · rename_i e; cases hw; exact e
        · cases hw
      · cases hw
    simp [this]
theorem flI_mono {a b : Int} (h : a ≤ b) : flI a ≤ flI b := by
  unfold flI
  have := flt_mono (show a.toNat ≤ b.toNat by omega)
  omega
end Go.Proofs.Ytoaibabkkphlaaa

/-
  Histograms whose counts are floats: back to whole counts and from them.
-/
namespace Go.Proofs.Ytoaibabkkphlaaa
open Go.RowKit Mem Spans
set_option linter.unusedSimpArgs false
set_option linter.unusedVariables false

theorem absl_dltl {a : Int} {l o : List Int} (h : dltl a l = some o) (hl : ∀ z ∈ l, in64 z) : absl a o = some l := by
  induction l generalizing a o with
  | nil => simp [dltl] at h; subst h; rfl
  | cons d r ih =>
    simp only [dltl] at h
    split at h
    · obtain ⟨t, h1, rfl⟩ := Option.map_eq_some_iff.1 h
      simp only [absl]
      rw [show a + (d - a) = d from by omega, if_pos (fits_iff.2 (hl d (by simp))), ih h1 (fun z hz => hl z (by simp [hz]))]
      rfl
    · cases h
theorem dltl_up {a : Int} {l : List Int} (ha : 0 ≤ a ∧ in64 a) (hl : ∀ z ∈ l, 0 ≤ z ∧ in64 z) : ∃ o, dltl a l = some o := by
  induction l generalizing a with
  | nil => exact ⟨[], rfl⟩
  | cons d r ih =>
    have hd := hl d (by simp)
    obtain ⟨o, ho⟩ := ih hd (fun z hz => hl z (by simp [hz]))
    refine ⟨(d - a) :: o, ?_⟩
    simp only [dltl]
    rw [if_pos (fits_iff.2 (by have h1 := ha.2; have h2 := hd.2; unfold in64 at h1 h2 ⊢; omega)), ho]
    rfl
theorem dle_zero {l : List Int} : dle l = 0 ↔ ∃ o, dltl 0 l = some o := by unfold dle; cases dltl 0 l <;> simp
theorem dle_up {l : List Int} (hl : ∀ z ∈ l, 0 ≤ z ∧ in64 z) : dle l = 0 := dle_zero.2 (dltl_up ⟨by omega, by unfold in64; omega⟩ hl)
theorem dlv_ab {l : List Int} (h : dle l = 0) (hl : ∀ z ∈ l, in64 z) : abe (dlv l) = 0 ∧ abv (dlv l) = l ∧ (dlv l).length = l.length := by
  obtain ⟨o, ho⟩ := dle_zero.1 h
  have e : dlv l = o := by unfold dlv; rw [ho]; rfl
  have k := absl_dltl ho hl
  rw [e]
  refine ⟨abe_zero.2 ⟨l, k⟩, by unfold abv; rw [k]; rfl, (dltl_in ho).1⟩
theorem wal_all {l : List Int} (ha : ∀ z ∈ l, wbI z = true) : wab l = true ∧ wal l = l.map wvI := by
  have h : wab l = true := by unfold wab; rw [List.all_eq_true]; exact ha
  exact ⟨h, by unfold wal; rw [if_pos h]⟩
theorem dfe_big {l : List Int} {z : Int} (hz : z ∈ l) (h : 9223372036854775807 < z) : dfe l = 28 := by
  unfold dfe
  rw [if_neg]
  intro hb
  unfold dfb at hb
  rw [List.all_eq_true] at hb
  have := of_decide_eq_true (hb z hz)
  omega
theorem dfe_small {l : List Int} (h : ∀ z ∈ l, 0 ≤ z ∧ z ≤ 9223372036854775807) : dfe l = 0 ∧ dfl l = dlv l ∧ abe (dlv l) = 0 ∧ abv (dlv l) = l ∧ (dlv l).length = l.length := by
  have hb : dfb l = true := by unfold dfb; rw [List.all_eq_true]; intro z hz; exact decide_eq_true (h z hz).2
  have hd : dle l = 0 := dle_up fun z hz => by have := h z hz; unfold in64; omega
  have k := dlv_ab hd (fun z hz => by have := h z hz; unfold in64; omega)
  exact ⟨by unfold dfe; rw [if_pos hb, hd], by unfold dfl; rw [if_pos hb], k⟩
/-- One side, back: error, differences, floats. -/
theorem back_side {l : List Int} (hin : ∀ z ∈ l, inu z) (ha : ∀ z ∈ l, wbI z = true) (hb : ∀ z ∈ l, wvI z ≤ 9223372036854775807) :
    dfe (wal l) = 0 ∧ abe (dfl (wal l)) = 0 ∧ nng (abv (dfl (wal l))) = true ∧ (dfl (wal l)).length = l.length ∧ fla (dfl (wal l)) = l := by
  rw [(wal_all ha).2]
  have hs : ∀ z ∈ l.map wvI, 0 ≤ z ∧ z ≤ 9223372036854775807 := by
    intro z hz
    obtain ⟨y, hy, rfl⟩ := List.mem_map.1 hz
    have h1 := wvI_in y
    have h2 := hb y hy
    unfold inu at h1
    omega
  have k := dfe_small hs
  rw [k.2.1]
  refine ⟨k.1, k.2.2.1, ?_, by rw [k.2.2.2.2, List.length_map], ?_⟩
  · rw [k.2.2.2.1]; exact nng_iff.2 fun z hz => (hs z hz).1
  · unfold fla
    rw [k.2.2.2.1, List.map_map]
    have : ∀ m : List Int, (∀ z ∈ m, inu z) → (∀ z ∈ m, wbI z = true) → m.map (flI ∘ wvI) = m := by
      intro m
      induction m with
      | nil => intros; rfl
      | cons x r ih =>
        intro h1 h2
        rw [List.map_cons, ih (fun z hz => h1 z (by simp [hz])) (fun z hz => h2 z (by simp [hz]))]
        show flI (wvI x) :: r = x :: r
        rw [flI_wv (h1 x (by simp)) (h2 x (by simp))]
    exact this l hin ha
theorem bke_form2 {h : Fs} {z : Int} (k : fce h = 0) (hz : z ∈ h.zc :: h.c :: (h.pd ++ h.nd)) (hw : wbI z = false) : bke h = 10 := by
  refine (bke_form k ?_).1
  cases hb : bkb h with
  | false => rfl
  | true =>
    exfalso
    unfold bkb wab at hb
    simp only [Bool.and_eq_true, List.all_eq_true] at hb
    have hcon : wbI z = true := by
      simp only [List.mem_cons, List.mem_append] at hz
      rcases hz with h1 | h1 | h1 | h1
      · exact hb.1.1 z (by simp [h1])
      · exact hb.1.1 z (by simp [h1])
      · exact hb.1.2 z h1
      · exact hb.2 z h1
    rw [hcon] at hw; cases hw
theorem bkb_all {h : Fs} (ha : ∀ z ∈ h.zc :: h.c :: (h.pd ++ h.nd), wbI z = true) : bkb h = true := by
  unfold bkb
  rw [(wal_all (l := [h.zc, h.c]) fun z hz => ha z (by simp only [List.mem_cons, List.mem_append, List.not_mem_nil, or_false] at hz ⊢; rcases hz with h1 | h1; exact .inl h1; exact .inr (.inl h1))).1,
    (wal_all (l := h.pd) fun z hz => ha z (by simp [hz])).1, (wal_all (l := h.nd) fun z hz => ha z (by simp [hz])).1]
  rfl
theorem bke_over {h : Fs} {z : Int} (k : fce h = 0) (ha : ∀ z ∈ h.zc :: h.c :: (h.pd ++ h.nd), wbI z = true) (hz : z ∈ h.pd ++ h.nd) (hb : 9223372036854775807 < wvI z) : bke h = 28 ∧ bkh h = hzero := by
  have e : bke h = 28 := by
    have a1 : ∀ z ∈ h.pd, wbI z = true := fun z hz => ha z (by simp [hz])
    have a2 : ∀ z ∈ h.nd, wbI z = true := fun z hz => ha z (by simp [hz])
    unfold bke
    rw [if_pos k, if_pos (bkb_all ha)]
    have big : ∀ {l : List Int}, (∀ z ∈ l, wbI z = true) → z ∈ l → dfe (wal l) = 28 := by
      intro l hl hm
      rw [(wal_all hl).2]
      exact dfe_big (List.mem_map.2 ⟨z, hm, rfl⟩) hb
    by_cases h1 : dfe (wal h.pd) = 0
    · rw [if_pos h1]
      have h2 : z ∈ h.nd := by
        rcases List.mem_append.1 hz with h3 | h3
        · rw [big a1 h3] at h1; cases h1
        · exact h3
      rw [if_neg (by rw [big a2 h2]; decide), big a2 h2]
    · rw [if_neg h1]
      by_cases hm : z ∈ h.pd
      · exact big a1 hm
      · have hd : dfe (wal h.pd) = 0 ∨ dfe (wal h.pd) = 28 := by
          unfold dfe
          split
          · unfold dle; split
            · exact .inl rfl
            · exact .inr rfl
          · exact .inr rfl
        rcases hd with h3 | h3
        · exact absurd h3 h1
        · exact h3
  refine ⟨e, ?_⟩
  unfold bkh; rw [if_neg (by rw [e]; decide)]
/-- Back of what is whole and not too great; its floats are its own. -/
theorem bke_good {h : Fs} (hf : fin9 h) (hu : inu h.zc ∧ inu h.c) (k : fce h = 0) (ha : ∀ z ∈ h.zc :: h.c :: (h.pd ++ h.nd), wbI z = true) (hb : ∀ z ∈ h.pd ++ h.nd, wvI z ≤ 9223372036854775807) :
    bke h = che (bks h) ∧ (che (bks h) = 0 ∨ che (bks h) = 22) ∧ frs (bks h) = h := by
  have a1 : ∀ z ∈ h.pd, wbI z = true := fun z hz => ha z (by simp [hz])
  have a2 : ∀ z ∈ h.nd, wbI z = true := fun z hz => ha z (by simp [hz])
  have s1 := back_side hf.2.2.1 a1 (fun z hz => hb z (by simp [hz]))
  have s2 := back_side hf.2.2.2 a2 (fun z hz => hb z (by simp [hz]))
  have kz := fce_zero.1 k
  refine ⟨?_, ?_, ?_⟩
  · unfold bke
    rw [if_pos k, if_pos (bkb_all ha), if_pos s1.1, if_pos s2.1]
  · have hh : hde h.s h.z = 0 := by
      have := kz.1
      unfold fde at this
      by_cases h0 : hde h.s h.z = 0
      · exact h0
      · rw [if_neg h0] at this; exact this
    have side : ∀ {l : List Sp} {d : List Int}, fsd l d = 0 → abe (dfl (wal d)) = 0 → nng (abv (dfl (wal d))) = true → (dfl (wal d)).length = d.length → sde l (dfl (wal d)) = 0 := by
      intro l d h1 h2 h3 h4
      have k1 := fsd_zero.1 h1
      exact sde_zero.2 ⟨k1.1, by rw [h4]; exact k1.2.1, h2, h3⟩
    have d1 := side kz.2.1 s1.2.1 s1.2.2.1 s1.2.2.2.1
    have d2 := side kz.2.2 s2.2.1 s2.2.2.1 s2.2.2.2.1
    unfold che bks
    rw [if_pos hh, if_pos d1, if_pos d2]
    split
    · exact .inl rfl
    · exact .inr rfl
  · unfold frs bks
    rw [s1.2.2.2.2, s2.2.2.2.2, flI_wv hu.1 (ha _ (by simp)), flI_wv hu.2 (ha _ (by simp))]
theorem bkh_count {h : Fs} (k : bke h ≠ 0) : bkh h = hzero := by unfold bkh; rw [if_neg k]
end Go.Proofs.Ytoaibabkkphlaaa
