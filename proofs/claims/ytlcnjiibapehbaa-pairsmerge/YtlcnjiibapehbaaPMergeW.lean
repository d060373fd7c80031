/-
  Package pairs: Merge, walked.
-/
import Derived.Test.YtlcnjiibapehbaaPMerge
import Derived.Test.YtlcnjiibapehbaaRef6
namespace Go.Proofs.Ytlcnjiibapehbaa
open Go.RowKit Mem Spans
set_option linter.unusedSimpArgs false
set_option linter.unusedVariables false
set_option maxRecDepth 100000

def slen : Value → Nat
  | .slice _ n _ => n
  | _ => 0
theorem SSrc.tail {w : World} {b off cap : Nat} {s : Sp} {xr : List Sp} (h : SSrc w (.slice (some ⟨b, off, none⟩) (xr.length + 1) cap) (s :: xr)) :
    SSrc w (.slice (if cap = 1 then some ⟨b, off, none⟩ else some ⟨b, off + 2, none⟩) xr.length (cap - 1)) xr := by
  obtain ⟨_, _, hv, hcap, hmax, h64, b', off', ha, hc⟩ := h
  simp only [Value.slice.injEq] at hv
  obtain ⟨rfl, _, rfl⟩ := hv
  have := ha (by simp)
  simp only [Option.some.injEq, Addr.mk.injEq, and_true] at this
  obtain ⟨rfl, rfl⟩ := this
  simp only [List.length_cons] at hcap
  refine ⟨_, _, rfl, by omega, by omega, fun x hx => h64 x (by simp [hx]), b, off + 2, fun h0 => by rw [if_neg (by omega)], fun j x hj => ?_⟩
  have := hc (j + 1) x (by simpa using hj)
  rw [show off + (j + 1) * 2 = off + 2 + j * 2 from by omega] at this
  exact this

/-- Two pairs of the call's own, x and y, in blocks of their own. -/
def TwoP (w wx : World) (c8 c9 : Value) (s t : Sp) : Prop := ∃ gx gy, c8 = .pointer (some ⟨gx, 0, none⟩) ∧ c9 = .pointer (some ⟨gy, 0, none⟩) ∧
  wx.cell? ⟨gx, 0, none⟩ = some (.int .i64 s.1) ∧ wx.cell? ⟨gx, 1, none⟩ = some (.int .i64 s.2) ∧ wx.cell? ⟨gy, 0, none⟩ = some (.int .i64 t.1) ∧ wx.cell? ⟨gy, 1, none⟩ = some (.int .i64 t.2) ∧ Fr [] w wx

theorem twoP_a (w : World) (s t : Sp) (e : TypeId) : TwoP w ((w.alloc (.cells #[.int .i64 s.1, .int .i64 s.2] e)).alloc (.cells #[.int .i64 t.1, .int .i64 t.2] e)).drew (.pointer (some ⟨w.heap.size, 0, none⟩)) (.pointer (some ⟨w.heap.size + 1, 0, none⟩)) s t := by
  have F := (Fr.refl [] (w.alloc (.cells #[.int .i64 s.1, .int .i64 s.2] e))).alloc (.cells #[.int .i64 t.1, .int .i64 t.2] e)
  have a0 : (w.alloc (.cells #[.int .i64 s.1, .int .i64 s.2] e)).cell? ⟨w.heap.size, 0, none⟩ = some (.int .i64 s.1) := by rw [World.cell?_alloc_at _ _ _ _ rfl]; rfl
  have a1 : (w.alloc (.cells #[.int .i64 s.1, .int .i64 s.2] e)).cell? ⟨w.heap.size, 1, none⟩ = some (.int .i64 s.2) := by rw [World.cell?_alloc_at _ _ _ _ rfl]; rfl
  refine ⟨_, _, rfl, rfl, F.cell_some a0 (by simp), F.cell_some a1 (by simp), ?_, ?_, (((Fr.refl [] w).alloc _).alloc _).drew⟩
  · show World.cell? ((w.alloc (.cells #[.int .i64 s.1, .int .i64 s.2] e)).alloc (.cells #[.int .i64 t.1, .int .i64 t.2] e)) _ = _
    rw [World.cell?_alloc_at _ _ _ _ (World.size_alloc _ _).symm]; rfl
  · show World.cell? ((w.alloc (.cells #[.int .i64 s.1, .int .i64 s.2] e)).alloc (.cells #[.int .i64 t.1, .int .i64 t.2] e)) _ = _
    rw [World.cell?_alloc_at _ _ _ _ (World.size_alloc _ _).symm]; rfl
theorem twoP_b (w : World) (s t : Sp) (e : TypeId) : TwoP w ((w.alloc (.cells #[.int .i64 t.1, .int .i64 t.2] e)).alloc (.cells #[.int .i64 s.1, .int .i64 s.2] e)).drew (.pointer (some ⟨w.heap.size + 1, 0, none⟩)) (.pointer (some ⟨w.heap.size, 0, none⟩)) s t := by
  obtain ⟨gx, gy, e1, e2, h1, h2, h3, h4, h5⟩ := twoP_a w t s e
  exact ⟨gy, gx, e2, e1, h3, h4, h1, h2, h5⟩

set_option maxHeartbeats 4000000 in
theorem merge_any (f : Int → Int → Int) (g : Nat) (hent : ∀ args w, (callFunc g args).run Try.prog w = .ok (.enter g args) w)
    (hj : ∀ x y w, in64 x → in64 y → Calls Try.prog g #[.int .i64 x, .int .i64 y] w fun e w' => e = .returned (.int .i64 (f x y)) ∧ w' = w)
    (v u : Value) (l1 l2 : List Sp) (w : World) (h1 : SSrc w v l1) (h2 : SSrc w u l2) (hl : l1.length + l2.length ≤ 1000000) :
    Calls Try.prog 24 #[v, u, .func (.func g) #[] #[]] w fun e w' => ∃ r, e = .returned r ∧ SOwn 36 w.heap.size w' r (mrp f l1 l2) ∧ Fr [] w w' := by
  have HJ : Hid (∀ x y w, in64 x → in64 y → Calls Try.prog 39 #[.func (.func g) #[] #[], .int .i64 x, .int .i64 y] w fun e w' => e = .returned (.int .i64 (f x y)) ∧ w' = w) :=
    fun x y w hx hy => joined_any g x y (f x y) w hent (fun w => hj x y w hx hy)
  have H1 : Hid (SSrc w v l1) := h1
  have H2 : Hid (SSrc w u l2) := h2
  obtain ⟨i0, hi⟩ := info_pair
  have HI : Hid (SInfo 36 i0) := hi
  clear h1 h2 hj hi
  go_enter Try.func24, Try.ntmps24
  go_wp2
  go_loopw [0, 1, 7] (fun va vb m wr => ∃ (xs ys out : List Sp) (n : Nat), SSrc w va xs ∧ SSrc w vb ys ∧ xs.length + ys.length ≤ n ∧ out.length + (xs.length + ys.length) ≤ 1000000 ∧ mrp f l1 l2 = out ++ mgp f n xs ys ∧ SOwn 36 w.heap.size wr m out ∧ Fr [] w wr) (fun va vb _ _ => slen va + slen vb)
  case atStart => exact ⟨l1, l2, [], _, H1.out, H2.out, Nat.le_refl _, by simpa using hl, rfl, .inl ⟨rfl, rfl⟩, Fr.refl _ _⟩
  case round =>
    obtain ⟨xs, ys, out, n, hx, hy, hn, hlen, hmr, hso, hf⟩ := hrel
    have HX : Hid (SSrc w u0 xs) := hx
    have HY : Hid (SSrc w u1 ys) := hy
    have HF : Hid (Fr [] w wr) := hf
    have HS : Hid (SOwn 36 w.heap.size wr u7 out) := hso
    have HM : Hid (mrp f l1 l2 = out ++ mgp f n xs ys) := hmr
    have HN : Hid (xs.length + ys.length ≤ n ∧ out.length + (xs.length + ys.length) ≤ 1000000) := ⟨hn, hlen⟩
    obtain ⟨ao, cap, rfl, hcap, hmax, hx64, b, off, ha, hc⟩ := hx
    obtain ⟨ao2, cap2, rfl, hcap2, hmax2, hy64, b2, off2, ha2, hc2⟩ := hy
    clear hf hso hmr hn hlen
    by_cases hemp : xs = [] ∨ ys = []
    · have HE : Hid (mrp f l1 l2 = out ++ xs ++ ys) := by rw [Hid, HM.out, mgp_nil hemp, List.append_assoc]
      have hml : xs.length ≤ 9223372036854775807 := by unfold maxLen at hmax; omega
      have hml2 : ys.length ≤ 9223372036854775807 := by unfold maxLen at hmax2; omega
      by_cases hx0 : xs.length = 0
      · have HX2 : Hid (SSrc w (.slice ao 0 cap) xs) := by have := HX.out; rw [hx0] at this; exact this
        have HY2 : Hid (SSrc w (.slice ao2 ys.length cap2) ys) := HY.out
        rw [hx0]
        clear hx0 hml hcap hemp HX HY
        clear hx64 hy64 ha ha2 hc hc2 HM
        have HLA : Hid (out.length + xs.length ≤ 1000000 ∧ (out ++ xs).length + ys.length ≤ 1000000) := by have := HN.out.2; rw [Hid, List.length_append]; omega
        have HSZ : Hid (w.heap.size ≤ wr.heap.size) := HF.out.size
        go_wp2_with (at_builtin; first
          | (refine wpList_append_src _ rfl _ _ 26 rfl Try.underlying26 HI.out (B := w.heap.size) (ys := xs) HSZ.out rfl rfl HS.out (HX2.out.kept HF.out) HLA.out.1 ?_
             intro v3 w3 ho3 hb3
             have HO3 : Hid (SOwn 36 w.heap.size w3 v3 (out ++ xs)) := ho3
             have HB3 : Hid (Fr [] w w3) := Fr.ofBelow ((HF.out.below (Nat.le_refl _) (by simp)).trans hb3)
             clear ho3 hb3)
          | (refine wpList_append_src _ rfl _ _ 26 rfl Try.underlying26 HI.out (B := w.heap.size) (ys := ys) HB3.out.size rfl rfl HO3.out (HY2.out.kept HB3.out) HLA.out.2 ?_
             intro v4 w4 ho4 hb4))
        have HO4 : Hid (SOwn 36 w.heap.size w4 v4 (out ++ xs ++ ys)) := ho4
        have HB4 : Hid (Fr [] w w4) := Fr.ofBelow ((HB3.out.below (Nat.le_refl _) (by simp)).trans hb4)
        clear ho4 hb4
        go_wp2
        go_ret
        exact ⟨_, rfl, by rw [HE.out]; exact HO4.out, HB4.out⟩
      · have hy0 : ys.length = 0 := by
          rcases hemp with rfl | rfl
          · exact absurd rfl hx0
          · rfl
        have HX2 : Hid (SSrc w (.slice ao xs.length cap) xs) := HX.out
        have HY2 : Hid (SSrc w (.slice ao2 0 cap2) ys) := by have := HY.out; rw [hy0] at this; exact this
        rw [hy0]
        have hxp : 0 < xs.length := by omega
        clear hy0 hml2 hcap2 hemp hx0 HX HY
        clear hx64 hy64 ha ha2 hc hc2 HM
        have HLA : Hid (out.length + xs.length ≤ 1000000 ∧ (out ++ xs).length + ys.length ≤ 1000000) := by have := HN.out.2; rw [Hid, List.length_append]; omega
        have HSZ : Hid (w.heap.size ≤ wr.heap.size) := HF.out.size
        go_wp2_with (at_builtin; first
          | (refine wpList_append_src _ rfl _ _ 26 rfl Try.underlying26 HI.out (B := w.heap.size) (ys := xs) HSZ.out rfl rfl HS.out (HX2.out.kept HF.out) HLA.out.1 ?_
             intro v3 w3 ho3 hb3
             have HO3 : Hid (SOwn 36 w.heap.size w3 v3 (out ++ xs)) := ho3
             have HB3 : Hid (Fr [] w w3) := Fr.ofBelow ((HF.out.below (Nat.le_refl _) (by simp)).trans hb3)
             clear ho3 hb3)
          | (refine wpList_append_src _ rfl _ _ 26 rfl Try.underlying26 HI.out (B := w.heap.size) (ys := ys) HB3.out.size rfl rfl HO3.out (HY2.out.kept HB3.out) HLA.out.2 ?_
             intro v4 w4 ho4 hb4))
        have HO4 : Hid (SOwn 36 w.heap.size w4 v4 (out ++ xs ++ ys)) := ho4
        have HB4 : Hid (Fr [] w w4) := Fr.ofBelow ((HB3.out.below (Nat.le_refl _) (by simp)).trans hb4)
        clear ho4 hb4
        go_wp2
        go_ret
        exact ⟨_, rfl, by rw [HE.out]; exact HO4.out, HB4.out⟩
    · match xs, ys, hemp with
      | [], _, h => exact absurd (.inl rfl) h
      | _ :: _, [], h => exact absurd (.inr rfl) h
      | s :: xr, t :: yr, _ =>
        obtain rfl := ha (by simp)
        obtain rfl := ha2 (by simp)
        have c0 : wr.cell? ⟨b, off, none⟩ = some (.int .i64 s.1) := HF.out.cell_some (by simpa using (hc 0 s rfl).1) (by simp)
        have c1 : wr.cell? ⟨b, off + 1, none⟩ = some (.int .i64 s.2) := HF.out.cell_some (by simpa using (hc 0 s rfl).2) (by simp)
        have d0 : wr.cell? ⟨b2, off2, none⟩ = some (.int .i64 t.1) := HF.out.cell_some (by simpa using (hc2 0 t rfl).1) (by simp)
        have d1 : wr.cell? ⟨b2, off2 + 1, none⟩ = some (.int .i64 t.2) := HF.out.cell_some (by simpa using (hc2 0 t rfl).2) (by simp)
        have H64 : Hid (in64 s.2 ∧ in64 t.2) := ⟨(hx64 s (by simp)).2, (hy64 t (by simp)).2⟩
        clear ha ha2 hc hc2 hx64 hy64 hemp
        obtain ⟨m, rfl, hm1, hm2, hm3, hme⟩ := mgp_cons (f := f) HN.out.1
        have HM2 : Hid (mrp f l1 l2 = out ++ if s.1 < t.1 then s :: mgp f m xr (t :: yr) else if t.1 < s.1 then t :: mgp f m (s :: xr) yr else (s.1, f s.2 t.2) :: mgp f m xr yr) := by rw [Hid, ← hme]; exact HM.out
        have HMM : Hid (xr.length + (t :: yr).length ≤ m ∧ (s :: xr).length + yr.length ≤ m ∧ xr.length + yr.length ≤ m) := ⟨hm1, hm2, hm3⟩
        clear hme HM hm1 hm2 hm3
        simp only [List.length_cons] at *
        have L1 : ∀ (p : Addr) (x : Value), wr.cell? p = some x → ∀ o, (wr.alloc o).cell? p = some x := fun p x h o => ((Fr.refl [] wr).alloc o).cell_some h (by simp)
        have L2 : ∀ (p : Addr) (x : Value), wr.cell? p = some x → ∀ o o2, ((wr.alloc o).alloc o2).cell? p = some x := fun p x h o o2 => (((Fr.refl [] wr).alloc o).alloc o2).cell_some h (by simp)
        have c01 := L1 _ _ c0
        have c11 := L1 _ _ c1
        have d01 := L1 _ _ d0
        have d11 := L1 _ _ d1
        have c02 := L2 _ _ c0
        have c12 := L2 _ _ c1
        have d02 := L2 _ _ d0
        have d12 := L2 _ _ d1
        clear L1 L2
        go_upto_region 3 with fail
        go_cut [8, 9] from 18 to 23 (fun c8 c9 wx => TwoP wr wx c8 c9 s t)
        case first =>
          go_region
          all_goals (go_wp2_with fail; go_meet)
          · exact twoP_a wr s t _
          · exact twoP_b wr s t _
        case rest =>
          clear c01 c11 d01 d11 c02 c12 d02 d12 c0 c1 d0 d1
          obtain ⟨gx, gy, rfl, rfl, x0, x1, y0, y1, hfc⟩ := hcut
          have HF2 : Hid (Fr [] w wc) := HF.out.trans hfc (by simp)
          have HS2 : Hid (SOwn 36 w.heap.size wc u7 out) := HS.out.kept hfc
          have HSZ : Hid (w.heap.size ≤ wc.heap.size) := HF2.out.size
          have HOL : Hid (out.length ≤ 1000000) := by have := HN.out; rw [Hid]; omega
          clear hfc HF HS
          obtain ⟨o, p⟩ := s
          obtain ⟨o2, p2⟩ := t
          simp only at x0 x1 y0 y1
          by_cases h1 : o < o2
          · have HM3 : Hid (mrp f l1 l2 = (out ++ [(o, p)]) ++ mgp f m xr ((o2, p2) :: yr)) := by rw [Hid, HM2.out, if_pos h1]; simp
            clear HM2
            go_wp2_with (at_builtin; refine wpList_append_sp _ rfl _ _ 26 rfl Try.underlying26 HI.out.1 HI.out.2.1 HI.out.2.2.1 HI.out.2.2.2 (B := w.heap.size) (s := (o, p)) (by have := HSZ.out; simp; omega) rfl rfl (HS2.out.kept ((Fr.refl [] _).alloc _)) (lit_sp 36 wc [(o, p)] HSZ.out (by simp) (by unfold maxLen; simp)) HOL.out ?_; intro v3 w3 ho3 hb3; have HO3 : Hid (SOwn 36 w.heap.size w3 v3 (out ++ [(o, p)])) := ho3; have HB3 : Hid (Fr [] w w3) := Fr.ofBelow (((HF2.out.alloc _).below (Nat.le_refl _) (by simp)).trans hb3); clear ho3 hb3)
            go_roundw
            case rel => exact ⟨xr, (o2, p2) :: yr, out ++ [(o, p)], m, HX.out.tail, HY.out, by have := HMM.out.1; simpa using this, by have := HN.out.2; simp only [List.length_append, List.length_cons, List.length_nil]; omega, HM3.out, HO3.out, HB3.out⟩
            case measure => simp [slen]
          · by_cases h2 : o2 < o
            · have HM3 : Hid (mrp f l1 l2 = (out ++ [(o2, p2)]) ++ mgp f m ((o, p) :: xr) yr) := by rw [Hid, HM2.out, if_neg h1, if_pos h2]; simp
              clear HM2
              go_wp2_with (at_builtin; refine wpList_append_sp _ rfl _ _ 26 rfl Try.underlying26 HI.out.1 HI.out.2.1 HI.out.2.2.1 HI.out.2.2.2 (B := w.heap.size) (s := (o2, p2)) (by have := HSZ.out; simp; omega) rfl rfl (HS2.out.kept ((Fr.refl [] _).alloc _)) (lit_sp 36 wc [(o2, p2)] HSZ.out (by simp) (by unfold maxLen; simp)) HOL.out ?_; intro v3 w3 ho3 hb3; have HO3 : Hid (SOwn 36 w.heap.size w3 v3 (out ++ [(o2, p2)])) := ho3; have HB3 : Hid (Fr [] w w3) := Fr.ofBelow (((HF2.out.alloc _).below (Nat.le_refl _) (by simp)).trans hb3); clear ho3 hb3)
              go_roundw
              case rel => exact ⟨(o, p) :: xr, yr, out ++ [(o2, p2)], m, HX.out, HY.out.tail, by have := HMM.out.2.1; simpa using this, by have := HN.out.2; simp only [List.length_append, List.length_cons, List.length_nil]; omega, HM3.out, HO3.out, HB3.out⟩
              case measure => simp [slen]
            · have HM3 : Hid (mrp f l1 l2 = (out ++ [(o, f p p2)]) ++ mgp f m xr yr) := by rw [Hid, HM2.out, if_neg h1, if_neg h2]; simp
              have HJ2 : Hid (∀ wx, Calls Try.prog 39 #[.func (.func g) #[] #[], .int .i64 p, .int .i64 p2] wx fun e w' => e = .returned (.int .i64 (f p p2)) ∧ wx = w') := by
                intro wx
                refine (HJ.out p p2 wx H64.out.1 H64.out.2).mono ?_
                rintro e w' ⟨rfl, rfl⟩
                exact ⟨rfl, rfl⟩
              clear HM2
              generalize f p p2 = Z at *
              have HW : Hid (∀ args w, (callFunc 39 args).run Try.prog w = .ok (.enter 39 args) w) := enters_of Try.func39 (by kernel_rfl) rfl
              go_upto_region 4 with fail
              go_cut [7] from 24 to 35 (fun c7 wx => SOwn 36 w.heap.size wx c7 (out ++ [(o, Z)]) ∧ Fr [] w wx)
              case first =>
                go_region_law (first
                  | (refine step_call (args := #[.func (.func g) #[] #[], .int .i64 p, .int .i64 p2]) rfl rfl (by simp [Act.eval]) HW.out (HJ2.out _) ?_)
                  | (refine step_append_sp rfl _ _ 26 rfl Try.underlying26 HI.out (B := w.heap.size) (l := out) (s := (o, Z)) rfl rfl (by have := HSZ.out; simp; omega) (HS2.out.kept (((Fr.refl [] _).alloc _).drew)) (lit_sp 36 wc.drew [(o, Z)] HSZ.out (by simp) (by unfold maxLen; simp)) HOL.out ?_
                     intro v3 w3 ho3 hb3
                     have HO3 : Hid (SOwn 36 w.heap.size w3 v3 (out ++ [(o, Z)])) := ho3
                     have HB3 : Hid (Fr [] w w3) := Fr.ofBelow (((HF2.out.alloc _).drew.below (Nat.le_refl _) (by simp)).trans hb3)
                     clear ho3 hb3))
                all_goals (go_wp2_with fail; go_meet; exact ⟨HO3.out, HB3.out⟩)
              case rest =>
                have HO3 : Hid (SOwn 36 w.heap.size wc u7 (out ++ [(o, Z)])) := hcut.1
                have HB3 : Hid (Fr [] w wc) := hcut.2
                have hc1 : 1 ≤ cap := by omega
                have hc2 : 1 ≤ cap2 := by omega
                clear hcut
                go_wp2_with fail
                go_quiet (fail)
                go_wp2
                go_roundw
                case rel => exact ⟨xr, yr, out ++ [(o, Z)], m, HX.out.tail, HY.out.tail, HMM.out.2.2, by have := HN.out.2; simp only [List.length_append, List.length_cons, List.length_nil]; omega, HM3.out, HO3.out.kept ((Fr.refl [] _).drewN _), HB3.out.drewN _⟩
                case measure => simp [slen]; omega
end Go.Proofs.Ytlcnjiibapehbaa
