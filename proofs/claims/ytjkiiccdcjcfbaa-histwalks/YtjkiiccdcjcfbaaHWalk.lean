/-
  Package hist: Walk, and the function that it hands back: the buckets that have something, in their order, as far as it is asked.
-/
import Derived.Test.YtjkiiccdcjcfbaaHBack2
import Derived.Test.YtjkiiccdcjcfbaaHSides
namespace Go.Proofs.Ytjkiiccdcjcfbaa
open Go.RowKit Go.Shelf Mem Spans
set_option linter.unusedSimpArgs false
set_option linter.unusedVariables false
set_option maxRecDepth 100000
attribute [local go_sem] Oper.semAt_some

/-- A bucket: its side, its place, what it counts. -/
abbrev Bk : Type := Int × Int × Int
def bval (x : Bk) : Value := .agg #[.int .i64 x.1, .int .i64 x.2.1, .int .u64 x.2.2]
def sdO (d : Int) (l : List Sp) : List Bk := (l.filter fun s => decide (0 < s.2)).map fun s => (d, s.1, s.2)
def zrO (z : Int) : List Bk := if 0 < z then [(2, 0, z)] else []
def bks (h : Hs) : List Bk := if che h = 0 then sdO 1 (sdn h).reverse ++ (zrO h.zc ++ sdO 0 (sdp h)) else []
theorem sdO_app (d : Int) (a b : List Sp) : sdO d (a ++ b) = sdO d a ++ sdO d b := by simp [sdO]
theorem sdO_one {d : Int} {s : Sp} (h : 0 < s.2) : sdO d [s] = [(d, s.1, s.2)] := by simp [sdO, h]
theorem sdO_none {d : Int} {s : Sp} (h : ¬ 0 < s.2) : sdO d [s] = [] := by simp [sdO, h]

theorem sdO_pre (d : Int) {a b : List Sp} (h : a <+: b) : sdO d a <+: sdO d b := by
  obtain ⟨t, rfl⟩ := h
  rw [sdO_app]
  exact List.prefix_append _ _
theorem SOwn.spot {e : TypeId} {B : Nat} {w : World} {v : Value} {l : List Sp} (h : SOwn e B w v l) : ∃ ao cap b, v = .slice ao l.length cap ∧ B ≤ b ∧ l.length ≤ maxLen ∧ (0 < l.length → ao = some ⟨b, 0, none⟩) ∧
    ∀ j s, l[j]? = some s → w.cell? ⟨b, 0 + j * 2, none⟩ = some (.int .i64 s.1) ∧ w.cell? ⟨b, 0 + j * 2 + 1, none⟩ = some (.int .i64 s.2) := by
  rcases h with ⟨rfl, rfl⟩ | ⟨g, h1, h2, h3⟩
  · exact ⟨none, 0, B, rfl, Nat.le_refl _, Nat.zero_le _, fun h => by simp at h, fun j s hj => by simp at hj⟩
  · have hr := h3
    obtain ⟨_, cap, cur, hv, _, hn, hm, _⟩ := h3
    refine ⟨_, cap, g, hv, h1, by omega, fun _ => rfl, fun j x hj => ?_⟩
    have hjl := (List.getElem?_eq_some_iff.1 hj).1
    have c0 := hr.cell (j * 2) (by omega)
    have c1 := hr.cell (j * 2 + 1) (by omega)
    rw [show 0 + j * 2 = j * 2 from by omega, c0, c1]
    exact spCells_at l j x hj
theorem own_map {β γ : Type} {B B' : Nat} {J : β → World → Prop} (f : γ → β) (h : OwnFrom B J) (hB : B ≤ B') : OwnFrom B' (fun s W => J (f s) W) := fun s X Y row hs hg hr =>
  h (f s) X Y row hs hg (fun r e => ⟨by have := (hr r e).1; omega, (hr r e).2⟩)
/-- A block of cells. -/
def Lies (w : World) (b : Nat) (t : TypeId) (cs : Array Value) : Prop := w.heap[b]? = some (.cells cs t (0, 0))
theorem Lies.own {β : Type} (B b : Nat) (t : TypeId) (cs : Array Value) : OwnFrom B (fun (_ : β) w => Lies w b t cs) := fun _ X Y row hs hg hr =>
  (hg.block b (Array.getElem?_eq_some_iff.1 (show X.heap[b]? = _ from hs)).1 (fun e => by
    obtain ⟨_, o, h1, h2⟩ := hr b e.symm
    rw [show X.heap[b]? = _ from hs] at h1
    cases h1; cases h2)).trans hs
theorem Lies.cell {w : World} {b : Nat} {t : TypeId} {cs : Array Value} (h : Lies w b t cs) (i : Nat) {v : Value} (hv : cs[i]? = some v) : w.cell? ⟨b, i, none⟩ = some v := by rw [cell_at h]; exact hv
theorem fr_from {S : List Nat} {B : Nat} {w w' : World} (h : Fr S w w') (hS : ∀ s ∈ S, s < B) : KeepsFrom B w w' :=
  ⟨h.size, fun k o hB hk _ => (h.block k (Array.getElem?_eq_some_iff.1 hk).1 (fun hs => by have := hS k hs; omega)).trans hk⟩
theorem Boxed.fr9 {w w' : World} {B : Nat} {t : TypeId} {v : Value} (h : Boxed w B t v) (f : Fr [] w w') : Boxed w' B t v := f.heap h (by simp)

set_option maxHeartbeats 8000000 in
theorem walk_tells (lp Bs : Nat) (S : List Nat) (h : Hs) (po no qo ro : Option Addr) (pc nc qc rc : Nat) (W : World) (hS : ∀ s ∈ S, s < W.heap.size) (hBs : Bs ∉ S)
    (hN : Nine W Bs #[.int .i64 h.s, .int .u64 h.z, .int .u64 h.zc, .int .u64 h.c, .int .u64 h.sm, .slice po h.P.length pc, .slice no h.N.length nc, .slice qo h.pd.length qc, .slice ro h.nd.length rc])
    (hh : HSrc W (.agg #[.int .i64 h.s, .int .u64 h.z, .int .u64 h.zc, .int .u64 h.c, .int .u64 h.sm, .slice po h.P.length pc, .slice no h.N.length nc, .slice qo h.pd.length qc, .slice ro h.nd.length rc]) h) :
    Tells Try.prog 55 lp #[.pointer (some ⟨Bs, 0, none⟩)] (fun x : Bk => #[bval x]) (Fr S) (bks h) W := by
  intro n J Jx oJ oJx hY h0
  have HY : Hid (∀ m pre x W1, J pre W1 → pre ++ [x] <+: bks h → YieldAt Fence.wide m Try.prog lp #[bval x] W1 (Told (Fr S) J Jx pre x W1)) := hY
  have HJ : Hid (OwnFrom W.heap.size J) := oJ
  have HJx : Hid (OwnFrom W.heap.size Jx) := oJx
  have HSS : Hid ((∀ s ∈ S, s < W.heap.size) ∧ Bs ∉ S) := ⟨hS, hBs⟩
  obtain ⟨_, _, _, _, _, _, _, _, _, hin, _⟩ := hh.opens
  have HIN : Hid (in64 h.s ∧ inu h.z ∧ inu h.zc ∧ inu h.c ∧ inu h.sm) := hin
  have HH : Hid (∀ wx, Fr [] W wx → HSrc wx (.agg #[.int .i64 h.s, .int .u64 h.z, .int .u64 h.zc, .int .u64 h.c, .int .u64 h.sm, .slice po h.P.length pc, .slice no h.N.length nc, .slice qo h.pd.length qc, .slice ro h.nd.length rc]) h) := fun wx hx => hh.kept hx
  have HN : Hid (Nine W Bs #[.int .i64 h.s, .int .u64 h.z, .int .u64 h.zc, .int .u64 h.c, .int .u64 h.sm, .slice po h.P.length pc, .slice no h.N.length nc, .slice qo h.pd.length qc, .slice ro h.nd.length rc]) := hN
  have H0 : Hid (J [] W) := h0
  clear hY oJ oJx hS hBs hh hin hN h0
  refine callsIn_of_wp_marks Try.func55 rfl trivial ?_ rfl
  simp only [Try.ntmps55, List.size_toArray, List.length_cons, List.length_nil, Nat.reduceAdd, Nat.reduceSub, Array.replicate_succ, Array.replicate_zero, List.push_toArray, List.append_toArray, List.nil_append, List.cons_append]
  have bY1 := Boxed.new W 93 (.func (.yield lp) #[] #[])
  have HF1 : Hid (Fr [] W (W.alloc (.cells #[.func (.yield lp) #[] #[]] 93))) := (Fr.refl [] W).alloc _
  have q0 := HF1.out.cell_some (HN.out.cell 0 rfl) List.not_mem_nil
  have q1 := HF1.out.cell_some (HN.out.cell 1 rfl) List.not_mem_nil
  have q2 := HF1.out.cell_some (HN.out.cell 2 rfl) List.not_mem_nil
  have q3 := HF1.out.cell_some (HN.out.cell 3 rfl) List.not_mem_nil
  have q4 := HF1.out.cell_some (HN.out.cell 4 rfl) List.not_mem_nil
  have q5 := HF1.out.cell_some (HN.out.cell 5 rfl) List.not_mem_nil
  have q6 := HF1.out.cell_some (HN.out.cell 6 rfl) List.not_mem_nil
  have q7 := HF1.out.cell_some (HN.out.cell 7 rfl) List.not_mem_nil
  have q8 := HF1.out.cell_some (HN.out.cell 8 rfl) List.not_mem_nil
  gi_wp2_with fail
  refine ⟨trivial, (callsIn_wide.2 (sides_any _ h _ (HH.out _ HF1.out))).mono ?_⟩
  rintro e w2 ⟨x, y, rfl, hx, hy, hf2⟩
  have HF2 : Hid (Fr [] W w2) := HF1.out.trans hf2 (by simp)
  have HX : Hid (SOwn 72 (W.heap.size + 1) w2 x (sdp h)) := by rw [World.size_alloc] at hx; exact hx
  have HYY : Hid (SOwn 72 (W.heap.size + 1) w2 y (sdn h)) := by rw [World.size_alloc] at hy; exact hy
  have bY2 := Boxed.fr9 bY1 hf2
  have HJ2 : Hid (J [] w2) := HJ.out _ _ _ none H0.out (Fr.grownBy HF2.out) (fun r e => by cases e)
  have HN2 : Hid (Nine w2 Bs _) := HN.out.kept HF2.out (by simp)
  clear hx hy hf2 q0 q1 q2 q3 q4 q5 q6 q7 q8 bY1 HF1 HN H0
  by_cases hk : che h = 0
  case neg =>
    have HE : Hid (bks h = []) := by unfold Hid bks; rw [if_neg hk]
    gi_wp2
    exact ⟨_, results_none rfl _ _ _, ⟨_, rfl⟩, .inl (by rw [HE.out]; exact HJ2.out)⟩
  have HK : Hid (bks h = sdO 1 (sdn h).reverse ++ (zrO h.zc ++ sdO 0 (sdp h))) := by unfold Hid bks; rw [if_pos hk]
  rw [hk]
  clear hk
  obtain ⟨xa, xc, xb, rfl, hxb, hxm, hxa, hxc⟩ := HX.out.spot
  obtain ⟨ya, yc, yb, rfl, hyb, hym, hya, hyc⟩ := HYY.out.spot
  have HXC : Hid (W.heap.size + 1 ≤ xb ∧ (sdp h).length ≤ maxLen ∧ (0 < (sdp h).length → xa = some ⟨xb, 0, none⟩) ∧ ∀ j s, (sdp h)[j]? = some s → w2.cell? ⟨xb, 0 + j * 2, none⟩ = some (.int .i64 s.1) ∧ w2.cell? ⟨xb, 0 + j * 2 + 1, none⟩ = some (.int .i64 s.2)) := ⟨hxb, hxm, hxa, hxc⟩
  have HYC : Hid (W.heap.size + 1 ≤ yb ∧ (sdn h).length ≤ maxLen ∧ (0 < (sdn h).length → ya = some ⟨yb, 0, none⟩) ∧ ∀ j s, (sdn h)[j]? = some s → w2.cell? ⟨yb, 0 + j * 2, none⟩ = some (.int .i64 s.1) ∧ w2.cell? ⟨yb, 0 + j * 2 + 1, none⟩ = some (.int .i64 s.2)) := ⟨hyb, hym, hya, hyc⟩
  clear hxb hxm hxa hxc hyb hym hya hyc HX HYY
  gi_wp2_with fail
  refine ⟨trivial, (back_in _ _ _ _ _).mono ?_⟩
  rintro e w3 ⟨rfl, rfl⟩
  gi_wp2_with fail
  have bB3 := Boxed.new w2 39 (.slice ya (sdn h).length yc)
  have HF23 : Hid (Fr [] w2 (w2.alloc (.cells #[.slice ya (sdn h).length yc] 39))) := (Fr.refl [] w2).alloc _
  have hG : W.heap.size < w2.heap.size := bY2.lt
  have HG : Hid (W.heap.size < w2.heap.size) := hG
  generalize w2.alloc (.cells #[.slice ya (sdn h).length yc] 39) = w3 at *
  generalize hG2 : w2.heap.size = G at *
  have HF3 : Hid (Fr [] W w3) := HF2.out.trans HF23.out (by simp)
  have bY3 := Boxed.fr9 bY2 HF23.out
  have HN3 : Hid (Nine w3 Bs #[.int .i64 h.s, .int .u64 h.z, .int .u64 h.zc, .int .u64 h.c, .int .u64 h.sm, .slice po h.P.length pc, .slice no h.N.length nc, .slice qo h.pd.length qc, .slice ro h.nd.length rc]) := HN2.out.kept HF23.out (by simp)
  have HJ3 : Hid (J [] w3) := HJ.out _ _ _ none HJ2.out (Fr.grownBy HF23.out) (fun r e => by cases e)
  have HXC3 : Hid (∀ j s, (sdp h)[j]? = some s → w3.cell? ⟨xb, 0 + j * 2, none⟩ = some (.int .i64 s.1) ∧ w3.cell? ⟨xb, 0 + j * 2 + 1, none⟩ = some (.int .i64 s.2)) := fun j s hj => ⟨HF23.out.cell_some (HXC.out.2.2.2 j s hj).1 (by simp), HF23.out.cell_some (HXC.out.2.2.2 j s hj).2 (by simp)⟩
  have HYC3 : Hid (∀ j s, (sdn h)[j]? = some s → w3.cell? ⟨yb, 0 + j * 2, none⟩ = some (.int .i64 s.1) ∧ w3.cell? ⟨yb, 0 + j * 2 + 1, none⟩ = some (.int .i64 s.2)) := fun j s hj => ⟨HF23.out.cell_some (HYC.out.2.2.2 j s hj).1 (by simp), HF23.out.cell_some (HYC.out.2.2.2 j s hj).2 (by simp)⟩
  have HNS : Hid (W.heap.size ∉ S ∧ G ∉ S ∧ xb ∉ S ∧ yb ∉ S) := by
    have := HSS.out.1
    refine ⟨fun hs => ?_, fun hs => ?_, fun hs => ?_, fun hs => ?_⟩
    · have := this _ hs; omega
    · have := this _ hs; omega
    · have := this _ hs; have := HXC.out.1; omega
    · have := this _ hs; have := HYC.out.1; omega
  have HSZ : Hid (W.heap.size ≤ w3.heap.size) := HF3.out.size
  clear HF23 HJ2 HN2 HF2 bY2 hG hG2
  refine range9 (gf := 69) (lb := #[.pointer (some ⟨G, 0, none⟩)]) rfl (enters_of Try.func69 (by kernel_rfl) rfl)
    (fun x : Int × Sp => #[.int .i64 x.1, .agg #[.int .i64 x.2.1, .int .i64 x.2.2]]) (fun _ => rfl) (bkl (sdn h) (sdn h).length) (Kc S) (fun a b => a.trans b) (fun W o o' h hc => Kc.put _ _ _ _ h hc)
    (fun pre W' => J (sdO 1 (pre.map fun x => x.2)) W' ∧ Kc S w3 W') (fun c pre W' => c = .ret ∧ Jx (sdO 1 (pre.map fun x => x.2)) W')
    (OwnFrom.and (own_map _ HJ.out HSZ.out) (Kc.own S _ w3))
    (fun c => OwnFrom.and (ownFrom_pure _ _) (own_map _ HJx.out HSZ.out))
    ⟨by simpa [sdO] using HJ3.out, Kc.refl _ _⟩
    (fun x a' W' => ∃ Bx, Lies W' Bx 72 #[.int .i64 x.2.1, .int .i64 x.2.2] ∧ a' = { tmps := #[.func (.yield lp) #[] #[], .pointer (some ⟨Bs, 0, none⟩), .pointer (some ⟨W.heap.size, 0, none⟩), .slice xa (sdp h).length xc, .slice ya (sdn h).length yc, .int .i64 0, undef, .pointer (some ⟨Bx, 0, none⟩), undef, undef, .tuple #[.slice xa (sdp h).length xc, .slice ya (sdn h).length yc, .int .i64 0], .agg #[.int .i64 h.s, .int .u64 h.z, .int .u64 h.zc, .int .u64 h.c, .int .u64 h.sm, .slice po h.P.length pc, .slice no h.N.length nc, .slice qo h.pd.length qc, .slice ro h.nd.length rc], .tuple #[.slice xa (sdp h).length xc, .slice ya (sdn h).length yc, .int .i64 0], .slice xa (sdp h).length xc, .slice ya (sdn h).length yc, .int .i64 0, .int .i64 0, .bool false, .slice ya (sdn h).length yc, .func (.func 69) #[] #[.pointer (some ⟨G, 0, none⟩)], .int .i64 x.1, .agg #[.int .i64 x.2.1, .int .i64 x.2.2], undef, undef, undef, undef, undef, undef, undef, undef, undef, undef, undef, undef, undef, undef, undef, undef, undef, undef, undef, undef, undef, undef, undef, undef, undef, undef, undef, undef, undef, undef, undef, undef, undef, undef, undef, undef, undef, undef, undef, undef, undef, undef, undef, undef, undef, undef], defers := [] })
    (fun x a' => fun _ X Y row hs hg hr => by obtain ⟨Bx, h1, h2⟩ := hs; exact ⟨Bx, Lies.own _ Bx _ _ () X Y row h1 hg hr, h2⟩)
    ?assign ?body ?tells ?done ?stop
  case assign =>
    rintro pre x W' K ⟨hj, hk⟩ hlt hK
    gi_wp2
    exact hK _ _ ((KeepsOthers.alloc _ _).from _) (Kc.fr ((Fr.refl S W').alloc _)) ⟨HJ.out _ _ _ none hj (World.grownBy_alloc W' _ none) (fun r e => by cases e), hk.trans (Kc.fr ((Fr.refl S W').alloc _))⟩ ⟨W'.heap.size, World.alloc_heap_new W' _, rfl⟩
  case body =>
    rintro pre ⟨i, p, v⟩ a' W' ⟨hj, hk⟩ hlt ⟨Bx, hx, rfl⟩ hpre
    have c0 := hx.cell 0 rfl
    have c1 := hx.cell 1 rfl
    have cY := (hk.boxed bY3 HNS.out.1).cell
    simp only at c0 c1
    have hrev : (pre.map fun x => x.2) ++ [(p, v)] <+: (sdn h).reverse := by
      rw [← bkl_snd]
      have := hpre.map (fun x : Int × Sp => x.2)
      rw [List.map_append] at this
      exact this
    have HPR : Hid (sdO 1 (pre.map fun x => x.2) ++ sdO 1 [(p, v)] <+: bks h) := by
      rw [Hid, ← sdO_app, HK.out]
      exact (sdO_pre 1 hrev).trans (List.prefix_append _ _)
    have hin : in64 v := (sdn_in h (p, v) (List.mem_reverse.1 (hrev.subset (by simp)))).2
    have HAP : Hid (sdO 1 ((pre ++ [(i, p, v)]).map fun x => x.2) = sdO 1 (pre.map fun x => x.2) ++ sdO 1 [(p, v)]) := by rw [Hid, List.map_append, sdO_app]; rfl
    have HKW : Hid (Kc S w3 W') := hk
    have HJW : Hid (J (sdO 1 (pre.map fun x => x.2)) W') := hj
    have HLT : Hid (∀ s ∈ S, s < w3.heap.size) := fun s hs => by have := HSS.out.1 s hs; have := HSZ.out; omega
    clear hrev hpre hk hj
    by_cases hv : 0 < v
    · obtain ⟨fn, tmps, assign, body, hy, hR⟩ := HY.out 3 _ (1, p, v) W' HJW.out (by have := HPR.out; rw [sdO_one hv] at this; exact this)
      have hw : IntKind.u64.wrap v = v := to_u (by omega) hin
      dsimp only [bval] at hy
      clear hin
      gi_wp2
      refine (round_in hR).mono ?_
      rintro e W3 (⟨rfl, hJ3, hk3⟩ | ⟨rfl, hJx3, hk3⟩)
      · have HJ3 : Hid (J (sdO 1 ((pre ++ [(i, p, v)]).map fun x => x.2)) W3) := by rw [Hid, HAP.out, sdO_one hv]; exact hJ3
        have HK3 : Hid (Fr S W' W3) := hk3
        clear hJ3 hk3 hR hy
        gi_wp2
        exact ⟨fr_from HK3.out HLT.out, Kc.fr HK3.out, HJ3.out, HKW.out.trans (Kc.fr HK3.out)⟩
      · have HJ3 : Hid (Jx (sdO 1 ((pre ++ [(i, p, v)]).map fun x => x.2)) W3) := by rw [Hid, HAP.out, sdO_one hv]; exact hJx3
        have HK3 : Hid (Fr S W' W3) := hk3
        clear hJx3 hk3 hR hy
        gi_wp2
        exact ⟨fr_from HK3.out HLT.out, Kc.fr HK3.out, rfl, HJ3.out⟩
    · have HJ4 : Hid (J (sdO 1 ((pre ++ [(i, p, v)]).map fun x => x.2)) W') := by
        rw [Hid, HAP.out, sdO_none (by simpa using hv), List.append_nil]; exact HJW.out
      gi_wp2
      refine ⟨fun _ h => (by cases h), ?_⟩
      gi_wp2
      exact ⟨(KeepsOthers.refl W').from _, Kc.refl _ _, HJ4.out, HKW.out⟩
  case tells =>
    intro W1 g1 s1
    exact back_tells _ G yb 0 yc ya S (sdn h) W1 (by have := HYC.out.2.1; unfold maxLen at this; omega) HNS.out.2.1 HNS.out.2.2.2 HYC.out.2.2.1 (cell_kept bB3.cell g1 (fun r e => by cases e)) (fun j s hj => ⟨cell_kept (HYC3.out j s hj).1 g1 (fun r e => by cases e), cell_kept (HYC3.out j s hj).2 g1 (fun r e => by cases e)⟩)
  case stop =>
    rintro c pre W' hpre ⟨rfl, hjx⟩ hd
    gi_wp2
    refine ⟨by simp, .inl ⟨_, _, rfl, run_takeDeferred hd, ?_⟩⟩
    refine ⟨_, results_none rfl _ _ _, ⟨_, rfl⟩, .inr ⟨_, ?_, HJx.out.putObj _ hjx HSZ.out hd rfl⟩⟩
    rw [HK.out]
    refine (sdO_pre 1 ?_).trans (List.prefix_append _ _)
    rw [← bkl_snd]
    exact hpre.map _
  case done =>
    rintro W' ⟨hj, hk⟩ hd
    rw [bkl_snd] at hj
    have HJ4 : Hid (J (sdO 1 (sdn h).reverse) W') := hj
    have HK4 : Hid (Kc S w3 W') := hk
    have HD4 : Hid (W'.heap[w3.heap.size]? = some (.deferred (some []))) := hd
    have c2 := hk.cell (HN3.out.cell 2 rfl) HSS.out.2
    have cY := (hk.boxed bY3 HNS.out.1).cell
    clear hj hk hd
    have HLT : Hid (∀ s ∈ S, s < w3.heap.size) := fun s hs => by have := HSS.out.1 s hs; have := HSZ.out; omega
    have hml : (sdp h).length ≤ 9223372036854775807 := by have := HXC.out.2.1; unfold maxLen at this; omega
    by_cases hz : 0 < h.zc
    · have HZ : Hid (zrO h.zc = [(2, 0, h.zc)]) := by unfold Hid zrO; rw [if_pos hz]
      have HPR : Hid (sdO 1 (sdn h).reverse ++ [(2, 0, h.zc)] <+: bks h) := by
        rw [Hid, HK.out, HZ.out, ← List.append_assoc]
        exact List.prefix_append _ _
      obtain ⟨fn, tmps, assign, body, hy, hR⟩ := HY.out n _ (2, 0, h.zc) W' HJ4.out HPR.out
      dsimp only [bval] at hy
      gi_wp2
      refine hR.mono ?_
      rintro e W5 (⟨rfl, hJ5, hk5⟩ | ⟨rfl, hJx5, hk5⟩)
      · have HJ5 : Hid (J (sdO 1 (sdn h).reverse ++ zrO h.zc) W5) := by rw [Hid, HZ.out]; exact hJ5
        have HK5 : Hid (Kc S w3 W5) := HK4.out.trans (Kc.fr hk5)
        have HD5 : Hid (W5.heap[w3.heap.size]? = some (.deferred (some []))) := hk5.heap HD4.out (fun hs => by have := HLT.out _ hs; omega)
        clear hJ5 hk5 hR hy c2 cY hz HPR
        gi_wp2
        gi_loopw [49] (fun i wr => ∃ (k : Nat), k ≤ (sdp h).length ∧ i = .int .i64 (k : Int) ∧ J (sdO 1 (sdn h).reverse ++ (zrO h.zc ++ sdO 0 ((sdp h).take k))) wr ∧ Kc S w3 wr ∧ wr.heap[w3.heap.size]? = some (.deferred (some []))) (fun i _ => (sdp h).length - (intOf i).toNat)
        case atStart => exact ⟨0, by omega, rfl, by simpa [sdO] using HJ5.out, HK5.out, HD5.out⟩
        case round =>
          obtain ⟨k, hk, rfl, hj, hkk, hd⟩ := hrel
          have HJ6 : Hid (J (sdO 1 (sdn h).reverse ++ (zrO h.zc ++ sdO 0 ((sdp h).take k))) wr) := hj
          have HK6 : Hid (Kc S w3 wr) := hkk
          have HD6 : Hid (wr.heap[w3.heap.size]? = some (.deferred (some []))) := hd
          clear hj hkk hd
          by_cases hlt : k < (sdp h).length
          · obtain rfl := HXC.out.2.2.1 (by omega)
            obtain ⟨s, hs⟩ := at_lt hlt
            have c0 := HK6.out.cell (HXC3.out k s hs).1 HNS.out.2.2.1
            have c1 := HK6.out.cell (HXC3.out k s hs).2 HNS.out.2.2.1
            have hin := (sdp_in h s (List.mem_of_getElem? hs)).2
            have HTK : Hid ((sdp h).take (k + 1) = (sdp h).take k ++ [s]) := take_at hs
            have HPR : Hid ((sdO 1 (sdn h).reverse ++ (zrO h.zc ++ sdO 0 ((sdp h).take k))) ++ sdO 0 [s] <+: bks h) := by
              rw [Hid, HK.out, List.append_assoc, List.append_assoc, ← sdO_app, ← take_at hs]
              exact List.prefix_append_right_inj _ |>.2 (List.prefix_append_right_inj _ |>.2 (sdO_pre 0 (List.take_prefix _ _)))
            clear hs
            obtain ⟨p, v⟩ := s
            simp only [Nat.zero_add] at c0 c1 hin
            have HF7 : Hid (Fr [] wr (wr.alloc (.cells #[.int .i64 p, .int .i64 v] 72))) := (Fr.refl [] wr).alloc _
            have HJ7 : Hid (J (sdO 1 (sdn h).reverse ++ (zrO h.zc ++ sdO 0 ((sdp h).take k))) (wr.alloc (.cells #[.int .i64 p, .int .i64 v] 72))) := HJ.out _ _ _ none HJ6.out (World.grownBy_alloc wr _ none) (fun r e => by cases e)
            have HK7 : Hid (Kc S w3 (wr.alloc (.cells #[.int .i64 p, .int .i64 v] 72))) := HK6.out.trans (Kc.fr ((Fr.refl S wr).alloc _))
            have HD7 : Hid ((wr.alloc (.cells #[.int .i64 p, .int .i64 v] 72)).heap[w3.heap.size]? = some (.deferred (some []))) := HF7.out.heap HD6.out (by simp)
            have cY6 := (HK6.out.boxed bY3 HNS.out.1).cell
            have cY7 := (HK7.out.boxed bY3 HNS.out.1).cell
            by_cases hv : 0 < v
            · obtain ⟨fn, tmps, assign, body, hy, hR⟩ := HY.out n _ (0, p, v) _ HJ7.out (by have := HPR.out; rw [sdO_one hv] at this; exact this)
              have hw : IntKind.u64.wrap v = v := to_u (by omega) hin
              dsimp only [bval] at hy
              clear hin
              gi_wp2
              refine hR.mono ?_
              rintro e W8 (⟨rfl, hJ8, hk8⟩ | ⟨rfl, hJx8, hk8⟩)
              · have HJ8 : Hid (J (sdO 1 (sdn h).reverse ++ (zrO h.zc ++ sdO 0 ((sdp h).take (k + 1)))) W8) := by
                  rw [Hid, HTK.out, sdO_app, sdO_one hv, ← List.append_assoc (zrO h.zc), ← List.append_assoc]; exact hJ8
                have HK8 : Hid (Kc S w3 W8) := HK7.out.trans (Kc.fr hk8)
                have HD8 : Hid (W8.heap[w3.heap.size]? = some (.deferred (some []))) := hk8.heap HD7.out (fun hs => by have := HLT.out _ hs; omega)
                clear hJ8 hk8 hR hy
                gi_wp2
                go_roundw
                case rel => exact ⟨k + 1, by omega, by go_num, HJ8.out, HK8.out, HD8.out⟩
                case measure => simp [intOf]; omega
              · have HJ8 : Hid (Jx (sdO 1 (sdn h).reverse ++ (zrO h.zc ++ sdO 0 ((sdp h).take (k + 1)))) W8) := by
                  rw [Hid, HTK.out, sdO_app, sdO_one hv, ← List.append_assoc (zrO h.zc), ← List.append_assoc]; exact hJx8
                have hd8 : W8.heap[w3.heap.size]? = some (.deferred (some [])) := hk8.heap HD7.out (fun hs => by have := HLT.out _ hs; omega)
                clear hJx8 hk8 hR hy
                gi_wp2
                refine ⟨by simp, .inl ⟨_, _, rfl, run_takeDeferred hd8, ?_⟩⟩
                refine ⟨_, results_none rfl _ _ _, ⟨_, rfl⟩, .inr ⟨_, ?_, HJx.out.putObj _ HJ8.out HSZ.out hd8 rfl⟩⟩
                rw [HTK.out, sdO_app, ← List.append_assoc (zrO h.zc), ← List.append_assoc]
                exact HPR.out
            · have HJ8 : Hid (J (sdO 1 (sdn h).reverse ++ (zrO h.zc ++ sdO 0 ((sdp h).take (k + 1)))) (wr.alloc (.cells #[.int .i64 p, .int .i64 v] 72))) := by
                rw [Hid, HTK.out, sdO_app, sdO_none (by simpa using hv), List.append_nil]; exact HJ7.out
              gi_wp2
              refine ⟨fun _ h => (by cases h), ?_⟩
              gi_wp2
              go_roundw
              case rel => exact ⟨k + 1, by omega, by go_num, HJ8.out, HK7.out, HD7.out⟩
              case measure => simp [intOf]; omega
          · have HJ8 : Hid (J (bks h) wr) := by
              have := HJ6.out
              rw [List.take_of_length_le (by omega)] at this
              rw [Hid, HK.out]; exact this
            have hd8 := HD6.out
            gi_wp2
            refine ⟨by simp, .inl ⟨_, _, rfl, run_takeDeferred hd8, ?_⟩⟩
            exact ⟨_, results_none rfl _ _ _, ⟨_, rfl⟩, .inl (HJ.out.putObj _ HJ8.out HSZ.out hd8 rfl)⟩
      · have HJ5 : Hid (Jx (sdO 1 (sdn h).reverse ++ [(2, 0, h.zc)]) W5) := hJx5
        have hd5 : W5.heap[w3.heap.size]? = some (.deferred (some [])) := hk5.heap HD4.out (fun hs => by have := HLT.out _ hs; omega)
        clear hJx5 hk5 hR hy
        gi_wp2
        refine ⟨by simp, .inl ⟨_, _, rfl, run_takeDeferred hd5, ?_⟩⟩
        exact ⟨_, results_none rfl _ _ _, ⟨_, rfl⟩, .inr ⟨_, HPR.out, HJx.out.putObj _ HJ5.out HSZ.out hd5 rfl⟩⟩
    · have HJ5 : Hid (J (sdO 1 (sdn h).reverse ++ zrO h.zc) W') := by
        have e0 : zrO h.zc = [] := by unfold zrO; rw [if_neg hz]
        rw [Hid, e0, List.append_nil]; exact HJ4.out
      have HK5 := HK4
      have HD5 := HD4
      gi_wp2
      refine ⟨fun _ h => (by cases h), ?_⟩
      clear cY
      gi_wp2
      gi_loopw [49] (fun i wr => ∃ (k : Nat), k ≤ (sdp h).length ∧ i = .int .i64 (k : Int) ∧ J (sdO 1 (sdn h).reverse ++ (zrO h.zc ++ sdO 0 ((sdp h).take k))) wr ∧ Kc S w3 wr ∧ wr.heap[w3.heap.size]? = some (.deferred (some []))) (fun i _ => (sdp h).length - (intOf i).toNat)
      case atStart => exact ⟨0, by omega, rfl, by simpa [sdO] using HJ5.out, HK5.out, HD5.out⟩
      case round =>
        obtain ⟨k, hk, rfl, hj, hkk, hd⟩ := hrel
        have HJ6 : Hid (J (sdO 1 (sdn h).reverse ++ (zrO h.zc ++ sdO 0 ((sdp h).take k))) wr) := hj
        have HK6 : Hid (Kc S w3 wr) := hkk
        have HD6 : Hid (wr.heap[w3.heap.size]? = some (.deferred (some []))) := hd
        clear hj hkk hd
        by_cases hlt : k < (sdp h).length
        · obtain rfl := HXC.out.2.2.1 (by omega)
          obtain ⟨s, hs⟩ := at_lt hlt
          have c0 := HK6.out.cell (HXC3.out k s hs).1 HNS.out.2.2.1
          have c1 := HK6.out.cell (HXC3.out k s hs).2 HNS.out.2.2.1
          have hin := (sdp_in h s (List.mem_of_getElem? hs)).2
          have HTK : Hid ((sdp h).take (k + 1) = (sdp h).take k ++ [s]) := take_at hs
          have HPR : Hid ((sdO 1 (sdn h).reverse ++ (zrO h.zc ++ sdO 0 ((sdp h).take k))) ++ sdO 0 [s] <+: bks h) := by
            rw [Hid, HK.out, List.append_assoc, List.append_assoc, ← sdO_app, ← take_at hs]
            exact List.prefix_append_right_inj _ |>.2 (List.prefix_append_right_inj _ |>.2 (sdO_pre 0 (List.take_prefix _ _)))
          clear hs
          obtain ⟨p, v⟩ := s
          simp only [Nat.zero_add] at c0 c1 hin
          have HF7 : Hid (Fr [] wr (wr.alloc (.cells #[.int .i64 p, .int .i64 v] 72))) := (Fr.refl [] wr).alloc _
          have HJ7 : Hid (J (sdO 1 (sdn h).reverse ++ (zrO h.zc ++ sdO 0 ((sdp h).take k))) (wr.alloc (.cells #[.int .i64 p, .int .i64 v] 72))) := HJ.out _ _ _ none HJ6.out (World.grownBy_alloc wr _ none) (fun r e => by cases e)
          have HK7 : Hid (Kc S w3 (wr.alloc (.cells #[.int .i64 p, .int .i64 v] 72))) := HK6.out.trans (Kc.fr ((Fr.refl S wr).alloc _))
          have HD7 : Hid ((wr.alloc (.cells #[.int .i64 p, .int .i64 v] 72)).heap[w3.heap.size]? = some (.deferred (some []))) := HF7.out.heap HD6.out (by simp)
          have cY6 := (HK6.out.boxed bY3 HNS.out.1).cell
          have cY7 := (HK7.out.boxed bY3 HNS.out.1).cell
          by_cases hv : 0 < v
          · obtain ⟨fn, tmps, assign, body, hy, hR⟩ := HY.out n _ (0, p, v) _ HJ7.out (by have := HPR.out; rw [sdO_one hv] at this; exact this)
            have hw : IntKind.u64.wrap v = v := to_u (by omega) hin
            dsimp only [bval] at hy
            clear hin
            gi_wp2
            refine hR.mono ?_
            rintro e W8 (⟨rfl, hJ8, hk8⟩ | ⟨rfl, hJx8, hk8⟩)
            · have HJ8 : Hid (J (sdO 1 (sdn h).reverse ++ (zrO h.zc ++ sdO 0 ((sdp h).take (k + 1)))) W8) := by
                rw [Hid, HTK.out, sdO_app, sdO_one hv, ← List.append_assoc (zrO h.zc), ← List.append_assoc]; exact hJ8
              have HK8 : Hid (Kc S w3 W8) := HK7.out.trans (Kc.fr hk8)
              have HD8 : Hid (W8.heap[w3.heap.size]? = some (.deferred (some []))) := hk8.heap HD7.out (fun hs => by have := HLT.out _ hs; omega)
              clear hJ8 hk8 hR hy
              gi_wp2
              go_roundw
              case rel => exact ⟨k + 1, by omega, by go_num, HJ8.out, HK8.out, HD8.out⟩
              case measure => simp [intOf]; omega
            · have HJ8 : Hid (Jx (sdO 1 (sdn h).reverse ++ (zrO h.zc ++ sdO 0 ((sdp h).take (k + 1)))) W8) := by
                rw [Hid, HTK.out, sdO_app, sdO_one hv, ← List.append_assoc (zrO h.zc), ← List.append_assoc]; exact hJx8
              have hd8 : W8.heap[w3.heap.size]? = some (.deferred (some [])) := hk8.heap HD7.out (fun hs => by have := HLT.out _ hs; omega)
              clear hJx8 hk8 hR hy
              gi_wp2
              refine ⟨by simp, .inl ⟨_, _, rfl, run_takeDeferred hd8, ?_⟩⟩
              refine ⟨_, results_none rfl _ _ _, ⟨_, rfl⟩, .inr ⟨_, ?_, HJx.out.putObj _ HJ8.out HSZ.out hd8 rfl⟩⟩
              rw [HTK.out, sdO_app, ← List.append_assoc (zrO h.zc), ← List.append_assoc]
              exact HPR.out
          · have HJ8 : Hid (J (sdO 1 (sdn h).reverse ++ (zrO h.zc ++ sdO 0 ((sdp h).take (k + 1)))) (wr.alloc (.cells #[.int .i64 p, .int .i64 v] 72))) := by
              rw [Hid, HTK.out, sdO_app, sdO_none (by simpa using hv), List.append_nil]; exact HJ7.out
            gi_wp2
            refine ⟨fun _ h => (by cases h), ?_⟩
            gi_wp2
            go_roundw
            case rel => exact ⟨k + 1, by omega, by go_num, HJ8.out, HK7.out, HD7.out⟩
            case measure => simp [intOf]; omega
        · have HJ8 : Hid (J (bks h) wr) := by
            have := HJ6.out
            rw [List.take_of_length_le (by omega)] at this
            rw [Hid, HK.out]; exact this
          have hd8 := HD6.out
          gi_wp2
          refine ⟨by simp, .inl ⟨_, _, rfl, run_takeDeferred hd8, ?_⟩⟩
          exact ⟨_, results_none rfl _ _ _, ⟨_, rfl⟩, .inl (HJ.out.putObj _ HJ8.out HSZ.out hd8 rfl)⟩

set_option maxHeartbeats 400000 in
/-- Walk: the histogram is boxed; the function value captures the box. -/
theorem walk_in (n : Nat) (w : World) (a0 a1 a2 a3 a4 a5 a6 a7 a8 : Value) :
    CallsIn Fence.wide n Try.prog 40 #[.agg #[a0, a1, a2, a3, a4, a5, a6, a7, a8]] w fun e w' => e = .returned (.func (.func 55) #[] #[.pointer (some ⟨w.heap.size, 0, none⟩)]) ∧ w' = w.alloc (.cells #[a0, a1, a2, a3, a4, a5, a6, a7, a8] 26) := by
  refine callsIn_of_wp Try.func40 rfl trivial ?_ rfl
  simp only [Try.ntmps40, List.size_toArray, List.length_cons, List.length_nil, Nat.reduceAdd, Nat.reduceSub, Array.replicate_succ, Array.replicate_zero, List.push_toArray, List.append_toArray, List.nil_append, List.cons_append]
  gi_wp2
  go_ret
  exact ⟨rfl, rfl⟩
end Go.Proofs.Ytjkiiccdcjcfbaa
