/-
  Package head: what is read: the flags, the schema, the threshold, a head.
-/
import Derived.Test.YtkphonepblkcdaaGreatDoorHdSide
import Derived.Deep.DeepCutAuto
namespace Go.Proofs.YtkphonepblkcdaaGreatDoor
open Go.RowKit Mem Spans Bits Groups Thrs
set_option linter.unusedSimpArgs false
set_option linter.unusedVariables false
set_option maxRecDepth 100000

theorem Tryz.sizeOfHead : (Tryz.prog.info? 25).map (·.size) = some 6 := by kernel_rfl
/-- A head out of its variable, and another result. -/
theorem hd_res {fn : Func} {p u : Tmp} (h : fn.results = #[.cell p 25, .tmp u]) (tmps : Array Value) (w : World) (g : Nat) (a0 a1 a2 a3 a4 a5 : Value)
    (hp : tmps.getD p undef = .pointer (some ⟨g, 0, none⟩)) (hg : Six w g #[a0, a1, a2, a3, a4, a5]) : (results fn tmps).run Tryz.prog w = .ok (.tuple #[.agg #[a0, a1, a2, a3, a4, a5], tmps.getD u undef]) w := by
  rw [results_cell_tmp h tmps, hp]
  have := run_loadVar_row (P := Tryz.prog) w g 25 25 #[a0, a1, a2, a3, a4, a5] (0, 0) _ hg Tryz.underlying25 rfl Tryz.sizeOfHead
  simp [asAddr, this]
/-- A head's block, written anew. -/
abbrev set6 (w : World) (g : Nat) (u0 u1 u2 u3 u4 u5 : Value) : World :=
  (((((w.setCell ⟨g, 0, none⟩ u0).setCell ⟨g, 1, none⟩ u1).setCell ⟨g, 2, none⟩ u2).setCell ⟨g, 3, none⟩ u3).setCell ⟨g, 4, none⟩ u4).setCell ⟨g, 5, none⟩ u5
theorem set6_fr {S : List Nat} {a b : World} {g : Nat} (h : Fr S a b) (hg : g ∈ S ∨ a.heap.size ≤ g) (u0 u1 u2 u3 u4 u5 : Value) : Fr S a (set6 b g u0 u1 u2 u3 u4 u5) :=
  (((((h.setCell _ _ hg).setCell _ _ hg).setCell _ _ hg).setCell _ _ hg).setCell _ _ hg).setCell _ _ hg
theorem set6_six {w : World} {g : Nat} {a0 a1 a2 a3 a4 a5 : Value} (h : Six w g #[a0, a1, a2, a3, a4, a5]) (u0 u1 u2 u3 u4 u5 : Value) : Six (set6 w g u0 u1 u2 u3 u4 u5) g #[u0, u1, u2, u3, u4, u5] := by
  unfold Six at h ⊢
  simp [set6, World.setCell, Array.getElem?_modify, h]
theorem Six.set {w : World} {g : Nat} {cs : Array Value} (h : Six w g cs) (i : Nat) (u : Value) : Six (w.setCell ⟨g, i, none⟩ u) g (cs.setIfInBounds i u) := by
  unfold Six at h ⊢
  simp [World.setCell, Array.getElem?_modify, h]
theorem Six.other {w : World} {b : Nat} {cs : Array Value} (h : Six w b cs) {g i : Nat} {v : Value} (hn : b ≠ g) : Six (w.setCell ⟨g, i, none⟩ v) b cs := by
  unfold Six at h ⊢
  simp [World.setCell, Array.getElem?_modify, h, Ne.symm hn]
theorem Six.frozen {w : World} {b : Nat} {cs : Array Value} (h : Six w b cs) (i : Nat) : w.frozen? ⟨b, i, none⟩ = false := frozen_at h i
theorem err_ne {w : World} {b : Nat} {cs ds : Array Value} (h : w.heap[b]? = some (.cells cs 112 (0, 0))) (k : Six w b ds) : False := by
  unfold Six at k
  rw [h] at k
  simp at k
/-- An error stays as it is where heads alone are written. -/
theorem IsErr.keptH {w w' : World} {v : Value} {c : Int} {nm : ByteArray} {n : Int} {S : List Nat} (h : IsErr w v c nm n) (f : Fr S w w') (hs : ∀ x ∈ S, ∃ cs, Six w x cs) : IsErr w' v c nm n := by
  rcases h with h | ⟨h, b1, b2, h1, h2⟩
  · exact .inl h
  · refine .inr ⟨h, b1, b2, h1, h2.kept f ?_⟩
    obtain ⟨_, _, u1, k1, _, _, u2, k2, _⟩ := h2
    intro m hm
    simp only [List.mem_cons, List.not_mem_nil, or_false] at hm
    rcases hm with rfl | rfl
    · intro hx
      obtain ⟨cs, k⟩ := hs _ hx
      exact err_ne k1 k
    · intro hx
      obtain ⟨cs, k⟩ := hs _ hx
      exact err_ne k2 k
theorem IsErr.some {w : World} {v : Value} {c : Int} {nm : ByteArray} {n : Int} (h : IsErr w v c nm n) (hc : c ≠ 0) : ∃ b, v = .iface 110 (.pointer (some ⟨b, 0, none⟩)) := by
  rcases h with ⟨h, _⟩ | ⟨_, b1, _, h1, _⟩
  · exact absurd h hc
  · exact ⟨b1, h1⟩
theorem IsErr.nil {w : World} {v : Value} {nm : ByteArray} {n : Int} (h : IsErr w v 0 nm n) : v = .nilIface := by
  rcases h with ⟨_, h⟩ | ⟨h, _⟩
  · exact h
  · exact absurd rfl h

set_option maxHeartbeats 2000000 in
theorem getSchema_any (sa : Addr) (w : World) (p g : Nat) (l : List Bool) (pos lim : Nat) (sh : Bool) (hE : Env sa w) (hw : 2 ≤ p) (hT : Tab w) (hp : 0 < p) (h : Rd w p g l pos lim sh) (hb : l.length ≤ 4294967296) :
    Calls Tryz.prog 55 #[.pointer (some ⟨p, 0, none⟩)] w fun e w' => ∃ x v, e = .returned (.tuple #[.int .i64 x, v]) ∧ IsErr w' v (rdsE (rest l pos lim)) nmSchema 0 ∧ (rdsE (rest l pos lim) = 0 → x = (rdS (rest l pos lim)).1 ∧ Rd w' p g l (pos + (rdS (rest l pos lim)).2.1) lim sh) ∧ Fr [p] w w' := by
  have HEK : Hid (∀ W, Fr [p] w W → Env sa W) := fun W f => hE.kept f (by simpa using hw)
  have HC : Hid (Calls Tryz.prog 83 #[.pointer (some ⟨p, 0, none⟩)] w fun e w' => e = .returned (.tuple #[.int .i64 (rdS (rest l pos lim)).1, .int .i64 (rdS (rest l pos lim)).2.2]) ∧ ((rdS (rest l pos lim)).2.2 = 0 → Rd w' p g l (pos + (rdS (rest l pos lim)).2.1) lim sh) ∧ Fr [p] w w') := vgetS_rd w p g l pos lim sh hT hp h hb
  have HE : Hid (rdsE (rest l pos lim) = if (rdS (rest l pos lim)).2.2 ≠ 0 then (rdS (rest l pos lim)).2.2 else if (rdS (rest l pos lim)).1 < -4 ∨ 8 < (rdS (rest l pos lim)).1 then 21 else 0) := rfl
  have hin := rdS_in (rest l pos lim)
  clear hE hT h
  generalize rdsE (rest l pos lim) = RE at *
  generalize rdS (rest l pos lim) = RS at *
  obtain ⟨x, U, E⟩ := RS
  try simp only at HC HE hin
  go_enter Tryz.func55, Tryz.ntmps55
  go_wp2_with fail
  refine HC.out.mono ?_
  rintro e w1 ⟨rfl, hr, hf⟩
  have HF1 : Hid (Fr [p] w w1) := hf
  have HR : Hid (E = 0 → Rd w1 p g l (pos + U) lim sh) := hr
  clear hr hf HC
  by_cases h0 : E = 0
  · subst h0
    have HR1 : Hid (Rd w1 p g l (pos + U) lim sh) := HR.out rfl
    have HE1 : Hid (RE = if x < -4 ∨ 8 < x then 21 else 0) := by rw [Hid, HE.out, if_neg (by simp)]
    clear HR HE
    by_cases h1 : x < -4 ∨ 8 < x
    · have HE2 : Hid (RE = 21) := by rw [Hid, HE1.out, if_pos h1]
      clear HE1
      rcases h1 with h1 | h1
      all_goals
        go_wp2_with fail
        refine (hat_any sa 21 nmSchema 0 w1 (HEK.out _ HF1.out)).mono ?_
        rintro e w3 ⟨v, rfl, hv, hf⟩
        have HV : Hid (IsErr w3 v 21 nmSchema 0) := hv
        have HF3 : Hid (Fr [p] w w3) := HF1.out.trans hf (by simp)
        clear hv hf
        go_wp2
        go_ret2
        exact ⟨_, _, rfl, by rw [HE2.out]; exact HV.out, fun hh => by rw [HE2.out] at hh; exact absurd hh (by decide), HF3.out⟩
    · have HE2 : Hid (RE = 0) := by rw [Hid, HE1.out, if_neg h1]
      have h1a : ¬ x < -4 := by omega
      have h1b : ¬ 8 < x := by omega
      clear h1 HE1
      go_wp2
      go_ret2
      exact ⟨_, _, rfl, by rw [HE2.out]; exact .inl ⟨rfl, rfl⟩, fun _ => ⟨rfl, HR1.out⟩, HF1.out⟩
  · have HE1 : Hid (RE = E) := by rw [Hid, HE.out, if_pos h0]
    have HNE : Hid (¬ E = 0) := h0
    go_wp2_with fail
    refine (hat_any sa E nmSchema 0 w1 (HEK.out _ HF1.out)).mono ?_
    rintro e w3 ⟨v, rfl, hv, hf⟩
    have HV : Hid (IsErr w3 v E nmSchema 0) := hv
    have HF3 : Hid (Fr [p] w w3) := HF1.out.trans hf (by simp)
    clear hv hf
    go_wp2
    go_ret2
    exact ⟨_, _, rfl, by rw [HE1.out]; exact HV.out, fun hh => by rw [HE1.out] at hh; exact absurd hh HNE.out, HF3.out⟩

set_option maxHeartbeats 2000000 in
theorem getZero_any (sa : Addr) (w : World) (p g : Nat) (l : List Bool) (pos lim : Nat) (sh : Bool) (v f u : Nat) (hE : Env sa w) (hw : 2 ≤ p) (h : Rd w p g l pos lim sh) (hb : l.length ≤ 4294967296) (ht : tgt (rest l pos lim) 0 (rest l pos lim).length = (v, f, u)) :
    Calls Tryz.prog 56 #[.pointer (some ⟨p, 0, none⟩)] w fun e w' => ∃ y, e = .returned (.tuple #[.int .u64 (v : Int), y]) ∧ IsErr w' y (f : Int) nmZero 0 ∧ Rd w' p g l (pos + u) lim sh ∧ Fr [p] w w' := by
  have HEK : Hid (∀ W, Fr [p] w W → Env sa W) := fun W k => hE.kept k (by simpa using hw)
  rw [← rest_tgt h.2.2.1] at ht
  have HC : Hid (Calls Tryz.prog 84 #[.pointer (some ⟨p, 0, none⟩)] w fun e w' => e = .returned (.tuple #[.int .u64 (v : Int), .int .i64 (f : Int)]) ∧ Rd w' p g l (pos + u) lim sh ∧ Fr [p] w w') := tget_any w p g l pos lim sh v f u h hb ht
  clear hE h ht
  go_enter Tryz.func56, Tryz.ntmps56
  go_wp2_with fail
  refine HC.out.mono ?_
  rintro e w1 ⟨rfl, hr, hf⟩
  have HF1 : Hid (Fr [p] w w1) := hf
  have HR1 : Hid (Rd w1 p g l (pos + u) lim sh) := hr
  clear hr hf HC
  go_wp2_with fail
  refine (hat_any sa (f : Int) nmZero 0 w1 (HEK.out _ HF1.out)).mono ?_
  rintro e w3 ⟨y, rfl, hv, hf⟩
  have HV : Hid (IsErr w3 y (f : Int) nmZero 0) := hv
  have HF3 : Hid (Fr [p] w w3) := HF1.out.trans hf (by simp)
  have HR3 : Hid (Rd w3 p g l (pos + u) lim sh) := HR1.out.kept hf (by simp) (by simp)
  clear hv hf
  go_wp2
  go_ret2
  exact ⟨_, rfl, HV.out, HR3.out, HF3.out⟩

/-- What the reading of the flags tells. -/
def Flags (w : World) (p g : Nat) (l : List Bool) (pos lim : Nat) (sh : Bool) (w' : World) (x y : Int) (v : Value) : Prop :=
  IsErr w' v (rdf (rest l pos lim)) nmFlags 0 ∧
  (rdf (rest l pos lim) ≠ 0 → x = 0 ∧ y = 0) ∧
  (rdf (rest l pos lim) = 0 → x = ((val (((rest l pos lim).drop 2).take 1) : Nat) : Int) ∧ y = ((val ((rest l pos lim).take 2) : Nat) : Int) ∧ Rd w' p g l (pos + 8) lim sh)

set_option maxHeartbeats 4000000 in
theorem getFlags_any (sa : Addr) (w : World) (p g : Nat) (l : List Bool) (pos lim : Nat) (sh : Bool) (hE : Env sa w) (hw : 2 ≤ p) (h : Rd w p g l pos lim sh) (hb : l.length ≤ 4294967296) :
    Calls Tryz.prog 54 #[.pointer (some ⟨p, 0, none⟩)] w fun e w' => ∃ x y v, e = .returned (.tuple #[.agg #[.int .i64 x, .int .i64 y, .int .i64 0, .int .u64 0, .slice none 0 0, .slice none 0 0], v]) ∧ Flags w p g l pos lim sh w' x y v ∧ Fr [p] w w' := by
  have hbl : pos ≤ lim ∧ lim ≤ l.length := ⟨h.2.1, h.2.2.1⟩
  have hpw := h.lt.1
  have hgw := h.lt.2
  have hrl := rest_len (pos := pos) hbl.2
  have HEK : Hid (∀ W, Fr [p] w W → Env sa W) := fun W k => hE.kept k (by simpa using hw)
  have HRD : Hid (p ≠ g) := h.1
  unfold Flags
  have HR0 : Hid (Rd (w.alloc (.cells #[.int .i64 0, .int .i64 0, .int .i64 0, .int .u64 0, .slice none 0 0, .slice none 0 0] 25)) p g l pos lim sh) := h.kept ((Fr.refl [] w).alloc _) (by simp) (by simp)
  have HF0 : Hid (Fr [p] w (w.alloc (.cells #[.int .i64 0, .int .i64 0, .int .i64 0, .int .u64 0, .slice none 0 0, .slice none 0 0] 25))) := (Fr.refl [p] w).alloc _
  have HS0 : Hid (Six (w.alloc (.cells #[.int .i64 0, .int .i64 0, .int .i64 0, .int .u64 0, .slice none 0 0, .slice none 0 0] 25)) w.heap.size #[.int .i64 0, .int .i64 0, .int .i64 0, .int .u64 0, .slice none 0 0, .slice none 0 0]) := Six.new _ _
  clear h hE
  have HGB : Hid (∀ n q W, 1 ≤ n → n ≤ 64 → q + n ≤ lim → Rd W p g l q lim sh → Calls Tryz.prog 53 #[.pointer (some ⟨p, 0, none⟩), .int .i64 ((n : Nat) : Int)] W fun e w' => e = .returned (.int .u64 ((val ((l.drop q).take n) : Nat) : Int)) ∧ Rd w' p g l (q + n) lim sh ∧ Fr [p] W w') := fun n q W h1 h2 h3 hr => get_ok W p g l q lim sh n hr hb h1 h2 h3
  have hB1 : w.heap.size < (w.alloc (.cells #[.int .i64 0, .int .i64 0, .int .i64 0, .int .u64 0, .slice none 0 0, .slice none 0 0] 25)).heap.size := by simp
  have HLF : Hid (∀ W, Rd W p g l pos lim sh → Calls Tryz.prog 25 #[.pointer (some ⟨p, 0, none⟩)] W fun e w' => e = .returned (.int .i64 ((lim - pos : Nat) : Int)) ∧ ∃ m, w' = W.drewN m) := fun W hr => left_quiet W p g l pos lim sh hr hb
  go_enter Tryz.func54, Tryz.ntmps54
  go_wp2_with fail
  generalize (w.alloc (.cells #[.int .i64 0, .int .i64 0, .int .i64 0, .int .u64 0, .slice none 0 0, .slice none 0 0] 25)) = wA at *
  refine (HLF.out _ HR0.out).mono ?_
  rintro e w1 ⟨rfl, m, rfl⟩
  have HR1 : Hid (Rd (wA.drewN m) p g l pos lim sh) := HR0.out.kept ((Fr.refl [] _).drewN _) (by simp) (by simp)
  have HF1 : Hid (Fr [p] w (wA.drewN m)) := HF0.out.drewN _
  have HS1 : Hid (Six (wA.drewN m) w.heap.size #[.int .i64 0, .int .i64 0, .int .i64 0, .int .u64 0, .slice none 0 0, .slice none 0 0]) := HS0.out
  have HB1 : Hid (w.heap.size < (wA.drewN m).heap.size) := hB1
  clear hB1 HS0 HF0 HR0 HLF
  generalize wA.drewN m = wB at *
  generalize hRR : w.heap.size = RR at *
  have HRR : Hid (w.heap.size = RR) := hRR
  clear hRR
  by_cases h8 : lim - pos < 8
  · have HE1 : Hid (rdf (rest l pos lim) = 16) := by unfold Hid rdf; rw [if_pos (by omega)]
    have d8 : decide (((lim - pos : Nat) : Int) < 8) = true := decide_eq_true (by omega)
    go_wp2_with fail
    refine (hat_any sa 16 nmFlags 0 wB (HEK.out _ HF1.out)).mono ?_
    rintro e w3 ⟨v, rfl, hv, hf⟩
    have HF3 : Hid (Fr [p] w w3) := HF1.out.trans hf (by simp)
    have hs3 : Six w3 RR #[.int .i64 0, .int .i64 0, .int .i64 0, .int .u64 0, .slice none 0 0, .slice none 0 0] := HS1.out.kept hf (by simp)
    have HS3 : Hid (Six w3 RR #[.int .i64 0, .int .i64 0, .int .i64 0, .int .u64 0, .slice none 0 0, .slice none 0 0]) := hs3
    have HV : Hid (IsErr w3 v 16 nmFlags 0) := hv
    clear hv hf
    have c0 : w3.cell? ⟨RR, 0, none⟩ = some (.int .i64 0) := hs3.cell 0 rfl
    have fc0 := hs3.frozen 0
    have c1 : w3.cell? ⟨RR, 1, none⟩ = some (.int .i64 0) := hs3.cell 1 rfl
    have fc1 := hs3.frozen 1
    have c2 : w3.cell? ⟨RR, 2, none⟩ = some (.int .i64 0) := hs3.cell 2 rfl
    have fc2 := hs3.frozen 2
    have c3 : w3.cell? ⟨RR, 3, none⟩ = some (.int .u64 0) := hs3.cell 3 rfl
    have fc3 := hs3.frozen 3
    have c4 : w3.cell? ⟨RR, 4, none⟩ = some (.slice none 0 0) := hs3.cell 4 rfl
    have fc4 := hs3.frozen 4
    have c5 : w3.cell? ⟨RR, 5, none⟩ = some (.slice none 0 0) := hs3.cell 5 rfl
    have fc5 := hs3.frozen 5
    clear hs3
    go_wp2_with fail
    refine bodyPost_ret (hd_res rfl _ _ RR (.int .i64 0) (.int .i64 0) (.int .i64 0) (.int .u64 0) (.slice none 0 0) (.slice none 0 0) rfl (set6_six HS3.out _ _ _ _ _ _)) rfl ?_
    have hff : Fr [RR] w3 (set6 w3 RR (.int .i64 0) (.int .i64 0) (.int .i64 0) (.int .u64 0) (.slice none 0 0) (.slice none 0 0)) := set6_fr (Fr.refl [RR] w3) (.inl (by simp)) _ _ _ _ _ _
    exact ⟨0, 0, v, rfl, ⟨by rw [HE1.out]; exact HV.out.keptH hff (by intro x hx; rw [List.mem_singleton.1 hx]; exact ⟨_, HS3.out⟩), fun _ => ⟨rfl, rfl⟩, fun hh => by rw [HE1.out] at hh; exact absurd hh (by decide)⟩, HF3.out.trans hff (by have := HRR.out; simp; omega)⟩
  · have d8 : decide (((lim - pos : Nat) : Int) < 8) = false := decide_eq_false (by omega)
    have hv2 : val ((l.drop pos).take 2) < 4 := val_take_lt l pos 2
    have hv1 : val ((l.drop (pos + 2)).take 1) < 2 := val_take_lt l (pos + 2) 1
    have HV2 : Hid (val ((rest l pos lim).take 2) = val ((l.drop pos).take 2)) := congrArg val (rest_take (by omega))
    have HV1 : Hid (val (((rest l pos lim).drop 2).take 1) = val ((l.drop (pos + 2)).take 1)) := congrArg val (rest_mid (by omega))
    have HV5 : Hid (rdf (rest l pos lim) = if val ((l.drop (pos + 3)).take 5) ≠ 0 then 10 else 0) := by unfold Hid rdf; rw [if_neg (by omega), rest_mid (by omega)]
    have HG2 : Hid (∀ W, Rd W p g l pos lim sh → Calls Tryz.prog 53 #[.pointer (some ⟨p, 0, none⟩), .int .i64 2] W fun e w' => e = .returned (.int .u64 ((val ((l.drop pos).take 2) : Nat) : Int)) ∧ Rd w' p g l (pos + 2) lim sh ∧ Fr [p] W w') := fun W hr => HGB.out 2 pos W (by omega) (by omega) (by omega) hr
    have HG1 : Hid (∀ W, Rd W p g l (pos + 2) lim sh → Calls Tryz.prog 53 #[.pointer (some ⟨p, 0, none⟩), .int .i64 1] W fun e w' => e = .returned (.int .u64 ((val ((l.drop (pos + 2)).take 1) : Nat) : Int)) ∧ Rd w' p g l (pos + 3) lim sh ∧ Fr [p] W w') := fun W hr => HGB.out 1 (pos + 2) W (by omega) (by omega) (by omega) hr
    have HG5 : Hid (∀ W, Rd W p g l (pos + 3) lim sh → Calls Tryz.prog 53 #[.pointer (some ⟨p, 0, none⟩), .int .i64 5] W fun e w' => e = .returned (.int .u64 ((val ((l.drop (pos + 3)).take 5) : Nat) : Int)) ∧ Rd w' p g l (pos + 8) lim sh ∧ Fr [p] W w') := fun W hr => HGB.out 5 (pos + 3) W (by omega) (by omega) (by omega) hr
    clear HGB hbl hrl hb h8
    have HPG : Hid (p < RR ∧ g < RR ∧ 2 ≤ p) := ⟨hpw, hgw, hw⟩
    clear hpw hgw hw
    generalize val ((l.drop (pos + 2)).take 1) = V1 at *
    generalize val ((l.drop (pos + 3)).take 5) = V5 at *
    generalize val ((l.drop pos).take 2) = V2 at *
    have hw2 : wrap64 (V2 : Int) = (V2 : Int) := by unfold wrap64; omega
    have hw1 : wrap64 (V1 : Int) = (V1 : Int) := by unfold wrap64; omega
    clear hv1 hv2
    go_wp2_with fail
    refine (HG2.out _ HR1.out).mono ?_
    rintro e w2 ⟨rfl, hr2, hf2⟩
    have HR2 : Hid (Rd w2 p g l (pos + 2) lim sh) := hr2
    have HF2 : Hid (Fr [p] w w2) := HF1.out.trans hf2 (by simp)
    have HS2 : Hid (Six w2 RR #[.int .i64 0, .int .i64 0, .int .i64 0, .int .u64 0, .slice none 0 0, .slice none 0 0]) := HS1.out.kept hf2 (by have := HRR.out; have := HPG.out; simp; omega)
    clear hr2 hf2
    clear d8 HG2
    go_wp2_with fail
    refine (HG1.out _ HR2.out).mono ?_
    rintro e w3 ⟨rfl, hr3, hf3⟩
    have HR3 : Hid (Rd w3 p g l (pos + 3) lim sh) := hr3
    have HF3 : Hid (Fr [p] w w3) := HF2.out.trans hf3 (by simp)
    have HS3 : Hid (Six w3 RR #[.int .i64 0, .int .i64 0, .int .i64 0, .int .u64 0, .slice none 0 0, .slice none 0 0]) := HS2.out.kept hf3 (by have := HRR.out; have := HPG.out; simp; omega)
    clear hr3 hf3 HG1
    have HA : Hid (Six (w3.alloc (.cells #[.int .i64 (V1 : Int), .int .i64 (V2 : Int), .int .i64 0, .int .u64 0, .slice none 0 0, .slice none 0 0] 25)) w3.heap.size #[.int .i64 (V1 : Int), .int .i64 (V2 : Int), .int .i64 0, .int .u64 0, .slice none 0 0, .slice none 0 0] ∧ Six (w3.alloc (.cells #[.int .i64 (V1 : Int), .int .i64 (V2 : Int), .int .i64 0, .int .u64 0, .slice none 0 0, .slice none 0 0] 25)) RR #[.int .i64 0, .int .i64 0, .int .i64 0, .int .u64 0, .slice none 0 0, .slice none 0 0] ∧ Rd (w3.alloc (.cells #[.int .i64 (V1 : Int), .int .i64 (V2 : Int), .int .i64 0, .int .u64 0, .slice none 0 0, .slice none 0 0] 25)) p g l (pos + 3) lim sh ∧ Fr [p] w (w3.alloc (.cells #[.int .i64 (V1 : Int), .int .i64 (V2 : Int), .int .i64 0, .int .u64 0, .slice none 0 0, .slice none 0 0] 25))) :=
      ⟨Six.new _ _, HS3.out.kept ((Fr.refl [] _).alloc _) (by simp), HR3.out.kept ((Fr.refl [] _).alloc _) (by simp) (by simp), HF3.out.alloc _⟩
    have HRL : Hid (RR < w3.heap.size) := HS3.out.lt
    go_wp2_with fail
    obtain ⟨ha1, ha2, ha3, ha4⟩ := HA.out
    have HA1 : Hid (Six (w3.alloc _) w3.heap.size _) := ha1
    have HA2 : Hid (Six (w3.alloc _) RR _) := ha2
    have HA3 : Hid (Rd (w3.alloc _) p g l (pos + 3) lim sh) := ha3
    have HA4 : Hid (Fr [p] w (w3.alloc _)) := ha4
    clear HA ha1 ha2 ha3 ha4
    have HB3 : Hid (w3.heap.size = w3.heap.size) := rfl
    generalize w3.alloc _ = w4 at *
    generalize w3.heap.size = H4 at *
    refine (HG5.out _ HA3.out).mono ?_
    rintro e w5 ⟨rfl, hr5, hf5⟩
    have HR5 : Hid (Rd w5 p g l (pos + 8) lim sh) := hr5
    have HF5 : Hid (Fr [p] w w5) := HA4.out.trans hf5 (by simp)
    have HS5 : Hid (Six w5 RR #[.int .i64 0, .int .i64 0, .int .i64 0, .int .u64 0, .slice none 0 0, .slice none 0 0]) := HA2.out.kept hf5 (by have := HRR.out; have := HPG.out; simp; omega)
    have HH5 : Hid (Six w5 H4 _) := HA1.out.kept hf5 (by have := HRR.out; have := HRL.out; have := HPG.out; simp; omega)
    clear hr5 hf5 HG5
    by_cases h5 : V5 = 0
    · have HE1 : Hid (rdf (rest l pos lim) = 0) := by rw [Hid, HV5.out, if_neg (by simpa using h5)]
      subst h5
      have hs3 := HS5.out
      have hh3 := HH5.out
      have c0 : w5.cell? ⟨RR, 0, none⟩ = some (.int .i64 0) := hs3.cell 0 rfl
      have fc0 := hs3.frozen 0
      have c1 : w5.cell? ⟨RR, 1, none⟩ = some (.int .i64 0) := hs3.cell 1 rfl
      have fc1 := hs3.frozen 1
      have c2 : w5.cell? ⟨RR, 2, none⟩ = some (.int .i64 0) := hs3.cell 2 rfl
      have fc2 := hs3.frozen 2
      have c3 : w5.cell? ⟨RR, 3, none⟩ = some (.int .u64 0) := hs3.cell 3 rfl
      have fc3 := hs3.frozen 3
      have c4 : w5.cell? ⟨RR, 4, none⟩ = some (.slice none 0 0) := hs3.cell 4 rfl
      have fc4 := hs3.frozen 4
      have c5 : w5.cell? ⟨RR, 5, none⟩ = some (.slice none 0 0) := hs3.cell 5 rfl
      have fc5 := hs3.frozen 5
      have d0 : w5.cell? ⟨H4, 0, none⟩ = some (.int .i64 (V1 : Int)) := hh3.cell 0 rfl
      have fd0 := hh3.frozen 0
      have d1 : w5.cell? ⟨H4, 1, none⟩ = some (.int .i64 (V2 : Int)) := hh3.cell 1 rfl
      have fd1 := hh3.frozen 1
      have d2 : w5.cell? ⟨H4, 2, none⟩ = some (.int .i64 0) := hh3.cell 2 rfl
      have fd2 := hh3.frozen 2
      have d3 : w5.cell? ⟨H4, 3, none⟩ = some (.int .u64 0) := hh3.cell 3 rfl
      have fd3 := hh3.frozen 3
      have d4 : w5.cell? ⟨H4, 4, none⟩ = some (.slice none 0 0) := hh3.cell 4 rfl
      have fd4 := hh3.frozen 4
      have d5 : w5.cell? ⟨H4, 5, none⟩ = some (.slice none 0 0) := hh3.cell 5 rfl
      have fd5 := hh3.frozen 5
      clear hs3 hh3
      go_wp2_with fail
      refine bodyPost_ret (hd_res rfl _ _ RR (.int .i64 (V1 : Int)) (.int .i64 (V2 : Int)) (.int .i64 0) (.int .u64 0) (.slice none 0 0) (.slice none 0 0) rfl (set6_six HS5.out _ _ _ _ _ _)) rfl ?_
      have hff : Fr [RR] w5 (set6 w5 RR (.int .i64 (V1 : Int)) (.int .i64 (V2 : Int)) (.int .i64 0) (.int .u64 0) (.slice none 0 0) (.slice none 0 0)) := set6_fr (Fr.refl [RR] w5) (.inl (by simp)) _ _ _ _ _ _
      exact ⟨V1, V2, .nilIface, rfl, ⟨by rw [HE1.out]; exact .inl ⟨rfl, rfl⟩, fun hh => absurd HE1.out hh, fun _ => ⟨by rw [HV1.out], by rw [HV2.out], HR5.out.kept hff (by have := HRR.out; have := HPG.out; simp; omega) (by have := HRR.out; have := HPG.out; simp; omega)⟩⟩, HF5.out.trans hff (by have := HRR.out; have := HPG.out; simp; omega)⟩
    · have HE1 : Hid (rdf (rest l pos lim) = 10) := by rw [Hid, HV5.out, if_pos h5]
      have h5i : ¬ (V5 : Int) = 0 := by omega
      go_wp2_with fail
      refine (hat_any sa 10 nmFlags 0 w5 (HEK.out _ HF5.out)).mono ?_
      rintro e w6 ⟨v, rfl, hv, hf⟩
      have HF6 : Hid (Fr [p] w w6) := HF5.out.trans hf (by simp)
      have hs3 : Six w6 RR #[.int .i64 0, .int .i64 0, .int .i64 0, .int .u64 0, .slice none 0 0, .slice none 0 0] := HS5.out.kept hf (by simp)
      have HS3 : Hid (Six w6 RR #[.int .i64 0, .int .i64 0, .int .i64 0, .int .u64 0, .slice none 0 0, .slice none 0 0]) := hs3
      have HV : Hid (IsErr w6 v 10 nmFlags 0) := hv
      clear hv hf
      have c0 : w6.cell? ⟨RR, 0, none⟩ = some (.int .i64 0) := hs3.cell 0 rfl
      have fc0 := hs3.frozen 0
      have c1 : w6.cell? ⟨RR, 1, none⟩ = some (.int .i64 0) := hs3.cell 1 rfl
      have fc1 := hs3.frozen 1
      have c2 : w6.cell? ⟨RR, 2, none⟩ = some (.int .i64 0) := hs3.cell 2 rfl
      have fc2 := hs3.frozen 2
      have c3 : w6.cell? ⟨RR, 3, none⟩ = some (.int .u64 0) := hs3.cell 3 rfl
      have fc3 := hs3.frozen 3
      have c4 : w6.cell? ⟨RR, 4, none⟩ = some (.slice none 0 0) := hs3.cell 4 rfl
      have fc4 := hs3.frozen 4
      have c5 : w6.cell? ⟨RR, 5, none⟩ = some (.slice none 0 0) := hs3.cell 5 rfl
      have fc5 := hs3.frozen 5
      clear hs3
      go_wp2_with fail
      refine bodyPost_ret (hd_res rfl _ _ RR (.int .i64 0) (.int .i64 0) (.int .i64 0) (.int .u64 0) (.slice none 0 0) (.slice none 0 0) rfl (set6_six HS3.out _ _ _ _ _ _)) rfl ?_
      have hff : Fr [RR] w6 (set6 w6 RR (.int .i64 0) (.int .i64 0) (.int .i64 0) (.int .u64 0) (.slice none 0 0) (.slice none 0 0)) := set6_fr (Fr.refl [RR] w6) (.inl (by simp)) _ _ _ _ _ _
      exact ⟨0, 0, v, rfl, ⟨by rw [HE1.out]; exact HV.out.keptH hff (by intro x hx; rw [List.mem_singleton.1 hx]; exact ⟨_, HS3.out⟩), fun _ => ⟨rfl, rfl⟩, fun hh => by rw [HE1.out] at hh; exact absurd hh (by decide)⟩, HF6.out.trans hff (by have := HRR.out; have := HPG.out; simp; omega)⟩
end Go.Proofs.YtkphonepblkcdaaGreatDoor
