/-
  The walk of tidepolelaw03.VarintReads: it returns true, whatever it is given, and writes nothing that was there.
-/
import Derived.Test.YtimopgapnnkbnaaAwake
import Derived.Deep.RegionWith
namespace Go.Proofs.Ytimopgapnnkbnaa
open Go.RowKit Mem Bits Sevens
set_option linter.unusedSimpArgs false
set_option linter.unusedVariables false

/-- The first bytes of a slice. -/
theorem Src.take {w : World} {ao : Option Addr} {cap : Nat} {bs : List Nat} (h : Src w (.slice ao bs.length cap) bs) (U : Nat) (h2 : U ≤ bs.length) : Src w (.slice ao U cap) (bs.take U) := by
  obtain ⟨ao', cap', e, h1, h2', h3, h4⟩ := h
  simp only [Value.slice.injEq] at e
  obtain ⟨rfl, _, rfl⟩ := e
  have hl : (bs.take U).length = U := by simp; omega
  refine ⟨ao, cap, by rw [hl], by omega, h2', fun h0 => ?_, fun x hx => h4 x (List.mem_of_mem_take hx)⟩
  obtain ⟨b, off, rfl, hc⟩ := h3 (by omega)
  refine ⟨b, off, rfl, fun j hj => ?_⟩
  rw [hc j (by omega)]
  simp [List.getElem?_take, show j < U from by omega]

/-- Pos, in whatever world comes behind with nothing turned. -/
theorem pos_later {wr : World} {p g : Nat} {l : List Bool} {pos lim : Nat} {sh : Bool} (h : Rd wr p g l pos lim sh) (wx : World) (hf : Fr [] wr wx) :
    Calls Try.prog 24 #[.pointer (some ⟨p, 0, none⟩)] wx fun e w' => e = .returned (.int .i64 (pos : Int)) ∧ wx = w' :=
  pos_any wx p g l pos lim sh (h.kept hf (by simp) (by simp))

set_option maxRecDepth 100000 in
set_option maxHeartbeats 2000000 in
theorem reads_walk (a0 : Option Addr) (len0 cap0 : Nat) (z0 : List Int) (w : World) (w0 : IsRow .u8 w a0 len0 cap0 z0) :
    Calls Try.prog 5 #[.slice a0 len0 cap0] w fun e w' => e = .returned (.bool true) ∧ Below w.heap.size w w' := by
  obtain ⟨bs, hbl, hsrc⟩ := w0.src
  subst hbl
  have hcap : bs.length ≤ cap0 ∧ cap0 ≤ maxLen ∧ (0 < bs.length → ∃ b off, a0 = some ⟨b, off, none⟩) ∧ ∀ x ∈ bs, x < 256 := by
    obtain ⟨ao, cap, e, h1, h2, h3, h4⟩ := hsrc
    simp only [Value.slice.injEq] at e
    obtain ⟨rfl, _, rfl⟩ := e
    exact ⟨h1, h2, fun h0 => by obtain ⟨b, off, rfl, _⟩ := h3 h0; exact ⟨b, off, rfl⟩, h4⟩
  obtain ⟨hc1, hc2, hc3, h256⟩ := hcap
  clear w0
  by_cases h1 : 40 < bs.length
  · go_enter Try.func5, Try.ntmps5
    go_wp2_with fail
    refine (awake_any w).mono ?_
    rintro e w' ⟨rfl, hf⟩
    go_wp2_with fail
    go_ret
    exact ⟨rfl, hf.below (Nat.le_refl _) (by simp)⟩
  obtain ⟨V, E, U, hp⟩ : ∃ V E U, parse bs 0 0 = (V, E, U) := ⟨_, _, _, rfl⟩
  have hV : V < 18446744073709551616 := parse_lt _ _ _ _ _ _ hp (by omega) (by omega) h256
  go_enter Try.func5, Try.ntmps5
  go_wp2_with fail
  rw [show (8 * (bs.length : Int)) = ((8 * bs.length : Nat) : Int) from by omega]
  refine (newReader_ok _ bs (8 * bs.length) w hsrc (by rw [nbs_eight]; exact Nat.le_refl _) (by omega)).mono ?_
  rintro e w1 ⟨q, h, rfl, hr1, hq, hh, hf1⟩
  have hsrc1 := hsrc.kept hf1 (by simp)
  go_wp2_with fail
  refine (getU_any w1 q h _ 0 (8 * bs.length) false V E U hr1 (by simp; omega) (by rw [restBytes_unpack bs h256]; exact hp)).mono ?_
  rintro e w2 ⟨rfl, hr2, hf2⟩
  have hf02 : Fr [] w w2 := hf1.trans hf2 (by simp; omega)
  have hsrc2 := hsrc.kept hf02 (by simp)
  have hrun := run_str hsrc2
  clear hr1 hsrc1
  go_wp2_with fail
  refine (rparse_any bs w2 V E U h256 (by omega) hp).mono ?_
  rintro e w3 ⟨rfl, rfl⟩
  by_cases hE : E = 0
  · subst hE
    obtain ⟨x, e1, e2, e3, _⟩ := parse_ok bs 0 0 V U hp h256
    have hx : x = V := by simp at e1; omega
    subst hx
    rw [Nat.zero_add] at e2
    rw [Nat.sub_zero] at e3
    have hU : 1 ≤ U ∧ U ≤ bs.length := by
      have := vb_pos x
      have h9 := congrArg List.length e3
      rw [List.length_take, ← e2] at h9
      omega
    rw [if_pos rfl]
    have HPK : Hid (pack (vbits x) = bs.take U) := by show _ = _; rw [e3]; exact pack_bits8 _ (vb_lt x)
    clear e1 e2 e3 hp
    go_wp2_with fail
    refine (newWriter_ok _ [] 0 w2 (Src.nil w2) (by decide) (by decide)).mono ?_
    rintro e w4 ⟨p, g, rfl, hw4, hp4, hg4, hf4⟩
    have hz2 := hf02.size
    have hf04 : Fr [] w w4 := hf02.trans hf4 (by simp)
    have hr4 := hr2.kept hf4 (by simp) (by simp)
    go_wp2_with fail
    refine (putU_any w4 p g [] x hw4 (by simp) hV).mono ?_
    rintro e w5 ⟨rfl, g5, hw5, hg5, hf5⟩
    have hrl := hr2.lt
    have hr5 := hr4.kept hf5 (by simp; omega) (by simp; omega)
    have hf05 : Fr [] w w5 := hf04.trans hf5 (by simp; omega)
    rw [List.nil_append] at hw5
    have hb5 : (vbits x).length ≤ 4294967296 := by rw [vbits_length]; have := vb_ten hV; omega
    have hS : ∀ wy, Fr [] w5 wy → (convert 39 9 (.slice a0 U cap0)).run Try.prog wy = .ok (.string (str (bs.take U))) wy :=
      fun wy hy => run_str ((hsrc.take U hU.2).kept (hf05.trans hy (by simp)) (by simp))
    have F0 : Fr [] w5 w5.drew := (Fr.refl _ _).drew
    obtain ⟨b, off, rfl⟩ := hc3 (by omega)
    clear hr2 hr4 hw4 hf4 hf5 hf02 hf04 hrun hsrc2 hsrc
    rw [Nat.zero_add] at hr5
    obtain ⟨N, hN⟩ : ∃ N, N = 8 * U := ⟨_, rfl⟩
    rw [← hN] at hr5
    have q1 : IntKind.i64.wrap (8 * (U : Int)) = (N : Int) := by rw [IntKind.wrap_i64]; omega
    have q2 : wrap64 (8 * (U : Int)) = (N : Int) := by rw [IntWalk.wrap64_in _ ⟨by omega, by omega⟩]; omega
    have hUc : U ≤ cap0 := by omega
    have hU1 : U ≤ 40 := by omega
    have HC1 : Hid (bs.length ≤ cap0) := hc1
    clear hN hc3 hc2 h256 hf1 hf2 hq hh hp4 hg4 hz2 hg5 hrl hV hU hc1
    go_wp2_with fail
    go_region_with (first
      | (go_at_call 24; refine (pos_later hr5 _ ?_).mono ?_; (first | assumption | exact F0); rintro e w7 ⟨rfl, rfl⟩)
      | (go_at_call 16; refine (bytes_later hw5 hb5 _ ?_).mono ?_; (first | assumption | exact F0); rintro e w7 ⟨g7, rfl, hA, hB, hC, hD⟩; rw [HPK.out] at hD)
      | (go_at_call 7; refine (awake_any _).mono ?_; rintro e w9 ⟨rfl, hf9⟩))
    all_goals go_wp2_with fail
    all_goals go_ret
    all_goals refine ⟨by first | rfl | (simp; done), ?_⟩
    all_goals
      have hx : Fr [] w5 w9 := Fr.trans (by assumption) hf9 (by simp)
      exact (hf05.trans hx (by simp)).below (Nat.le_refl _) (by simp)
  · have hEne : ((E : Int) != 0) = true := by simp; omega
    go_wp2_with fail
    refine (awake_any w2).mono ?_
    rintro e w' ⟨rfl, hf⟩
    go_wp2_with fail
    go_ret
    exact ⟨rfl, (hf02.trans hf (by simp)).below (Nat.le_refl _) (by simp)⟩
end Go.Proofs.Ytimopgapnnkbnaa
