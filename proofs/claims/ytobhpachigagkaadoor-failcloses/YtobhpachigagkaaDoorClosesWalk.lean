/-
  FailCloses' walk: what is wrapped around ErrClosed is known by it, and has the code of forms.
-/
import Derived.Test.YtobhpachigagkaaDoorWrapsMore
namespace Go.Proofs.YtobhpachigagkaaDoor
open Go.RowKit Go.Extern.Stop Go.Stop Go.Extern Mem
set_option linter.unusedSimpArgs false
set_option linter.unusedVariables false
set_option maxRecDepth 100000

/-- All that is to be known of the chain around the sentinel, once it is built. -/
structure WholeC (sa : Addr) (z : List Wp) (name : ByteArray) (l : List Node) : Prop where
  code : codeOf (sentOf sa) l = 10
  len : l.length = z.length
  at' : atOf name l = atW name z.reverse
  text : textOf (sentOf sa) l = textW z.reverse closedBytes
  fits : Fits l
theorem wholeC_of (sa : Addr) (z : List Wp) (name : ByteArray) (l : List Node) (h : l.map nd = z.reverse.map (wd 10) ++ []) (hl : z.length ≤ 30) (hz : ∀ x ∈ z, x.1.size ≤ 50) (hok : ∀ x ∈ z, WpOk x) : WholeC sa z name l := by
  have hb : Begun 10 [] (sentOf sa) := .inr ⟨rfl, rfl⟩
  have hcode := built_code hb _ l h
  have hsnd : (l.map nd).map Prod.snd = z.reverse := by rw [h, List.append_nil, snd_wd]
  refine ⟨hcode, ?_, ?_, ?_, ?_⟩
  · have := congrArg List.length h
    simpa using this
  · rw [atOf_nd, hsnd]
  · rw [textOf, part_nd, hsnd, causeOf, if_pos (by rfl), ← textW]
  · refine fits_nd l _ h (by simp; omega) (fun x hx => ?_)
    rw [List.append_nil] at hx
    obtain ⟨y, hy, rfl⟩ := List.mem_map.1 hx
    have hy' : y ∈ z := by simpa using hy
    have h1 := hz y hy'
    have h2 := hok y hy'
    exact ⟨by simp only [wd]; omega, h2.2.1, h2.2.2, by show (-9223372036854775808 : Int) ≤ 10; decide, by show (10 : Int) ≤ 9223372036854775807; decide⟩
theorem Built.wholeC {sa : Addr} {z : List Wp} {k : Nat} {w : World} {v : Value} (name : ByteArray) (h : Built 10 [] (sentOf sa) z k w v) (hk : k = z.length) (hl : z.length ≤ 30) (hz : ∀ x ∈ z, x.1.size ≤ 50) (hok : ∀ x ∈ z, WpOk x) :
    ∃ l, Chain w (sentOf sa) l v ∧ WholeC sa z name l := by
  obtain ⟨l, h1, h2⟩ := h
  subst hk
  rw [List.take_length] at h2
  exact ⟨l, h1, wholeC_of sa z name l h2 hl hz hok⟩
theorem Built.ifaceC {sa : Addr} {z : List Wp} {k : Nat} {w : World} {v : Value} (h : Built 10 [] (sentOf sa) z k w v) : ∃ t p, v = .iface t p := by
  obtain ⟨l, h1, h2⟩ := h
  rcases l with _ | ⟨n, r⟩
  · exact ⟨_, _, h1⟩
  · exact ⟨_, _, h1.1⟩

set_option maxHeartbeats 8000000 in
theorem closes_walk (a : Option Addr) (len cap : Nat) (z : List Wp) (name : ByteArray) (sa : Addr) (w : World) (hE : Env sa w) (hw : 5 ≤ w.heap.size) (hz : IsWraps w a len cap z) (hname0 : name.size ≤ maxLen) :
    Calls Tryd.prog 4 #[.slice a len cap, .string name] w fun e w' => LawPost w e w' := by
  have hname : name.size ≤ 9223372036854775807 := hname0
  have HE : Hid (∀ {w'}, Fr [] w w' → Env sa w') := fun f => hE.kept0 f
  have HG : Hid (∀ {w'}, Fr [] w w' → 5 ≤ w'.heap.size) := fun f => Nat.le_trans hw f.size
  have HZ : Hid (IsWraps w a len cap z) := hz
  have hlm := hz.2.1
  have HOK : Hid (∀ x ∈ z, WpOk x) := hz.2.2.1
  have HZL : Hid (z.length = len) := hz.1
  clear hE hw hz hname0
  go_enter Tryd.func4, Tryd.ntmps4
  go_wp2_with fail
  refine (small_any a len cap z w HZ.out).mono ?_
  rintro e w1 ⟨r, rfl, f1, hr⟩
  have F1 : Hid (Fr [] w w1) := f1
  have HR : Hid (r = true → len ≤ 30 ∧ ∀ x ∈ z, x.1.size ≤ 50) := hr
  clear f1 hr
  cases r
  · go_wp2_with fail
    refine (awake_any sa _ (HE.out F1.out) (HG.out F1.out)).mono ?_
    rintro e w2 ⟨rfl, f2⟩
    go_wp2_with fail
    go_ret
    exact ⟨rfl, F1.out.trans f2 (by simp)⟩
  · obtain ⟨hl30, hz50⟩ := HR.out rfl
    have HZ50 : Hid (∀ x ∈ z, x.1.size ≤ 50) := hz50
    clear hz50 HR
    by_cases hn : 50 < (name.size : Int)
    · go_wp2_with fail
      refine (awake_any sa _ (HE.out F1.out) (HG.out F1.out)).mono ?_
      rintro e w2 ⟨rfl, f2⟩
      go_wp2_with fail
      go_ret
      exact ⟨rfl, F1.out.trans f2 (by simp)⟩
    · have hnd : decide (50 < (name.size : Int)) = false := decide_eq_false hn
      have hs1 := (HE.out F1.out).sent
      unfold sentOf at hs1
      have B1 : Hid (Built 10 [] (sentOf sa) z 0 w1 (sentOf sa)) := ⟨[], rfl, rfl⟩
      go_wp2_with fail
      go_loopw [5, 24] (fun v i wr => ∃ k : Nat, k ≤ len ∧ i = .int .i64 (k : Int) ∧ Built 10 [] (sentOf sa) z k wr v ∧ Fr [] w wr) (fun _ i _ => len - (intOf i).toNat)
      case atStart => exact ⟨0, by omega, rfl, B1.out, F1.out⟩
      case round =>
        obtain ⟨k, hk, rfl, hb, hf⟩ := hrel
        have HF : Hid (Fr [] w wr) := hf
        have HB : Hid (Built 10 [] (sentOf sa) z k wr u5) := hb
        obtain ⟨tt, pp, rfl⟩ := hb.ifaceC
        clear hf hb hs1
        by_cases hlt : k < len
        · obtain ⟨hzl, -, -, b, off, ha, hcc⟩ := HZ.out.kept HF.out
          obtain rfl := ha (by omega)
          have hkz : k < z.length := by rw [hzl]; exact hlt
          have k0 := (hcc k hkz).1
          have k1 := (hcc k hkz).2
          clear ha hcc hzl
          go_wp2_with fail
          refine (built_step sa z k hkz (.inr ⟨rfl, rfl⟩) _ _ _ (HE.out (HF.out.alloc _)) (.inr rfl) (HB.out.kept ((Fr.refl [] wr).alloc _))).mono ?_
          rintro e w3 ⟨b3, rfl, f3, hb3⟩
          have HB3 : Hid (Built 10 [] (sentOf sa) z (k + 1) w3 (errOf b3)) := hb3
          have HF3 : Hid (Fr [] w w3) := (HF.out.alloc _).trans f3 (by simp)
          clear f3 hb3
          go_wp2_with fail
          go_roundw
          case rel => exact ⟨k + 1, by omega, by go_num, HB3.out, HF3.out⟩
          case measure => simp [intOf]; omega
        · have hkl : k = len := by omega
          obtain ⟨l, hch, hwh⟩ := HB.out.wholeC name (by rw [HZL.out]; exact hkl) (by rw [HZL.out]; exact hl30) HZ50.out HOK.out
          have HC : Hid (∀ {w'}, Fr [] wr w' → Chain w' (sentOf sa) l (.iface tt pp)) := fun f => hch.kept0 f
          have HW : Hid (WholeC sa z name l) := hwh
          have HN : Hid (∀ {w'}, Fr [] wr w' → Fr [] w w') := fun f => HF.out.trans f (by simp)
          have HWr : Hid (∀ {w'}, Fr [] wr w' → IsWraps w' a len cap z) := fun f => (HZ.out.kept HF.out).kept f
          obtain ⟨A, bk, hA, ii, hV, hbi⟩ := atRes_of name l _ hwh.at'
          have HA : Hid (atRes name l = .tuple #[.int .i64 A, .bool bk] ∧ atV (atW name z.reverse) = .tuple #[.int .i64 A, .int .i64 ii] ∧ bk = (ii == 1)) := ⟨hA, hV, hbi⟩
          clear hch hwh hA hV hbi HZ
          have HR0 : Hid (Fr [] wr wr) := Fr.refl _ _
          have hzl30 : Hid (z.length ≤ 30) := by rw [Hid, HZL.out]; exact hl30
          have HRV : Hid (z.reverse.length ≤ 30) := by rw [Hid, List.length_reverse]; exact hzl30.out
          have hbk := HA.out.2.2
          subst hbk
          go_wp2_with fail
          refine (at_chain sa (sentOf sa) l _ name _ (HE.out HF.out) (.inr rfl) (HC.out HR0.out) (HG.out HF.out)).mono ?_
          rintro e w3 ⟨rfl, f3⟩
          have R3 : Hid (Fr [] wr w3) := f3
          clear f3
          rw [HA.out.1]
          go_wp2_with fail
          refine (places_any a len cap z _ (HWr.out R3.out) (by omega)).mono ?_
          rintro e w4 ⟨v4, rfl, p4, f4⟩
          have P4 : Hid (IsPlaces w3.heap.size w4 v4 z.reverse) := p4
          have R4 : Hid (Fr [] wr w4) := R3.out.trans f4 (by simp)
          clear p4 f4
          go_wp2_with fail
          refine (rat_any w3.heap.size v4 z.reverse name _ P4.out (by have := HRV.out; omega)).mono ?_
          rintro e w6 ⟨rfl, hw6⟩
          subst hw6
          rw [HA.out.2.1]
          by_cases h0 : 0 < len
          · have h0i : (0 : Int) < (len : Int) := by omega
            go_wp2_with fail
            refine (text_chain sa (sentOf sa) l _ _ _ (HE.out (HN.out R4.out)) (.inr rfl) (HC.out R4.out) HW.out.fits (HG.out (HN.out R4.out))).mono ?_
            rintro e w10 ⟨rfl, f10⟩
            have R10 : Hid (Fr [] wr w10) := R4.out.trans f10 (by simp)
            clear f10
            rw [HW.out.text]
            go_wp2_with fail
            refine (places_any a len cap z _ (HWr.out R10.out) (by omega)).mono ?_
            rintro e w11 ⟨v11, rfl, p11, f11⟩
            have P11 : Hid (IsPlaces w10.heap.size w11 v11 z.reverse) := p11
            have R11 : Hid (Fr [] wr w11) := R10.out.trans f11 (by simp)
            clear p11 f11
            go_wp2_with fail
            refine (rtext_any w10.heap.size v11 z.reverse closedBytes _ P11.out (by have := HRV.out; omega) (by decide) (fun x hx => ?_)).mono ?_
            · have hx' : x ∈ z := by simpa using hx
              have h1 := HOK.out x hx'
              exact ⟨HZ50.out x hx', h1.2.1, h1.2.2⟩
            rintro e w13 ⟨rfl, f13⟩
            have R13 : Hid (Fr [] wr w13) := R11.out.trans f13 (by simp)
            clear f13
            generalize textW z.reverse closedBytes = T
            go_wp2_with fail
            refine (closed_chain sa (sentOf sa) l _ _ (HE.out (HN.out R13.out)) (.inr rfl) (HC.out R13.out)).mono ?_
            rintro e w20 ⟨rfl, f20⟩
            have R20 : Hid (Fr [] wr w20) := R13.out.trans f20 (by simp)
            clear f20
            rw [show endsB (sentOf sa) = true from rfl]
            go_wp2_with fail
            refine (code_chain sa (sentOf sa) l _ _ (HE.out (HN.out R20.out)) (.inr rfl) (HC.out R20.out)).mono ?_
            rintro e w21 ⟨rfl, f21⟩
            have R21 : Hid (Fr [] wr w21) := R20.out.trans f21 (by simp)
            clear f21
            rw [HW.out.code]
            go_wp2_with fail
            refine (depth_chain sa (sentOf sa) l _ _ (HE.out (HN.out R21.out)) (.inr rfl) (HC.out R21.out) (by rw [HW.out.len]; have := hzl30.out; omega) (HG.out (HN.out R21.out))).mono ?_
            rintro e w22 ⟨rfl, f22⟩
            have R22 : Hid (Fr [] wr w22) := R21.out.trans f22 (by simp)
            clear f22
            rw [HW.out.len, HZL.out]
            go_wp2_with fail
            refine (awake_any sa _ (HE.out (HN.out R22.out)) (HG.out (HN.out R22.out))).mono ?_
            rintro e w23 ⟨rfl, f23⟩
            go_wp2_with fail
            go_ret
            exact ⟨rfl, (HN.out R22.out).trans f23 (by simp)⟩
          · have h0i : decide ((0 : Int) < (len : Int)) = false := decide_eq_false (by omega)
            go_wp2_with fail
            refine (closed_chain sa (sentOf sa) l _ _ (HE.out (HN.out R4.out)) (.inr rfl) (HC.out R4.out)).mono ?_
            rintro e w20 ⟨rfl, f20⟩
            have R20 : Hid (Fr [] wr w20) := R4.out.trans f20 (by simp)
            clear f20
            rw [show endsB (sentOf sa) = true from rfl]
            go_wp2_with fail
            refine (code_chain sa (sentOf sa) l _ _ (HE.out (HN.out R20.out)) (.inr rfl) (HC.out R20.out)).mono ?_
            rintro e w21 ⟨rfl, f21⟩
            have R21 : Hid (Fr [] wr w21) := R20.out.trans f21 (by simp)
            clear f21
            rw [HW.out.code]
            go_wp2_with fail
            refine (depth_chain sa (sentOf sa) l _ _ (HE.out (HN.out R21.out)) (.inr rfl) (HC.out R21.out) (by rw [HW.out.len]; have := hzl30.out; omega) (HG.out (HN.out R21.out))).mono ?_
            rintro e w22 ⟨rfl, f22⟩
            have R22 : Hid (Fr [] wr w22) := R21.out.trans f22 (by simp)
            clear f22
            rw [HW.out.len, HZL.out]
            go_wp2_with fail
            refine (awake_any sa _ (HE.out (HN.out R22.out)) (HG.out (HN.out R22.out))).mono ?_
            rintro e w23 ⟨rfl, f23⟩
            go_wp2_with fail
            go_ret
            exact ⟨rfl, (HN.out R22.out).trans f23 (by simp)⟩
end Go.Proofs.YtobhpachigagkaaDoor
