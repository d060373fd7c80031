/-
  FailWraps' walk where the code is one.
-/
import Derived.Test.YtobhpachigagkaaDoorWrapsWalk
namespace Go.Proofs.YtobhpachigagkaaDoor
open Go.RowKit Go.Extern.Stop Go.Stop Go.Extern Mem
set_option linter.unusedSimpArgs false
set_option linter.unusedVariables false
set_option maxRecDepth 100000

/-- The innermost error's place. -/
def noPlace : Wp := (ByteArray.empty, 0)
theorem partW_noPlace : partW noPlace = [] := by
  have h : (ByteArray.empty.toList == ([] : List UInt8)) = true := by decide +kernel
  rw [partW]
  exact if_pos h
theorem textW_noPlace (y : List Wp) (s : List UInt8) : textW (y ++ [noPlace]) s = textW y s := by
  rw [textW, List.map_append, List.flatten_append, List.map_cons, partW_noPlace]; simp [textW]

/-- The base of an error of New's. -/
def newBase (c : Int) : List (Int × ByteArray × Int) := [(c, ByteArray.empty, 0)]

/-- All that is to be known of the chain, once it is built. -/
structure Whole (c : Int) (z : List Wp) (name : ByteArray) (l : List Node) : Prop where
  code : codeOf .nilIface l = c
  len : l.length = z.length + 1
  at' : atOf name l = atW name (z.reverse ++ [noPlace])
  text : textOf .nilIface l = textW z.reverse (Lib.itoa c)
  fits : Fits l
theorem whole_of (c : Int) (z : List Wp) (name : ByteArray) (l : List Node) (h : l.map nd = z.reverse.map (wd c) ++ newBase c) (hl : z.length ≤ 30) (hz : ∀ x ∈ z, x.1.size ≤ 50) (hok : ∀ x ∈ z, WpOk x) (c0 : -9223372036854775808 ≤ c) (c1 : c ≤ 9223372036854775807) : Whole c z name l := by
  have hb : Begun c (newBase c) .nilIface := .inl ⟨_, _, [], rfl⟩
  have hcode := built_code hb _ l h
  have hsnd : (l.map nd).map Prod.snd = z.reverse ++ [noPlace] := by rw [h, List.map_append, snd_wd]; rfl
  refine ⟨hcode, ?_, ?_, ?_, ?_⟩
  · have := congrArg List.length h
    simpa [newBase] using this
  · rw [atOf_nd, hsnd]
  · rw [textOf, part_nd, hsnd, causeOf, if_neg (by simp [endsB]), hcode, ← textW, textW_noPlace]
  · refine fits_nd l _ h (by simp [newBase]; omega) (fun x hx => ?_)
    rcases List.mem_append.1 hx with h' | h'
    · obtain ⟨y, hy, rfl⟩ := List.mem_map.1 h'
      have hy' : y ∈ z := by simpa using hy
      have h1 := hz y hy'
      have h2 := hok y hy'
      exact ⟨by simp only [wd]; omega, h2.2.1, h2.2.2, c0, c1⟩
    · have : x = (c, ByteArray.empty, 0) := by simpa [newBase] using h'
      subst this
      exact ⟨Nat.zero_le _, by show (-9223372036854775808 : Int) ≤ 0; decide, by show (0 : Int) ≤ 9223372036854775807; decide, c0, c1⟩

theorem Built.whole {c : Int} {z : List Wp} {k : Nat} {w : World} {v : Value} (name : ByteArray) (h : Built c (newBase c) .nilIface z k w v) (hk : k = z.length) (hl : z.length ≤ 30) (hz : ∀ x ∈ z, x.1.size ≤ 50) (hok : ∀ x ∈ z, WpOk x) (c0 : -9223372036854775808 ≤ c) (c1 : c ≤ 9223372036854775807) :
    ∃ l, Chain w .nilIface l v ∧ Whole c z name l := by
  obtain ⟨l, h1, h2⟩ := h
  subst hk
  rw [List.take_length] at h2
  exact ⟨l, h1, whole_of c z name l h2 hl hz hok c0 c1⟩
theorem Built.iface {c : Int} {z : List Wp} {k : Nat} {w : World} {v : Value} (h : Built c (newBase c) .nilIface z k w v) : ∃ b, v = errOf b := by
  obtain ⟨l, h1, h2⟩ := h
  rcases l with _ | ⟨n, r⟩
  · simp [newBase] at h2
  · exact ⟨n.b, h1.1⟩

theorem atRes_of (name : ByteArray) (l : List Node) (o : Option Int) (h : atOf name l = o) : ∃ A b, atRes name l = .tuple #[.int .i64 A, .bool b] ∧ ∃ i, atV o = .tuple #[.int .i64 A, .int .i64 i] ∧ b = (i == 1) := by
  subst h
  unfold atRes
  cases atOf name l with
  | none => exact ⟨0, false, rfl, 0, rfl, rfl⟩
  | some a => exact ⟨a, true, rfl, 1, rfl, rfl⟩

set_option maxHeartbeats 8000000 in
theorem wraps_more (c : Int) (a : Option Addr) (len cap : Nat) (z : List Wp) (name : ByteArray) (sa : Addr) (w : World) (hE : Env sa w) (hw : 5 ≤ w.heap.size) (hz : IsWraps w a len cap z) (hname : name.size ≤ 9223372036854775807)
    (hc : c ≠ 0) (c0 : -9223372036854775808 ≤ c) (c1 : c ≤ 9223372036854775807) :
    Calls Tryd.prog 3 #[.int .i64 c, .slice a len cap, .string name] w fun e w' => LawPost w e w' := by
  have HE : Hid (∀ {w'}, Fr [] w w' → Env sa w') := fun f => hE.kept0 f
  have HG : Hid (∀ {w'}, Fr [] w w' → 5 ≤ w'.heap.size) := fun f => Nat.le_trans hw f.size
  have HZ : Hid (IsWraps w a len cap z) := hz
  have hlm := hz.2.1
  have HOK : Hid (∀ x ∈ z, WpOk x) := hz.2.2.1
  have HZL : Hid (z.length = len) := hz.1
  have hcb : (c == 0) = false := by simpa using hc
  clear hE hw hz
  go_enter Tryd.func3, Tryd.ntmps3
  go_wp2_with fail
  refine (small_any a len cap z w HZ.out).mono ?_
  rintro e w1 ⟨r, rfl, f1, hr⟩
  have F1 : Hid (Fr [] w w1) := f1
  have HR : Hid (r = true → len ≤ 30 ∧ ∀ x ∈ z, x.1.size ≤ 50) := hr
  clear f1 hr
  cases r
  · go_wp2_with fail
    refine (awake_any sa _ (HE.out F1.out) (HG.out F1.out)).mono ?_
    rintro e w2 ⟨rfl, f2⟩
    go_wp2_with fail
    go_ret
    exact ⟨rfl, F1.out.trans f2 (by simp)⟩
  · obtain ⟨hl30, hz50⟩ := HR.out rfl
    have HZ50 : Hid (∀ x ∈ z, x.1.size ≤ 50) := hz50
    clear hz50 HR
    by_cases hn : 50 < (name.size : Int)
    · go_wp2_with fail
      refine (awake_any sa _ (HE.out F1.out) (HG.out F1.out)).mono ?_
      rintro e w2 ⟨rfl, f2⟩
      go_wp2_with fail
      go_ret
      exact ⟨rfl, F1.out.trans f2 (by simp)⟩
    · have hnd : decide (50 < (name.size : Int)) = false := decide_eq_false hn
      go_wp2_with fail
      refine (new_code c _ hc).mono ?_
      rintro e w2 ⟨rfl, hw2⟩
      have F2 : Hid (Fr [] w w2) := by rw [Hid, hw2]; exact F1.out.alloc _
      have B2 : Hid (Built c (newBase c) .nilIface z 0 w2 (errOf w1.heap.size)) := by
        rw [Hid, hw2]
        exact ⟨_, new_chain c w1, rfl⟩
      clear hw2
      go_wp2_with fail
      go_loopw [7, 27] (fun v i wr => ∃ k : Nat, k ≤ len ∧ i = .int .i64 (k : Int) ∧ Built c (newBase c) .nilIface z k wr v ∧ Fr [] w wr) (fun _ i _ => len - (intOf i).toNat)
      case atStart => exact ⟨0, by omega, rfl, B2.out, F2.out⟩
      case round =>
        obtain ⟨k, hk, rfl, hb, hf⟩ := hrel
        have HF : Hid (Fr [] w wr) := hf
        have HB : Hid (Built c (newBase c) .nilIface z k wr u7) := hb
        obtain ⟨bb, rfl⟩ := hb.iface
        clear hf hb
        unfold errOf
        by_cases hlt : k < len
        · obtain ⟨hzl, -, -, b, off, ha, hcc⟩ := HZ.out.kept HF.out
          obtain rfl := ha (by omega)
          have hkz : k < z.length := by rw [hzl]; exact hlt
          have k0 := (hcc k hkz).1
          have k1 := (hcc k hkz).2
          clear ha hcc hzl
          go_wp2_with fail
          refine (built_step sa z k hkz (.inl ⟨_, _, [], rfl⟩) _ _ _ (HE.out (HF.out.alloc _)) (.inl rfl) (HB.out.kept ((Fr.refl [] wr).alloc _))).mono ?_
          rintro e w3 ⟨b3, rfl, f3, hb3⟩
          have HB3 : Hid (Built c (newBase c) .nilIface z (k + 1) w3 (errOf b3)) := hb3
          have HF3 : Hid (Fr [] w w3) := (HF.out.alloc _).trans f3 (by simp)
          clear f3 hb3
          go_wp2_with fail
          go_roundw
          case rel => exact ⟨k + 1, by omega, by go_num, HB3.out, HF3.out⟩
          case measure => simp [intOf]; omega
        · have hkl : k = len := by omega
          obtain ⟨l, hch, hwh⟩ := HB.out.whole name (by rw [HZL.out]; exact hkl) (by rw [HZL.out]; exact hl30) HZ50.out HOK.out c0 c1
          have HC : Hid (∀ {w'}, Fr [] wr w' → Chain w' .nilIface l (errOf bb)) := fun f => hch.kept0 f
          have HW : Hid (Whole c z name l) := hwh
          have HN : Hid (∀ {w'}, Fr [] wr w' → Fr [] w w') := fun f => HF.out.trans f (by simp)
          have HWr : Hid (∀ {w'}, Fr [] wr w' → IsWraps w' a len cap z) := fun f => (HZ.out.kept HF.out).kept f
          obtain ⟨A, bk, hA, ii, hV, hbi⟩ := atRes_of name l _ hwh.at'
          have HA : Hid (atRes name l = .tuple #[.int .i64 A, .bool bk] ∧ atV (atW name (z.reverse ++ [noPlace])) = .tuple #[.int .i64 A, .int .i64 ii] ∧ bk = (ii == 1)) := ⟨hA, hV, hbi⟩
          clear hch hwh hA hV hbi HZ
          have R0 : Fr [] wr wr := Fr.refl _ _
          have HR0 : Hid (Fr [] wr wr) := R0
          clear R0
          have hzl30 : Hid (z.length ≤ 30) := by rw [Hid, HZL.out]; exact hl30
          go_wp2_with fail
          refine (at_chain sa .nilIface l _ name _ (HE.out HF.out) (.inl rfl) (HC.out HR0.out) (HG.out HF.out)).mono ?_
          rintro e w3 ⟨rfl, f3⟩
          have R3 : Hid (Fr [] wr w3) := f3
          clear f3
          rw [HA.out.1]
          go_wp2_with fail
          refine (places_any a len cap z _ (HWr.out R3.out) (by omega)).mono ?_
          rintro e w4 ⟨v4, rfl, p4, f4⟩
          have P4 : Hid (IsPlaces w3.heap.size w4 v4 z.reverse) := p4
          have R4 : Hid (Fr [] wr w4) := R3.out.trans f4 (by simp)
          have Z3 : Hid (wr.heap.size ≤ w3.heap.size ∧ w3.heap.size ≤ w4.heap.size) := ⟨R3.out.size, f4.size⟩
          have HRV : Hid (z.reverse.length ≤ 30) := by rw [Hid, List.length_reverse]; exact hzl30.out
          clear p4 f4
          obtain ⟨i0, hi, hz0, hz1, hz2⟩ := info_place
          have HI : Hid (Tryd.prog.info? 41 = some i0 ∧ i0.zero = some (.agg #[.string ByteArray.empty, .int .i64 0]) ∧ i0.size = 2 ∧ i0.bytes = 24) := ⟨hi, hz0, hz1, hz2⟩
          clear hi hz0 hz1 hz2
          have hbk := HA.out.2.2
          subst hbk
          rcases P4.out with ⟨hy, rfl⟩ | ⟨g, hg, hy, hrow⟩
          · have HY : Hid (z.reverse = []) := hy
            clear hy
            go_wp2_with (at_builtin; refine wpList_append_new _ rfl _ _ 38 rfl 41 i0 (.agg #[.string ByteArray.empty, .int .i64 0]) 2 24 Tryd.underlying38 HI.out.1 HI.out.2.1 HI.out.2.2.1 HI.out.2.2.2 rfl rfl ⟨w4.heap.size, 0, none⟩ 1 1 [.string ByteArray.empty, .int .i64 0] rfl rfl ?c1 ?c2 ?c3 ?c4 ?_)
            case c1 =>
              intro i u hu
              match i, hu with
              | 0, hu => simp at hu; subst hu; simp [Addr.add]; rfl
              | 1, hu => simp at hu; subst hu; simp [Addr.add]
            case c2 => decide
            case c3 => decide
            case c4 => decide
            intro v5 w5 hrow hfr
            have P5 : Hid (IsPlaces wr.heap.size w5 v5 (z.reverse ++ [noPlace])) := by
              rw [Hid, HY.out]
              refine .inr ⟨_, ?_, by simp, hrow⟩
              have := Z3.out
              simp
              omega
            have R5 : Hid (Fr [] wr w5) := (R4.out.alloc _).trans hfr (by simp)
            clear hrow hfr
            clear HY HI P4 R4 Z3
            go_wp2_with fail
            refine (rat_any wr.heap.size v5 (z.reverse ++ [noPlace]) name _ P5.out (by rw [List.length_append]; have := HRV.out; simp only [List.length_cons, List.length_nil]; omega)).mono ?_
            rintro e w6 ⟨rfl, hw6⟩
            subst hw6
            rw [HA.out.2.1]
            go_wp2_with fail
            refine (code_chain sa .nilIface l _ _ (HE.out (HN.out R5.out)) (.inl rfl) (HC.out R5.out)).mono ?_
            rintro e w7 ⟨rfl, f7⟩
            have R7 : Hid (Fr [] wr w7) := R5.out.trans f7 (by simp)
            clear f7
            rw [HW.out.code]
            go_wp2_with fail
            refine (depth_chain sa .nilIface l _ _ (HE.out (HN.out R7.out)) (.inl rfl) (HC.out R7.out) (by rw [HW.out.len]; have := hzl30.out; omega) (HG.out (HN.out R7.out))).mono ?_
            rintro e w8 ⟨rfl, f8⟩
            have R8 : Hid (Fr [] wr w8) := R7.out.trans f8 (by simp)
            clear f8
            rw [HW.out.len, HZL.out, show ((len + 1 : Nat) : Int) = (len : Int) + 1 from by omega]
            go_wp2_with fail
            refine (closed_chain sa .nilIface l _ _ (HE.out (HN.out R8.out)) (.inl rfl) (HC.out R8.out)).mono ?_
            rintro e w9 ⟨rfl, f9⟩
            have R9 : Hid (Fr [] wr w9) := R8.out.trans f9 (by simp)
            clear f9
            rw [show endsB Value.nilIface = false from rfl]
            go_wp2_with fail
            refine (text_chain sa .nilIface l _ _ _ (HE.out (HN.out R9.out)) (.inl rfl) (HC.out R9.out) HW.out.fits (HG.out (HN.out R9.out))).mono ?_
            rintro e w10 ⟨rfl, f10⟩
            have R10 : Hid (Fr [] wr w10) := R9.out.trans f10 (by simp)
            clear f10
            rw [HW.out.text]
            go_wp2_with fail
            refine (places_any a len cap z _ (HWr.out R10.out) (by omega)).mono ?_
            rintro e w11 ⟨v11, rfl, p11, f11⟩
            have P11 : Hid (IsPlaces w10.heap.size w11 v11 z.reverse) := p11
            have R11 : Hid (Fr [] wr w11) := R10.out.trans f11 (by simp)
            clear p11 f11
            go_wp2_with fail
            refine (digits_any c c0 c1 _).mono ?_
            rintro e w12 ⟨rfl, f12⟩
            have P12 : Hid (IsPlaces w10.heap.size w12 v11 z.reverse) := P11.out.kept f12
            have R12 : Hid (Fr [] wr w12) := R11.out.trans f12 (by simp)
            clear f12
            go_wp2_with fail
            refine (rtext_any w10.heap.size v11 z.reverse (Lib.itoa c) _ P12.out (by have := HRV.out; omega) (by have := itoa_len c c0 c1; omega) (fun x hx => ?_)).mono ?_
            · have hx' : x ∈ z := by simpa using hx
              have h1 := HOK.out x hx'
              exact ⟨HZ50.out x hx', h1.2.1, h1.2.2⟩
            rintro e w13 ⟨rfl, f13⟩
            have R13 : Hid (Fr [] wr w13) := R12.out.trans f13 (by simp)
            clear f13
            generalize textW z.reverse (Lib.itoa c) = T
            go_wp2_with fail
            refine (awake_any sa _ (HE.out (HN.out R13.out)) (HG.out (HN.out R13.out))).mono ?_
            rintro e w14 ⟨rfl, f14⟩
            go_wp2_with fail
            go_ret
            exact ⟨rfl, (HN.out R13.out).trans f14 (by simp)⟩
          · have HY : Hid (Row w4 41 2 v4 g z.reverse.length (plCells z.reverse)) := hrow
            have HGE : Hid (w3.heap.size ≤ g) := hg
            clear hrow hg hy
            go_wp2_with (at_builtin; refine wpList_append_row _ rfl _ _ 38 rfl 41 i0 (.agg #[.string ByteArray.empty, .int .i64 0]) 2 24 Tryd.underlying38 HI.out.1 HI.out.2.1 HI.out.2.2.1 HI.out.2.2.2 rfl v4 g z.reverse.length (plCells z.reverse) rfl (HY.out.kept ((Fr.refl [] w4).alloc _) (by simp)) ⟨w4.heap.size, 0, none⟩ 1 1 [.string ByteArray.empty, .int .i64 0] rfl rfl ?c1 ?c2 ?c3 ?c4 ?_)
            case c1 =>
              intro i u hu
              match i, hu with
              | 0, hu => simp at hu; subst hu; simp [Addr.add]; rfl
              | 1, hu => simp at hu; subst hu; simp [Addr.add]
            case c2 => intro u hu; simp at hu; rcases hu with rfl | rfl <;> rfl
            case c3 => have := HRV.out; unfold maxLen; omega
            case c4 => have := HRV.out; omega
            intro v5 g5 w5 hrow hgg hfr
            have P5 : Hid (IsPlaces wr.heap.size w5 v5 (z.reverse ++ [noPlace])) := by
              have h3 := Z3.out
              have h4 := HGE.out
              refine .inr ⟨g5, ?_, by simp, ?_⟩
              · rcases hgg.out with h | h
                · rw [h]; omega
                · have : g5 = w4.heap.size + 1 := by simpa using h
                  omega
              · rw [plCells_append, List.length_append, List.length_reverse]; exact hrow
            have R5 : Hid (Fr [] wr w5) := (R4.out.alloc _).trans hfr (by
              have h3 := Z3.out
              have h4 := HGE.out
              simp
              omega)
            clear hrow hfr hgg
            clear HY HI P4 R4 Z3
            go_wp2_with fail
            refine (rat_any wr.heap.size v5 (z.reverse ++ [noPlace]) name _ P5.out (by rw [List.length_append]; have := HRV.out; simp only [List.length_cons, List.length_nil]; omega)).mono ?_
            rintro e w6 ⟨rfl, hw6⟩
            subst hw6
            rw [HA.out.2.1]
            go_wp2_with fail
            refine (code_chain sa .nilIface l _ _ (HE.out (HN.out R5.out)) (.inl rfl) (HC.out R5.out)).mono ?_
            rintro e w7 ⟨rfl, f7⟩
            have R7 : Hid (Fr [] wr w7) := R5.out.trans f7 (by simp)
            clear f7
            rw [HW.out.code]
            go_wp2_with fail
            refine (depth_chain sa .nilIface l _ _ (HE.out (HN.out R7.out)) (.inl rfl) (HC.out R7.out) (by rw [HW.out.len]; have := hzl30.out; omega) (HG.out (HN.out R7.out))).mono ?_
            rintro e w8 ⟨rfl, f8⟩
            have R8 : Hid (Fr [] wr w8) := R7.out.trans f8 (by simp)
            clear f8
            rw [HW.out.len, HZL.out, show ((len + 1 : Nat) : Int) = (len : Int) + 1 from by omega]
            go_wp2_with fail
            refine (closed_chain sa .nilIface l _ _ (HE.out (HN.out R8.out)) (.inl rfl) (HC.out R8.out)).mono ?_
            rintro e w9 ⟨rfl, f9⟩
            have R9 : Hid (Fr [] wr w9) := R8.out.trans f9 (by simp)
            clear f9
            rw [show endsB Value.nilIface = false from rfl]
            go_wp2_with fail
            refine (text_chain sa .nilIface l _ _ _ (HE.out (HN.out R9.out)) (.inl rfl) (HC.out R9.out) HW.out.fits (HG.out (HN.out R9.out))).mono ?_
            rintro e w10 ⟨rfl, f10⟩
            have R10 : Hid (Fr [] wr w10) := R9.out.trans f10 (by simp)
            clear f10
            rw [HW.out.text]
            go_wp2_with fail
            refine (places_any a len cap z _ (HWr.out R10.out) (by omega)).mono ?_
            rintro e w11 ⟨v11, rfl, p11, f11⟩
            have P11 : Hid (IsPlaces w10.heap.size w11 v11 z.reverse) := p11
            have R11 : Hid (Fr [] wr w11) := R10.out.trans f11 (by simp)
            clear p11 f11
            go_wp2_with fail
            refine (digits_any c c0 c1 _).mono ?_
            rintro e w12 ⟨rfl, f12⟩
            have P12 : Hid (IsPlaces w10.heap.size w12 v11 z.reverse) := P11.out.kept f12
            have R12 : Hid (Fr [] wr w12) := R11.out.trans f12 (by simp)
            clear f12
            go_wp2_with fail
            refine (rtext_any w10.heap.size v11 z.reverse (Lib.itoa c) _ P12.out (by have := HRV.out; omega) (by have := itoa_len c c0 c1; omega) (fun x hx => ?_)).mono ?_
            · have hx' : x ∈ z := by simpa using hx
              have h1 := HOK.out x hx'
              exact ⟨HZ50.out x hx', h1.2.1, h1.2.2⟩
            rintro e w13 ⟨rfl, f13⟩
            have R13 : Hid (Fr [] wr w13) := R12.out.trans f13 (by simp)
            clear f13
            generalize textW z.reverse (Lib.itoa c) = T
            go_wp2_with fail
            refine (awake_any sa _ (HE.out (HN.out R13.out)) (HG.out (HN.out R13.out))).mono ?_
            rintro e w14 ⟨rfl, f14⟩
            go_wp2_with fail
            go_ret
            exact ⟨rfl, (HN.out R13.out).trans f14 (by simp)⟩

theorem i64_of {x : Int} (h : (Lit.int .i64 x).wf = true) : -9223372036854775808 ≤ x ∧ x ≤ 9223372036854775807 := by
  simp [Lit.wf, IntKind.min, IntKind.max, IntKind.bits, IntKind.signed] at h
  omega

/-- FailWraps, whatever the input. -/
theorem wraps_law (c : Int) (a : Option Addr) (len cap : Nat) (z : List Wp) (name : ByteArray) (sa : Addr) (w : World) (hE : Env sa w) (hw : 5 ≤ w.heap.size) (hc : (Lit.int .i64 c).wf = true) (hz : IsWraps w a len cap z) (hname : name.size ≤ maxLen) :
    Calls Tryd.prog 3 #[.int .i64 c, .slice a len cap, .string name] w fun e w' => LawPost w e w' := by
  unfold maxLen at hname
  by_cases h : c = 0
  · subst h; exact wraps_zero a len cap z name sa w hE hw hz hname
  · exact wraps_more c a len cap z name sa w hE hw hz hname h (i64_of hc).1 (i64_of hc).2
end Go.Proofs.YtobhpachigagkaaDoor
