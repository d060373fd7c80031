/-
  The walk of tidepolelaw14.HeadChecks: it returns true, whatever it is given, and writes nothing that was there.
-/
import Derived.Test.YtkphonepblkcdaaGreatDoorLawC14
import Derived.Test.YtkphonepblkcdaaGreatDoorLaw14
import Derived.Test.YtkphonepblkcdaaGreatDoorLaid14
import Derived.Test.YtkphonepblkcdaaGreatDoorArgs14
namespace Go.Proofs.YtkphonepblkcdaaGreatDoor
open Go.RowKit Mem Spans Thrs
set_option linter.unusedSimpArgs false
set_option linter.unusedVariables false
set_option maxRecDepth 100000

def noSa : Addr := ⟨0, 0, none⟩
theorem LaidW.env {W : World} (h : LaidW W) : Env noSa W := ⟨h.1⟩
theorem LaidW.aw {W : World} (h : LaidW W) : ∀ wx, Fr [] W wx → Calls Tryz.prog 7 #[] wx fun e w' => e = .returned (.bool true) ∧ Fr [] W w' := by
  intro wx f
  refine (awake14_any noSa wx (h.env.kept0 f) (h.2.1.kept f (by simp)) (Nat.le_trans h.2.2 f.size)).mono ?_
  rintro e w' ⟨rfl, h2⟩
  exact ⟨rfl, f.trans h2 (by simp)⟩

set_option maxHeartbeats 8000000 in
theorem hchecks_walk (x y : Value) (a b : Hd) (w : World) (hL : LaidW w) (ha : HdSrc w x a) (hb : HdSrc w y b) :
    Calls Tryz.prog 3 #[x, y] w fun e w' => e = .returned (.bool true) ∧ Fr [] w w' := by
  have HSA : Hid (∀ W, Fr [] w W → HdSrc W x a) := fun W f => ha.kept f
  have HSB : Hid (∀ W, Fr [] w W → HdSrc W y b) := fun W f => hb.kept f
  have HAW : Hid (∀ wx, Fr [] w wx → Calls Tryz.prog 7 #[] wx fun e w' => e = .returned (.bool true) ∧ Fr [] w w') := hL.aw
  have HEN : Hid (∀ W, Fr [] w W → Env noSa W) := fun W f => hL.env.kept0 f
  have HGL : Hid (2 ≤ w.heap.size) := hL.2.2
  obtain ⟨po, pc, no, nc, rfl, _, hp1, hn1⟩ := ha
  obtain ⟨qo, qc, mo, mc, rfl, _, hp2, hn2⟩ := hb
  have HS1 : Hid (∀ W, Fr [] w W → SSrc W (.slice po a.P.length pc) a.P) := fun W f => hp1.kept f
  have HS2 : Hid (∀ W, Fr [] w W → SSrc W (.slice no a.N.length nc) a.N) := fun W f => hn1.kept f
  have HS3 : Hid (∀ W, Fr [] w W → SSrc W (.slice qo b.P.length qc) b.P) := fun W f => hp2.kept f
  have HS4 : Hid (∀ W, Fr [] w W → SSrc W (.slice mo b.N.length mc) b.N) := fun W f => hn2.kept f
  clear hp1 hn1 hp2 hn2 hL
  go_enter Tryz.func3, Tryz.ntmps3
  have HC0 : Hid (Six' 25 ((w.alloc (.cells #[.int .i64 a.v, .int .i64 a.h, .int .i64 a.s, .int .u64 (a.z : Int), .slice po a.P.length pc, .slice no a.N.length nc] 25)).alloc (.cells #[.int .i64 b.v, .int .i64 b.h, .int .i64 b.s, .int .u64 (b.z : Int), .slice qo b.P.length qc, .slice mo b.N.length mc] 25)) w.heap.size #[.int .i64 a.v, .int .i64 a.h, .int .i64 a.s, .int .u64 (a.z : Int), .slice po a.P.length pc, .slice no a.N.length nc] ∧ Six' 25 ((w.alloc (.cells #[.int .i64 a.v, .int .i64 a.h, .int .i64 a.s, .int .u64 (a.z : Int), .slice po a.P.length pc, .slice no a.N.length nc] 25)).alloc (.cells #[.int .i64 b.v, .int .i64 b.h, .int .i64 b.s, .int .u64 (b.z : Int), .slice qo b.P.length qc, .slice mo b.N.length mc] 25)) (w.heap.size + 1) #[.int .i64 b.v, .int .i64 b.h, .int .i64 b.s, .int .u64 (b.z : Int), .slice qo b.P.length qc, .slice mo b.N.length mc]) := two_at _ _ _ _
  have HF0 : Hid (Fr [] w ((w.alloc (.cells #[.int .i64 a.v, .int .i64 a.h, .int .i64 a.s, .int .u64 (a.z : Int), .slice po a.P.length pc, .slice no a.N.length nc] 25)).alloc (.cells #[.int .i64 b.v, .int .i64 b.h, .int .i64 b.s, .int .u64 (b.z : Int), .slice qo b.P.length qc, .slice mo b.N.length mc] 25))) := ((Fr.refl _ _).alloc _).alloc _
  go_upto_region 1 with fail
  generalize ((w.alloc (.cells #[.int .i64 a.v, .int .i64 a.h, .int .i64 a.s, .int .u64 (a.z : Int), .slice po a.P.length pc, .slice no a.N.length nc] 25)).alloc (.cells #[.int .i64 b.v, .int .i64 b.h, .int .i64 b.s, .int .u64 (b.z : Int), .slice qo b.P.length qc, .slice mo b.N.length mc] 25)) = w1 at *
  have HL : Hid (∀ W, Fr [] w1 W → W.cell? ⟨w.heap.size, 0, none⟩ = some (.int .i64 a.v) ∧ W.cell? ⟨w.heap.size, 1, none⟩ = some (.int .i64 a.h) ∧ W.cell? ⟨w.heap.size, 2, none⟩ = some (.int .i64 a.s) ∧ W.cell? ⟨w.heap.size, 3, none⟩ = some (.int .u64 (a.z : Int)) ∧ W.cell? ⟨w.heap.size, 4, none⟩ = some (.slice po a.P.length pc) ∧ W.cell? ⟨w.heap.size, 5, none⟩ = some (.slice no a.N.length nc) ∧ W.cell? ⟨w.heap.size + 1, 0, none⟩ = some (.int .i64 b.v) ∧ W.cell? ⟨w.heap.size + 1, 1, none⟩ = some (.int .i64 b.h) ∧ W.cell? ⟨w.heap.size + 1, 2, none⟩ = some (.int .i64 b.s) ∧ W.cell? ⟨w.heap.size + 1, 3, none⟩ = some (.int .u64 (b.z : Int)) ∧ W.cell? ⟨w.heap.size + 1, 4, none⟩ = some (.slice qo b.P.length qc) ∧ W.cell? ⟨w.heap.size + 1, 5, none⟩ = some (.slice mo b.N.length mc)) := fun W f => ⟨f.cell_some (HC0.out.1.cell 0 rfl) List.not_mem_nil, f.cell_some (HC0.out.1.cell 1 rfl) List.not_mem_nil, f.cell_some (HC0.out.1.cell 2 rfl) List.not_mem_nil, f.cell_some (HC0.out.1.cell 3 rfl) List.not_mem_nil, f.cell_some (HC0.out.1.cell 4 rfl) List.not_mem_nil, f.cell_some (HC0.out.1.cell 5 rfl) List.not_mem_nil, f.cell_some (HC0.out.2.cell 0 rfl) List.not_mem_nil, f.cell_some (HC0.out.2.cell 1 rfl) List.not_mem_nil, f.cell_some (HC0.out.2.cell 2 rfl) List.not_mem_nil, f.cell_some (HC0.out.2.cell 3 rfl) List.not_mem_nil, f.cell_some (HC0.out.2.cell 4 rfl) List.not_mem_nil, f.cell_some (HC0.out.2.cell 5 rfl) List.not_mem_nil⟩
  clear HC0
  have HG1 : Hid (Fr [] w1 w1) := Fr.refl _ _
  obtain ⟨x0, x1, x2, x3, x4, x5, y0, y1, y2, y3, y4, y5⟩ := HL.out w1 HG1.out
  go_wp2_with fail
  refine (few14_any _ a.P w1 (HS1.out _ (HF0.out.trans HG1.out (by simp)))).mono ?_
  rintro e w2 ⟨r, rfl, hr, hf⟩
  have HG2 : Hid (Fr [] w1 w2) := HG1.out.trans hf (by simp)
  have HR2 : Hid (r = true → a.P.length ≤ 400) := hr
  clear hf hr x0 x1 x2 x3 x4 x5 y0 y1 y2 y3 y4 y5
  cases r with
  | false =>
    go_wp2_with fail
    refine (HAW.out _ (HF0.out.trans HG2.out (by simp))).mono ?_
    rintro e w' ⟨rfl, hf⟩
    go_wp2
    go_ret
    exact ⟨rfl, hf⟩
  | true =>
    have HQ2 : Hid (a.P.length ≤ 400) := HR2.out rfl
    clear HR2
    obtain ⟨x0, x1, x2, x3, x4, x5, y0, y1, y2, y3, y4, y5⟩ := HL.out w2 HG2.out
    go_wp2_with fail
    refine (few14_any _ a.N w2 (HS2.out _ (HF0.out.trans HG2.out (by simp)))).mono ?_
    rintro e w3 ⟨r, rfl, hr, hf⟩
    have HG3 : Hid (Fr [] w1 w3) := HG2.out.trans hf (by simp)
    have HR3 : Hid (r = true → a.N.length ≤ 400) := hr
    clear hf hr x0 x1 x2 x3 x4 x5 y0 y1 y2 y3 y4 y5
    cases r with
    | false =>
      go_wp2_with fail
      refine (HAW.out _ (HF0.out.trans HG3.out (by simp))).mono ?_
      rintro e w' ⟨rfl, hf⟩
      go_wp2
      go_ret
      exact ⟨rfl, hf⟩
    | true =>
      have HQ3 : Hid (a.N.length ≤ 400) := HR3.out rfl
      clear HR3
      obtain ⟨x0, x1, x2, x3, x4, x5, y0, y1, y2, y3, y4, y5⟩ := HL.out w3 HG3.out
      go_wp2_with fail
      refine (few14_any _ b.P w3 (HS3.out _ (HF0.out.trans HG3.out (by simp)))).mono ?_
      rintro e w4 ⟨r, rfl, hr, hf⟩
      have HG4 : Hid (Fr [] w1 w4) := HG3.out.trans hf (by simp)
      have HR4 : Hid (r = true → b.P.length ≤ 400) := hr
      clear hf hr x0 x1 x2 x3 x4 x5 y0 y1 y2 y3 y4 y5
      cases r with
      | false =>
        go_wp2_with fail
        refine (HAW.out _ (HF0.out.trans HG4.out (by simp))).mono ?_
        rintro e w' ⟨rfl, hf⟩
        go_wp2
        go_ret
        exact ⟨rfl, hf⟩
      | true =>
        have HQ4 : Hid (b.P.length ≤ 400) := HR4.out rfl
        clear HR4
        obtain ⟨x0, x1, x2, x3, x4, x5, y0, y1, y2, y3, y4, y5⟩ := HL.out w4 HG4.out
        go_wp2_with fail
        refine (few14_any _ b.N w4 (HS4.out _ (HF0.out.trans HG4.out (by simp)))).mono ?_
        rintro e w5 ⟨r, rfl, hr, hf⟩
        have HG5 : Hid (Fr [] w1 w5) := HG4.out.trans hf (by simp)
        have HR5 : Hid (r = true → b.N.length ≤ 400) := hr
        clear hf hr x0 x1 x2 x3 x4 x5 y0 y1 y2 y3 y4 y5
        cases r with
        | false =>
          go_wp2_with fail
          refine (HAW.out _ (HF0.out.trans HG5.out (by simp))).mono ?_
          rintro e w' ⟨rfl, hf⟩
          go_wp2
          go_ret
          exact ⟨rfl, hf⟩
        | true =>
          have HQ5 : Hid (b.N.length ≤ 400) := HR5.out rfl
          clear HR5
          have HLA : Hid (a.P.length ≤ 1024 ∧ a.N.length ≤ 1024) := ⟨by have := HQ2.out; omega, by have := HQ3.out; omega⟩
          have HLB : Hid (b.P.length ≤ 1024 ∧ b.N.length ≤ 1024) := ⟨by have := HQ4.out; omega, by have := HQ5.out; omega⟩
          have HF5 : Hid (Fr [] w w5) := HF0.out.trans HG5.out (by simp)
          have HL5 : Hid (∀ W, Fr [] w5 W → W.cell? ⟨w.heap.size, 0, none⟩ = some (.int .i64 a.v) ∧ W.cell? ⟨w.heap.size, 1, none⟩ = some (.int .i64 a.h) ∧ W.cell? ⟨w.heap.size, 2, none⟩ = some (.int .i64 a.s) ∧ W.cell? ⟨w.heap.size, 3, none⟩ = some (.int .u64 (a.z : Int)) ∧ W.cell? ⟨w.heap.size, 4, none⟩ = some (.slice po a.P.length pc) ∧ W.cell? ⟨w.heap.size, 5, none⟩ = some (.slice no a.N.length nc) ∧ W.cell? ⟨w.heap.size + 1, 0, none⟩ = some (.int .i64 b.v) ∧ W.cell? ⟨w.heap.size + 1, 1, none⟩ = some (.int .i64 b.h) ∧ W.cell? ⟨w.heap.size + 1, 2, none⟩ = some (.int .i64 b.s) ∧ W.cell? ⟨w.heap.size + 1, 3, none⟩ = some (.int .u64 (b.z : Int)) ∧ W.cell? ⟨w.heap.size + 1, 4, none⟩ = some (.slice qo b.P.length qc) ∧ W.cell? ⟨w.heap.size + 1, 5, none⟩ = some (.slice mo b.N.length mc)) := fun W f => HL.out W (HG5.out.trans f (by simp))
          clear HQ2 HQ3 HQ4 HQ5 HS1 HS2 HS3 HS4 HG1 HG2 HG3 HG4 HG5 HF0 HL
          have L0 : ∀ W, Fr [] w5 W → W.cell? ⟨w.heap.size, 0, none⟩ = some (.int .i64 a.v) := fun W f => (HL5.out W f).1
          have L1 : ∀ W, Fr [] w5 W → W.cell? ⟨w.heap.size, 1, none⟩ = some (.int .i64 a.h) := fun W f => (HL5.out W f).2.1
          have L2 : ∀ W, Fr [] w5 W → W.cell? ⟨w.heap.size, 2, none⟩ = some (.int .i64 a.s) := fun W f => (HL5.out W f).2.2.1
          have L3 : ∀ W, Fr [] w5 W → W.cell? ⟨w.heap.size, 3, none⟩ = some (.int .u64 (a.z : Int)) := fun W f => (HL5.out W f).2.2.2.1
          have L4 : ∀ W, Fr [] w5 W → W.cell? ⟨w.heap.size, 4, none⟩ = some (.slice po a.P.length pc) := fun W f => (HL5.out W f).2.2.2.2.1
          have L5 : ∀ W, Fr [] w5 W → W.cell? ⟨w.heap.size, 5, none⟩ = some (.slice no a.N.length nc) := fun W f => (HL5.out W f).2.2.2.2.2.1
          have M0 : ∀ W, Fr [] w5 W → W.cell? ⟨w.heap.size + 1, 0, none⟩ = some (.int .i64 b.v) := fun W f => (HL5.out W f).2.2.2.2.2.2.1
          have M1 : ∀ W, Fr [] w5 W → W.cell? ⟨w.heap.size + 1, 1, none⟩ = some (.int .i64 b.h) := fun W f => (HL5.out W f).2.2.2.2.2.2.2.1
          have M2 : ∀ W, Fr [] w5 W → W.cell? ⟨w.heap.size + 1, 2, none⟩ = some (.int .i64 b.s) := fun W f => (HL5.out W f).2.2.2.2.2.2.2.2.1
          have M3 : ∀ W, Fr [] w5 W → W.cell? ⟨w.heap.size + 1, 3, none⟩ = some (.int .u64 (b.z : Int)) := fun W f => (HL5.out W f).2.2.2.2.2.2.2.2.2.1
          have M4 : ∀ W, Fr [] w5 W → W.cell? ⟨w.heap.size + 1, 4, none⟩ = some (.slice qo b.P.length qc) := fun W f => (HL5.out W f).2.2.2.2.2.2.2.2.2.2.1
          have M5 : ∀ W, Fr [] w5 W → W.cell? ⟨w.heap.size + 1, 5, none⟩ = some (.slice mo b.N.length mc) := fun W f => (HL5.out W f).2.2.2.2.2.2.2.2.2.2.2
          have HPE : Hid (∀ wx, Fr [] w5 wx → Calls Tryz.prog 8 #[.agg #[.int .i64 a.v, .int .i64 a.h, .int .i64 a.s, .int .u64 (a.z : Int), .slice po a.P.length pc, .slice no a.N.length nc], .agg #[.int .i64 a.v, .int .i64 a.h, .int .i64 a.s, .int .u64 (a.z : Int), .slice po a.P.length pc, .slice no a.N.length nc]] wx fun e w' => e = .returned (.bool true) ∧ Fr [] w5 w') := by
            intro wx hx
            refine (hdEqual_any _ _ a a wx (HSA.out _ (HF5.out.trans hx (by simp))) (HSA.out _ (HF5.out.trans hx (by simp)))).mono ?_
            rintro e w' ⟨rfl, h⟩
            exact ⟨by rw [hdq_self], hx.trans h (by simp)⟩
          obtain ⟨Q, hQ⟩ : ∃ Q, Q = hdq a b := ⟨_, rfl⟩
          have HQ : Hid (Q = hdq a b) := hQ
          have HPF : Hid (∀ wx, Fr [] w5 wx → Calls Tryz.prog 8 #[.agg #[.int .i64 a.v, .int .i64 a.h, .int .i64 a.s, .int .u64 (a.z : Int), .slice po a.P.length pc, .slice no a.N.length nc], .agg #[.int .i64 b.v, .int .i64 b.h, .int .i64 b.s, .int .u64 (b.z : Int), .slice qo b.P.length qc, .slice mo b.N.length mc]] wx fun e w' => e = .returned (.bool Q) ∧ Fr [] w5 w') := by
            intro wx hx
            refine (hdEqual_any _ _ a b wx (HSA.out _ (HF5.out.trans hx (by simp))) (HSB.out _ (HF5.out.trans hx (by simp)))).mono ?_
            rintro e w' ⟨rfl, h⟩
            exact ⟨by rw [HQ.out], hx.trans h (by simp)⟩
          have HPG : Hid (∀ wx, Fr [] w5 wx → Calls Tryz.prog 8 #[.agg #[.int .i64 b.v, .int .i64 b.h, .int .i64 b.s, .int .u64 (b.z : Int), .slice qo b.P.length qc, .slice mo b.N.length mc], .agg #[.int .i64 a.v, .int .i64 a.h, .int .i64 a.s, .int .u64 (a.z : Int), .slice po a.P.length pc, .slice no a.N.length nc]] wx fun e w' => e = .returned (.bool Q) ∧ Fr [] w5 w') := by
            intro wx hx
            refine (hdEqual_any _ _ b a wx (HSB.out _ (HF5.out.trans hx (by simp))) (HSA.out _ (HF5.out.trans hx (by simp)))).mono ?_
            rintro e w' ⟨rfl, h⟩
            exact ⟨by rw [HQ.out, hdq_comm], hx.trans h (by simp)⟩
          have HPA : Hid (∀ wx, Fr [] w5 wx → Calls Tryz.prog 10 #[.agg #[.int .i64 a.v, .int .i64 a.h, .int .i64 a.s, .int .u64 (a.z : Int), .slice po a.P.length pc, .slice no a.N.length nc]] wx fun e w' => ∃ u, e = .returned u ∧ HdSrc w' u a ∧ Fr [] w5 w') := by
            intro wx hx
            refine (ref14_any _ a wx (HSA.out _ (HF5.out.trans hx (by simp))) HLA.out).mono ?_
            rintro e w' ⟨u, rfl, hu, h⟩
            exact ⟨u, rfl, hu, hx.trans h (by simp)⟩
          have HPB : Hid (∀ wx, Fr [] w5 wx → Calls Tryz.prog 10 #[.agg #[.int .i64 b.v, .int .i64 b.h, .int .i64 b.s, .int .u64 (b.z : Int), .slice qo b.P.length qc, .slice mo b.N.length mc]] wx fun e w' => ∃ u, e = .returned u ∧ HdSrc w' u b ∧ Fr [] w5 w' ∧ Fr [] wx w') := by
            intro wx hx
            refine (ref14_any _ b wx (HSB.out _ (HF5.out.trans hx (by simp))) HLB.out).mono ?_
            rintro e w' ⟨u, rfl, hu, h⟩
            exact ⟨u, rfl, hu, hx.trans h (by simp), h⟩
          have HPO : Hid (∀ wx u v, Fr [] w5 wx → HdSrc wx u a → HdSrc wx v b → Calls Tryz.prog 9 #[u, v] wx fun e w' => e = .returned (.bool Q) ∧ Fr [] w5 w') := by
            intro wx u v hx hu hv
            refine (one14_any _ _ a b wx hu hv).mono ?_
            rintro e w' ⟨rfl, h⟩
            exact ⟨by rw [HQ.out], hx.trans h (by simp)⟩
          clear hQ
          have F0 : Fr [] w5 w5.drew := (Fr.refl _ _).drew
          go_wp2_with fail
          go_region_held3 (fun w' => w'.cell? ⟨w.heap.size, 0, none⟩ = some (.int .i64 a.v) ∧ w'.cell? ⟨w.heap.size, 1, none⟩ = some (.int .i64 a.h) ∧ w'.cell? ⟨w.heap.size, 2, none⟩ = some (.int .i64 a.s) ∧ w'.cell? ⟨w.heap.size, 3, none⟩ = some (.int .u64 (a.z : Int)) ∧ w'.cell? ⟨w.heap.size, 4, none⟩ = some (.slice po a.P.length pc) ∧ w'.cell? ⟨w.heap.size, 5, none⟩ = some (.slice no a.N.length nc) ∧ w'.cell? ⟨w.heap.size + 1, 0, none⟩ = some (.int .i64 b.v) ∧ w'.cell? ⟨w.heap.size + 1, 1, none⟩ = some (.int .i64 b.h) ∧ w'.cell? ⟨w.heap.size + 1, 2, none⟩ = some (.int .i64 b.s) ∧ w'.cell? ⟨w.heap.size + 1, 3, none⟩ = some (.int .u64 (b.z : Int)) ∧ w'.cell? ⟨w.heap.size + 1, 4, none⟩ = some (.slice qo b.P.length qc) ∧ w'.cell? ⟨w.heap.size + 1, 5, none⟩ = some (.slice mo b.N.length mc)) (go_keep) (first
            | (go_at_call 8; with_reducible refine (HPE.out _ ?_).mono ?_; (first | assumption | exact F0); rintro e wa ⟨rfl, hfa⟩)
            | (go_at_call 8; with_reducible refine (HPF.out _ ?_).mono ?_; (first | assumption | exact F0); rintro e wb ⟨rfl, hfb⟩)
            | (go_at_call 8; with_reducible refine (HPG.out _ ?_).mono ?_; (first | assumption | exact F0); rintro e wc ⟨rfl, hfc⟩)
            | (go_at_call 10; with_reducible refine (HPA.out _ ?_).mono ?_; (first | assumption | exact F0); rintro e wd ⟨ud, rfl, hud, hfd⟩)
            | (go_at_call 10; with_reducible refine (HPB.out _ ?_).mono ?_; (first | assumption | exact F0); rintro e we ⟨ue, rfl, hue, hfe, hfde⟩; have hud2 := hud.kept hfde)
            | (go_at_call 9; with_reducible refine (HPO.out _ _ _ ?_ hud2 hue).mono ?_; (first | assumption | exact F0); rintro e wf ⟨rfl, hff⟩))
          have HG6 : Hid (Fr [] w5 wf) := hff
          clear hff hfe hfde hud hue hud2 HPE HPF HPG HPO HPB F0
          go_wp2_with fail
          refine (HPA.out _ HG6.out).mono ?_
          rintro e w7 ⟨u, rfl, hu, hf7⟩
          have HU : Hid (HdSrc w7 u a) := hu
          have HG7 : Hid (Fr [] w5 w7) := hf7
          clear hu hf7 HPA
          go_wp2_with fail
          refine (lcheck14_any u a w7 HU.out).mono ?_
          rintro e w8 ⟨rfl, hf8⟩
          have HG8 : Hid (Fr [] w5 w8) := HG7.out.trans hf8 (by simp)
          have HCK : Hid (∀ W, Fr [] w W → Calls Tryz.prog 12 #[.agg #[.int .i64 a.v, .int .i64 a.h, .int .i64 a.s, .int .u64 (a.z : Int), .slice po a.P.length pc, .slice no a.N.length nc]] W fun e w' => ∃ v, e = .returned v ∧ IsErr w' v (hce a).1 (hce a).2 0 ∧ Fr [] W w') := fun W f => hdCheck_any noSa _ a W (HEN.out W f) (HSA.out W f)
          have HZ : Hid ((hce a).1 = 0 → wrH a = wrV 0 ⟨#[]⟩ 0) := fun h => by unfold wrH; rw [if_pos h]
          have HN : Hid (¬ (hce a).1 = 0 → wrH a = wrV (hce a).1 (hce a).2 0) := fun h => by unfold wrH; rw [if_neg h]
          clear hf8 HU HG7
          generalize (hce a).1 = C at *
          generalize (hce a).2 = M at *
          by_cases hC : C = 0
          · rw [HZ.out hC]
            rw [hC] at HCK
            clear HZ HN hC
            unfold wrV
            have HB : Hid (WrB (w8.alloc (.cells #[.int .i64 0, .string ⟨#[]⟩, .int .i64 0] 35)) w8.heap.size 0 ⟨#[]⟩ 0) := WrB.new _ _ _ _
            have HG9 : Hid (Fr [] w5 (w8.alloc (.cells #[.int .i64 0, .string ⟨#[]⟩, .int .i64 0] 35))) := HG8.out.alloc _
            go_upto_region 6 with fail
            generalize w8.alloc (.cells #[.int .i64 0, .string ⟨#[]⟩, .int .i64 0] 35) = w9 at *
            generalize w8.heap.size = WB at *
            obtain ⟨x0, x1, x2, x3, x4, x5, y0, y1, y2, y3, y4, y5⟩ := HL5.out w9 HG9.out
            go_wp2_with fail
            refine (HCK.out _ (HF5.out.trans HG9.out (by simp))).mono ?_
            rintro e w10 ⟨v, rfl, hv, hf10⟩
            obtain rfl := hv.nil
            have c0 : w10.cell? ⟨WB, 0, none⟩ = some (.int .i64 0) := hf10.cell_some (by rw [cell_at HB.out]; rfl) List.not_mem_nil
            have HG10 : Hid (Fr [] w w10) := (HF5.out.trans HG9.out (by simp)).trans hf10 (by simp)
            clear hv hf10
            go_wp2_with fail
            refine (HAW.out _ HG10.out).mono ?_
            rintro e w11 ⟨rfl, hf⟩
            go_wp2
            go_ret
            exact ⟨rfl, hf⟩
          · rw [HN.out hC]
            have HNE : Hid (¬ C = 0) := hC
            clear HZ HN hC
            unfold wrV
            have HB : Hid (WrB (w8.alloc (.cells #[.int .i64 C, .string M, .int .i64 0] 35)) w8.heap.size C M 0) := WrB.new _ _ _ _
            have HG9 : Hid (Fr [] w5 (w8.alloc (.cells #[.int .i64 C, .string M, .int .i64 0] 35))) := HG8.out.alloc _
            go_upto_region 6 with fail
            generalize w8.alloc (.cells #[.int .i64 C, .string M, .int .i64 0] 35) = w9 at *
            generalize w8.heap.size = WB at *
            obtain ⟨x0, x1, x2, x3, x4, x5, y0, y1, y2, y3, y4, y5⟩ := HL5.out w9 HG9.out
            go_wp2_with fail
            refine (HCK.out _ (HF5.out.trans HG9.out (by simp))).mono ?_
            rintro e w10 ⟨v, rfl, hv, hf10⟩
            have HV : Hid (IsErr w10 v C M 0) := hv
            obtain ⟨bq, rfl⟩ := hv.some HNE.out
            have c0 : w10.cell? ⟨WB, 0, none⟩ = some (.int .i64 C) := hf10.cell_some (by rw [cell_at HB.out]; rfl) List.not_mem_nil
            have c1 : w10.cell? ⟨WB, 1, none⟩ = some (.string M) := hf10.cell_some (by rw [cell_at HB.out]; rfl) List.not_mem_nil
            have c2 : w10.cell? ⟨WB, 2, none⟩ = some (.int .i64 0) := hf10.cell_some (by rw [cell_at HB.out]; rfl) List.not_mem_nil
            have HG10 : Hid (Fr [] w w10) := (HF5.out.trans HG9.out (by simp)).trans hf10 (by simp)
            have hCb : (C == 0) = false := beq_eq_false_iff_ne.2 HNE.out
            clear hv hf10
            go_wp2_with fail
            refine (tells14_any noSa w10 _ C M 0 (HEN.out _ HG10.out) (by have := HGL.out; have := HG10.out.size; omega) HV.out HNE.out).mono ?_
            rintro e w11 ⟨rfl, hf11⟩
            have HG11 : Hid (Fr [] w w11) := HG10.out.trans hf11 (by simp)
            clear hf11 c0 c1 c2
            go_wp2_with fail
            refine (HAW.out _ HG11.out).mono ?_
            rintro e w12 ⟨rfl, hf⟩
            go_wp2
            go_ret
            exact ⟨rfl, hf⟩
end Go.Proofs.YtkphonepblkcdaaGreatDoor
