import Derived.Test.YtbhnjnoblkfckaaGreatDoorGZ20
import Derived.Test.YtbhnjnoblkfckaaGreatDoorGZ10
import Derived.Deep.RegionLawGrows
import Derived.Test.YtbhnjnoblkfckaaGreatDoorGZ13
import Derived.Test.YtbhnjnoblkfckaaGreatDoorShelf
import Derived.Deep.SlicePairs
import Derived.Deep.Strs
import Derived.WideShapes
import Derived.ChangeArms
import Derived.ChangeSame
import Derived.Test.YtbhnjnoblkfckaaGreatDoorGZ01
import Derived.Test.YtbhnjnoblkfckaaGreatDoorGZ15
import Derived.Test.YtbhnjnoblkfckaaGreatDoorGZ11
import Derived.Deep.AppendLies
-- from XStHl
/- The laws' own helpers over storage: marks that are held. -/
namespace Go.Proofs.YtbhnjnoblkfckaaGreatDoor
open Go.RowKit Go.Maps

theorem hide_eq (k j : Nat) : decide (((k + 9 * j + 4 : Nat) : Int).tmod 3 = 0) = (((k : Int) + 9 * (j : Int) + 1 + 1 + 1 + 1) % 3 == 0) := by
  rw [Int.tmod_eq_emod_of_nonneg (by omega), show ((k + 9 * j + 4 : Nat) : Int) = (k : Int) + 9 * (j : Int) + 1 + 1 + 1 + 1 from by omega, Bool.eq_iff_iff]
  simp

set_option maxRecDepth 100000 in
set_option maxHeartbeats 12800000 in
theorem held_entries (g c n k : Nat) (w : World) (h : CC w g n (fun i q => cE (mkE (k + 9 * i)) q)) (hk : k + 9 * n < 10000000) :
    Calls Tryz.prog 59 #[.slice (some ⟨g, 0, none⟩) n c, .int .i64 k] w fun e w' => e = .returned (.int .i64 ((k : Int) + 9 * (n : Int))) ∧ Below w.heap.size w w' := by
  have hglt := h.lt
  have HH := Lib.hid h
  clear h
  go_enter Tryz.func59, Tryz.ntmps59
  go_wp2
  go_loopw [1, 5] (fun q i wr => ∃ j : Nat, j ≤ n ∧ i = .int .i64 j ∧ q = .int .i64 ((k : Int) + 9 * (j : Int)) ∧ Below w.heap.size w wr) (fun _ i _ => n - (intOf i).toNat)
  case atStart => exact ⟨0, Nat.zero_le _, rfl, by simp, Below.refl _ _⟩
  case round =>
    obtain ⟨j, hj, rfl, rfl, hbel⟩ := hrel
    by_cases hlt : j < n
    · have j1 : (j : Int) < (n : Int) := by omega
      go_wp2_with fail
      have HQ0 : Hid (∀ W, Below w.heap.size w W → W.cell? ⟨g, j * 9, none⟩ = some (.string ⟨(markS (k + 9 * j)).toArray⟩)) := Lib.hid fun W hW => (HH.out.keep (hW.block g hglt)).cell0 hlt
      refine wp_region_last (by kernel_rfl) 7 (by kernel_rfl) (by kernel_rfl) (by kernel_rfl)
        (fun y0 => { tmps := #[Value.slice (some { block := g, off := 0 }) n c, Value.int IntKind.i64 ((k : Int) + 9 * (j : Int)), undef, undef, u4, Value.int IntKind.i64 (j : Int), Value.int IntKind.i64 (j : Int), Value.slice (some { block := g, off := 0 }) n c, Value.int IntKind.i64 (n : Int), .bool true, u10, u11, y0 0, y0 1, y0 2, y0 3, y0 4, y0 5, y0 6, u19, u20, u21, u22, u23, u24, u25, u26, u27, u28, u29, u30, u31, u32, u33, u34, u35, u36, u37, u38, u39, u40, u41, u42, u43, u44, u45, u46, u47, u48, u49, u50, u51, u52, u53, u54, u55, u56, u57, u58, u59, u60, u61, u62, u63, u64, u65, u66, u67, u68, u69, u70, u71, u72, u73, u74, u75, u76, u77, u78, u79, u80, u81, u82, u83, u84, u85, u86, u87, u88, u89, u90, u91, u92, u93, u94, u95, u96, u97, u98, u99, u100, u101, u102, u103, undef], defers := [] })
        (fun _ x0 => Below w.heap.size w x0)
        (fun i z x0 => match i with
          | 0 => z = .slice (some ⟨g, 0, none⟩) n c
          | 1 => z = .int .i64 (j : Int)
          | 2 => z = .pointer (some ⟨g, j * 9, none⟩)
          | 3 => z = .pointer (some ⟨g, j * 9, none⟩)
          | 4 => z = .string ⟨(markS (k + 9 * j)).toArray⟩
          | 5 => z = Value.int IntKind.i64 ((k : Int) + 9 * (j : Int))
          | 6 => z = .string ⟨(markS (k + 9 * j)).toArray⟩
          | _ => True)
        (fun x0 w8 => Below x0.heap.size x0 w8) (fun i => [u12, u13, u14, u15, u16, u17, u18].getD i undef) hbel.drew ?_ ?_ ?_
      · intro i z x0 w8 hi hR hle
        match i, hi with
        | 0, _ =>
          exact hR
        | 1, _ =>
          exact hR
        | 2, _ =>
          exact hR
        | 3, _ =>
          exact hR
        | 4, _ =>
          exact hR
        | 5, _ =>
          exact hR
        | 6, _ =>
          exact hR
        | n + 7, hn => exact absurd hn (by omega)
      · intro i hi y0 x0 kk hkk hC hdp
        match i, hi with
        | 0, _ =>
          refine wpOp_step rfl (fun K hK => ?_)
          clear hdp
          go_simp
          exact hK _ _ ⟨.slice (some ⟨g, 0, none⟩) n c, rfl, rfl, Below.refl _ _, hC⟩
        | 1, _ =>
          refine wpOp_step rfl (fun K hK => ?_)
          clear hdp
          go_simp
          exact hK _ _ ⟨.int .i64 (j : Int), rfl, rfl, Below.refl _ _, hC⟩
        | 2, _ =>
          have e0 : y0 0 = .slice (some ⟨g, 0, none⟩) n c := hdp 0 (dep_of (by kernel_rfl))
          have e1 : y0 1 = .int .i64 (j : Int) := hdp 1 (dep_of (by kernel_rfl))
          refine wpOp_step rfl (fun K hK => ?_)
          clear hdp
          go_simp
          exact hK _ _ ⟨.pointer (some ⟨g, j * 9, none⟩), by simp [upd, e0, e1], rfl, Below.refl _ _, hC⟩
        | 3, _ =>
          have e2 : y0 2 = .pointer (some ⟨g, j * 9, none⟩) := hdp 2 (dep_of (by kernel_rfl))
          refine wpOp_step rfl (fun K hK => ?_)
          clear hdp
          go_simp
          exact hK _ _ ⟨.pointer (some ⟨g, j * 9, none⟩), by simp [upd, e2], rfl, Below.refl _ _, hC⟩
        | 4, _ =>
          have q0 := HQ0.out x0 hC
          have e3 : y0 3 = .pointer (some ⟨g, j * 9, none⟩) := hdp 3 (dep_of (by kernel_rfl))
          refine wpOp_step rfl (fun K hK => ?_)
          clear hdp
          go_simp
          exact hK _ _ ⟨.string ⟨(markS (k + 9 * j)).toArray⟩, by simp [upd, e3], rfl, Below.refl _ _, hC⟩
        | 5, _ =>
          refine wpOp_step rfl (fun K hK => ?_)
          clear hdp
          go_simp
          exact hK _ _ ⟨Value.int IntKind.i64 ((k : Int) + 9 * (j : Int)), rfl, rfl, Below.refl _ _, hC⟩
        | 6, _ =>
          have e5 : y0 5 = Value.int IntKind.i64 ((k : Int) + 9 * (j : Int)) := hdp 5 (dep_of (by kernel_rfl))
          have hT := mark_natE (k + 9 * j) (((k : Int) + 9 * (j : Int))) (by omega) x0 (by omega)
          refine wpOp_step rfl (fun K hK => ?_)
          clear hdp
          go_simp
          refine hT.mono ?_
          rintro e w8 ⟨rfl, hb8⟩
          exact hK _ _ ⟨.string ⟨(markS (k + 9 * j)).toArray⟩, by simp [upd, e5], rfl, hb8, hC.trans (hb8.mono hC.size)⟩
        | n + 7, hn => exact absurd hn (by omega)
      · intro y0 x0 kk hkk hC hdp
        have e4 : y0 4 = .string ⟨(markS (k + 9 * j)).toArray⟩ := hdp 4 (by decide)
        have e6 : y0 6 = .string ⟨(markS (k + 9 * j)).toArray⟩ := hdp 6 (by decide)
        refine wpOp_step rfl (fun K hK => ?_)
        clear hdp
        go_simp
        refine hK _ _ ?_
        have hbel0 := hC
        have q1 : x0.cell? ⟨g, j * 9 + 1, none⟩ = some (.int .i64 ((k : Int) + 9 * (j : Int) + 1)) := (HH.out.keep (hC.block g hglt)).cell (j := 1) hlt (by decide)
        have q2 : x0.cell? ⟨g, j * 9 + 2, none⟩ = some (.int .i64 ((k : Int) + 9 * (j : Int) + 1 + 1)) := (HH.out.keep (hC.block g hglt)).cell (j := 2) hlt (by decide)
        have q3 : x0.cell? ⟨g, j * 9 + 3, none⟩ = some (.int .i64 ((k : Int) + 9 * (j : Int) + 1 + 1 + 1)) := (HH.out.keep (hC.block g hglt)).cell (j := 3) hlt (by decide)
        have q4 : x0.cell? ⟨g, j * 9 + 4, none⟩ = some (.bool (((k : Int) + 9 * (j : Int) + 1 + 1 + 1 + 1) % 3 == 0)) := ((HH.out.keep (hC.block g hglt)).cell (j := 4) hlt (by decide)).trans (congrArg (fun b => some (Value.bool b)) (hide_eq k j))
        clear hK K hC
        go_wp2_with fail
        have HQ5 : Hid (∀ W, Below w.heap.size w W → W.cell? ⟨g, j * 9 + 5, none⟩ = some (.string ⟨(markS (k + 9 * j + 5)).toArray⟩)) := Lib.hid fun W hW => (HH.out.keep (hW.block g hglt)).cell (j := 5) hlt (by decide)
        refine wp_region_last (by kernel_rfl) 8 (by kernel_rfl) (by kernel_rfl) (by kernel_rfl)
          (fun y5 => { tmps := #[Value.slice (some { block := g, off := 0 }) n c, Value.int IntKind.i64 ((k : Int) + 9 * (j : Int) + 1 + 1 + 1 + 1 + 1), undef, undef, u4, Value.int IntKind.i64 (j : Int), Value.int IntKind.i64 (j : Int), Value.slice (some { block := g, off := 0 }) n c, Value.int IntKind.i64 (n : Int), .bool true, u10, u11, y0 0, y0 1, y0 2, y0 3, Value.string { data := (markS (k + 9 * j)).toArray }, y0 5, Value.string { data := (markS (k + 9 * j)).toArray }, .bool false, Value.int IntKind.i64 ((k : Int) + 9 * (j : Int)), Value.int IntKind.i64 ((k : Int) + 9 * (j : Int) + 1), Value.slice (some { block := g, off := 0 }) n c, Value.int IntKind.i64 (j : Int), Value.pointer (some { block := g, off := j * 9 }), Value.pointer (some { block := g, off := j * 9 + 1 }), Value.int IntKind.i64 ((k : Int) + 9 * (j : Int) + 1), Value.int IntKind.i64 ((k : Int) + 9 * (j : Int) + 1), .bool false, Value.int IntKind.i64 ((k : Int) + 9 * (j : Int) + 1), Value.int IntKind.i64 ((k : Int) + 9 * (j : Int) + 1 + 1), Value.slice (some { block := g, off := 0 }) n c, Value.int IntKind.i64 (j : Int), Value.pointer (some { block := g, off := j * 9 }), Value.pointer (some { block := g, off := j * 9 + 2 }), Value.pointer (some { block := g, off := j * 9 + 2 }), Value.int IntKind.i64 ((k : Int) + 9 * (j : Int) + 1 + 1), Value.int IntKind.i64 ((k : Int) + 9 * (j : Int) + 1 + 1), .bool false, Value.int IntKind.i64 ((k : Int) + 9 * (j : Int) + 1 + 1), Value.int IntKind.i64 ((k : Int) + 9 * (j : Int) + 1 + 1 + 1), Value.slice (some { block := g, off := 0 }) n c, Value.int IntKind.i64 (j : Int), Value.pointer (some { block := g, off := j * 9 }), Value.pointer (some { block := g, off := j * 9 + 2 }), Value.pointer (some { block := g, off := j * 9 + 2 + 1 }), Value.int IntKind.i64 ((k : Int) + 9 * (j : Int) + 1 + 1 + 1), Value.int IntKind.i64 ((k : Int) + 9 * (j : Int) + 1 + 1 + 1), .bool false, Value.int IntKind.i64 ((k : Int) + 9 * (j : Int) + 1 + 1 + 1), Value.int IntKind.i64 ((k : Int) + 9 * (j : Int) + 1 + 1 + 1 + 1), Value.slice (some { block := g, off := 0 }) n c, Value.int IntKind.i64 (j : Int), Value.pointer (some { block := g, off := j * 9 }), Value.pointer (some { block := g, off := j * 9 + 2 }), Value.pointer (some { block := g, off := j * 9 + 2 + 2 }), .bool (((k : Int) + 9 * (j : Int) + 1 + 1 + 1 + 1) % 3 == 0), Value.int IntKind.i64 ((k : Int) + 9 * (j : Int) + 1 + 1 + 1 + 1), Value.int IntKind.i64 (((k : Int) + 9 * (j : Int) + 1 + 1 + 1 + 1) % 3), .bool (((k : Int) + 9 * (j : Int) + 1 + 1 + 1 + 1) % 3 == 0), .bool false, Value.int IntKind.i64 ((k : Int) + 9 * (j : Int) + 1 + 1 + 1 + 1), Value.int IntKind.i64 ((k : Int) + 9 * (j : Int) + 1 + 1 + 1 + 1 + 1), y5 0, y5 1, y5 2, y5 3, y5 4, y5 5, y5 6, y5 7, u71, u72, u73, u74, u75, u76, u77, u78, u79, u80, u81, u82, u83, u84, u85, u86, u87, u88, u89, u90, u91, u92, u93, u94, u95, u96, u97, u98, u99, u100, u101, u102, u103, undef], defers := [] })
          (fun _ x5 => Below w.heap.size w x5)
          (fun i z x5 => match i with
            | 0 => z = .slice (some ⟨g, 0, none⟩) n c
            | 1 => z = .int .i64 (j : Int)
            | 2 => z = .pointer (some ⟨g, j * 9, none⟩)
            | 3 => z = .pointer (some ⟨g, j * 9 + 2, none⟩)
            | 4 => z = .pointer (some ⟨g, j * 9 + 5, none⟩)
            | 5 => z = .string ⟨(markS (k + 9 * j + 5)).toArray⟩
            | 6 => z = Value.int IntKind.i64 ((k : Int) + 9 * (j : Int) + 1 + 1 + 1 + 1 + 1)
            | 7 => z = .string ⟨(markS (k + 9 * j + 5)).toArray⟩
            | _ => True)
          (fun x5 w8 => Below x5.heap.size x5 w8) (fun i => [u63, u64, u65, u66, u67, u68, u69, u70].getD i undef) hbel0.drew ?_ ?_ ?_
        · intro i z x5 w8 hi hR hle
          match i, hi with
          | 0, _ =>
            exact hR
          | 1, _ =>
            exact hR
          | 2, _ =>
            exact hR
          | 3, _ =>
            exact hR
          | 4, _ =>
            exact hR
          | 5, _ =>
            exact hR
          | 6, _ =>
            exact hR
          | 7, _ =>
            exact hR
          | n + 8, hn => exact absurd hn (by omega)
        · intro i hi y5 x5 kk hkk hC hdp
          match i, hi with
          | 0, _ =>
            refine wpOp_step rfl (fun K hK => ?_)
            clear hdp
            go_simp
            exact hK _ _ ⟨.slice (some ⟨g, 0, none⟩) n c, rfl, rfl, Below.refl _ _, hC⟩
          | 1, _ =>
            refine wpOp_step rfl (fun K hK => ?_)
            clear hdp
            go_simp
            exact hK _ _ ⟨.int .i64 (j : Int), rfl, rfl, Below.refl _ _, hC⟩
          | 2, _ =>
            have e0 : y5 0 = .slice (some ⟨g, 0, none⟩) n c := hdp 0 (dep_of (by kernel_rfl))
            have e1 : y5 1 = .int .i64 (j : Int) := hdp 1 (dep_of (by kernel_rfl))
            refine wpOp_step rfl (fun K hK => ?_)
            clear hdp
            go_simp
            exact hK _ _ ⟨.pointer (some ⟨g, j * 9, none⟩), by simp [upd, e0, e1], rfl, Below.refl _ _, hC⟩
          | 3, _ =>
            have e2 : y5 2 = .pointer (some ⟨g, j * 9, none⟩) := hdp 2 (dep_of (by kernel_rfl))
            refine wpOp_step rfl (fun K hK => ?_)
            clear hdp
            go_simp
            exact hK _ _ ⟨.pointer (some ⟨g, j * 9 + 2, none⟩), by simp [upd, e2], rfl, Below.refl _ _, hC⟩
          | 4, _ =>
            have e3 : y5 3 = .pointer (some ⟨g, j * 9 + 2, none⟩) := hdp 3 (dep_of (by kernel_rfl))
            refine wpOp_step rfl (fun K hK => ?_)
            clear hdp
            go_simp
            exact hK _ _ ⟨.pointer (some ⟨g, j * 9 + 5, none⟩), by simp [upd, e3], rfl, Below.refl _ _, hC⟩
          | 5, _ =>
            have q5 := HQ5.out x5 hC
            have e4 : y5 4 = .pointer (some ⟨g, j * 9 + 5, none⟩) := hdp 4 (dep_of (by kernel_rfl))
            refine wpOp_step rfl (fun K hK => ?_)
            clear hdp
            go_simp
            exact hK _ _ ⟨.string ⟨(markS (k + 9 * j + 5)).toArray⟩, by simp [upd, e4], rfl, Below.refl _ _, hC⟩
          | 6, _ =>
            refine wpOp_step rfl (fun K hK => ?_)
            clear hdp
            go_simp
            exact hK _ _ ⟨Value.int IntKind.i64 ((k : Int) + 9 * (j : Int) + 1 + 1 + 1 + 1 + 1), rfl, rfl, Below.refl _ _, hC⟩
          | 7, _ =>
            have e6 : y5 6 = Value.int IntKind.i64 ((k : Int) + 9 * (j : Int) + 1 + 1 + 1 + 1 + 1) := hdp 6 (dep_of (by kernel_rfl))
            have hT := mark_natE (k + 9 * j + 5) (((k : Int) + 9 * (j : Int) + 1 + 1 + 1 + 1 + 1)) (by omega) x5 (by omega)
            refine wpOp_step rfl (fun K hK => ?_)
            clear hdp
            go_simp
            refine hT.mono ?_
            rintro e w8 ⟨rfl, hb8⟩
            exact hK _ _ ⟨.string ⟨(markS (k + 9 * j + 5)).toArray⟩, by simp [upd, e6], rfl, hb8, hC.trans (hb8.mono hC.size)⟩
          | n + 8, hn => exact absurd hn (by omega)
        · intro y5 x5 kk hkk hC hdp
          have e5 : y5 5 = .string ⟨(markS (k + 9 * j + 5)).toArray⟩ := hdp 5 (by decide)
          have e7 : y5 7 = .string ⟨(markS (k + 9 * j + 5)).toArray⟩ := hdp 7 (by decide)
          refine wpOp_step rfl (fun K hK => ?_)
          clear hdp
          go_simp
          refine hK _ _ ?_
          have hbel5 := hC
          have q6 : x5.cell? ⟨g, j * 9 + 6, none⟩ = some (.int .i64 ((k : Int) + 9 * (j : Int) + 1 + 1 + 1 + 1 + 1 + 1)) := (HH.out.keep (hC.block g hglt)).cell (j := 6) hlt (by decide)
          clear hK K hC
          go_wp2_with fail
          have HQ7 : Hid (∀ W, Below w.heap.size w W → W.cell? ⟨g, j * 9 + 7, none⟩ = some (.string ⟨(markS (k + 9 * j + 7)).toArray⟩)) := Lib.hid fun W hW => (HH.out.keep (hW.block g hglt)).cell (j := 7) hlt (by decide)
          refine wp_region_last (by kernel_rfl) 8 (by kernel_rfl) (by kernel_rfl) (by kernel_rfl)
            (fun y7 => { tmps := #[Value.slice (some { block := g, off := 0 }) n c, Value.int IntKind.i64 ((k : Int) + 9 * (j : Int) + 1 + 1 + 1 + 1 + 1 + 1 + 1), undef, undef, u4, Value.int IntKind.i64 (j : Int), Value.int IntKind.i64 (j : Int), Value.slice (some { block := g, off := 0 }) n c, Value.int IntKind.i64 (n : Int), .bool true, u10, u11, y0 0, y0 1, y0 2, y0 3, Value.string { data := (markS (k + 9 * j)).toArray }, y0 5, Value.string { data := (markS (k + 9 * j)).toArray }, .bool false, Value.int IntKind.i64 ((k : Int) + 9 * (j : Int)), Value.int IntKind.i64 ((k : Int) + 9 * (j : Int) + 1), Value.slice (some { block := g, off := 0 }) n c, Value.int IntKind.i64 (j : Int), Value.pointer (some { block := g, off := j * 9 }), Value.pointer (some { block := g, off := j * 9 + 1 }), Value.int IntKind.i64 ((k : Int) + 9 * (j : Int) + 1), Value.int IntKind.i64 ((k : Int) + 9 * (j : Int) + 1), .bool false, Value.int IntKind.i64 ((k : Int) + 9 * (j : Int) + 1), Value.int IntKind.i64 ((k : Int) + 9 * (j : Int) + 1 + 1), Value.slice (some { block := g, off := 0 }) n c, Value.int IntKind.i64 (j : Int), Value.pointer (some { block := g, off := j * 9 }), Value.pointer (some { block := g, off := j * 9 + 2 }), Value.pointer (some { block := g, off := j * 9 + 2 }), Value.int IntKind.i64 ((k : Int) + 9 * (j : Int) + 1 + 1), Value.int IntKind.i64 ((k : Int) + 9 * (j : Int) + 1 + 1), .bool false, Value.int IntKind.i64 ((k : Int) + 9 * (j : Int) + 1 + 1), Value.int IntKind.i64 ((k : Int) + 9 * (j : Int) + 1 + 1 + 1), Value.slice (some { block := g, off := 0 }) n c, Value.int IntKind.i64 (j : Int), Value.pointer (some { block := g, off := j * 9 }), Value.pointer (some { block := g, off := j * 9 + 2 }), Value.pointer (some { block := g, off := j * 9 + 2 + 1 }), Value.int IntKind.i64 ((k : Int) + 9 * (j : Int) + 1 + 1 + 1), Value.int IntKind.i64 ((k : Int) + 9 * (j : Int) + 1 + 1 + 1), .bool false, Value.int IntKind.i64 ((k : Int) + 9 * (j : Int) + 1 + 1 + 1), Value.int IntKind.i64 ((k : Int) + 9 * (j : Int) + 1 + 1 + 1 + 1), Value.slice (some { block := g, off := 0 }) n c, Value.int IntKind.i64 (j : Int), Value.pointer (some { block := g, off := j * 9 }), Value.pointer (some { block := g, off := j * 9 + 2 }), Value.pointer (some { block := g, off := j * 9 + 2 + 2 }), .bool (((k : Int) + 9 * (j : Int) + 1 + 1 + 1 + 1) % 3 == 0), Value.int IntKind.i64 ((k : Int) + 9 * (j : Int) + 1 + 1 + 1 + 1), Value.int IntKind.i64 (((k : Int) + 9 * (j : Int) + 1 + 1 + 1 + 1) % 3), .bool (((k : Int) + 9 * (j : Int) + 1 + 1 + 1 + 1) % 3 == 0), .bool false, Value.int IntKind.i64 ((k : Int) + 9 * (j : Int) + 1 + 1 + 1 + 1), Value.int IntKind.i64 ((k : Int) + 9 * (j : Int) + 1 + 1 + 1 + 1 + 1), y5 0, y5 1, y5 2, y5 3, y5 4, Value.string { data := (markS (k + 9 * j + 5)).toArray }, y5 6, Value.string { data := (markS (k + 9 * j + 5)).toArray }, .bool false, Value.int IntKind.i64 ((k : Int) + 9 * (j : Int) + 1 + 1 + 1 + 1 + 1), Value.int IntKind.i64 ((k : Int) + 9 * (j : Int) + 1 + 1 + 1 + 1 + 1 + 1), Value.slice (some { block := g, off := 0 }) n c, Value.int IntKind.i64 (j : Int), Value.pointer (some { block := g, off := j * 9 }), Value.pointer (some { block := g, off := j * 9 + 2 }), Value.pointer (some { block := g, off := j * 9 + 2 + 4 }), Value.int IntKind.i64 ((k : Int) + 9 * (j : Int) + 1 + 1 + 1 + 1 + 1 + 1), Value.int IntKind.i64 ((k : Int) + 9 * (j : Int) + 1 + 1 + 1 + 1 + 1 + 1), .bool false, Value.int IntKind.i64 ((k : Int) + 9 * (j : Int) + 1 + 1 + 1 + 1 + 1 + 1), Value.int IntKind.i64 ((k : Int) + 9 * (j : Int) + 1 + 1 + 1 + 1 + 1 + 1 + 1), y7 0, y7 1, y7 2, y7 3, y7 4, y7 5, y7 6, y7 7, u92, u93, u94, u95, u96, u97, u98, u99, u100, u101, u102, u103, undef], defers := [] })
            (fun _ x7 => Below w.heap.size w x7)
            (fun i z x7 => match i with
              | 0 => z = .slice (some ⟨g, 0, none⟩) n c
              | 1 => z = .int .i64 (j : Int)
              | 2 => z = .pointer (some ⟨g, j * 9, none⟩)
              | 3 => z = .pointer (some ⟨g, j * 9 + 2, none⟩)
              | 4 => z = .pointer (some ⟨g, j * 9 + 7, none⟩)
              | 5 => z = .string ⟨(markS (k + 9 * j + 7)).toArray⟩
              | 6 => z = Value.int IntKind.i64 ((k : Int) + 9 * (j : Int) + 1 + 1 + 1 + 1 + 1 + 1 + 1)
              | 7 => z = .string ⟨(markS (k + 9 * j + 7)).toArray⟩
              | _ => True)
            (fun x7 w8 => Below x7.heap.size x7 w8) (fun i => [u84, u85, u86, u87, u88, u89, u90, u91].getD i undef) hbel5.drew ?_ ?_ ?_
          · intro i z x7 w8 hi hR hle
            match i, hi with
            | 0, _ =>
              exact hR
            | 1, _ =>
              exact hR
            | 2, _ =>
              exact hR
            | 3, _ =>
              exact hR
            | 4, _ =>
              exact hR
            | 5, _ =>
              exact hR
            | 6, _ =>
              exact hR
            | 7, _ =>
              exact hR
            | n + 8, hn => exact absurd hn (by omega)
          · intro i hi y7 x7 kk hkk hC hdp
            match i, hi with
            | 0, _ =>
              refine wpOp_step rfl (fun K hK => ?_)
              clear hdp
              go_simp
              exact hK _ _ ⟨.slice (some ⟨g, 0, none⟩) n c, rfl, rfl, Below.refl _ _, hC⟩
            | 1, _ =>
              refine wpOp_step rfl (fun K hK => ?_)
              clear hdp
              go_simp
              exact hK _ _ ⟨.int .i64 (j : Int), rfl, rfl, Below.refl _ _, hC⟩
            | 2, _ =>
              have e0 : y7 0 = .slice (some ⟨g, 0, none⟩) n c := hdp 0 (dep_of (by kernel_rfl))
              have e1 : y7 1 = .int .i64 (j : Int) := hdp 1 (dep_of (by kernel_rfl))
              refine wpOp_step rfl (fun K hK => ?_)
              clear hdp
              go_simp
              exact hK _ _ ⟨.pointer (some ⟨g, j * 9, none⟩), by simp [upd, e0, e1], rfl, Below.refl _ _, hC⟩
            | 3, _ =>
              have e2 : y7 2 = .pointer (some ⟨g, j * 9, none⟩) := hdp 2 (dep_of (by kernel_rfl))
              refine wpOp_step rfl (fun K hK => ?_)
              clear hdp
              go_simp
              exact hK _ _ ⟨.pointer (some ⟨g, j * 9 + 2, none⟩), by simp [upd, e2], rfl, Below.refl _ _, hC⟩
            | 4, _ =>
              have e3 : y7 3 = .pointer (some ⟨g, j * 9 + 2, none⟩) := hdp 3 (dep_of (by kernel_rfl))
              refine wpOp_step rfl (fun K hK => ?_)
              clear hdp
              go_simp
              exact hK _ _ ⟨.pointer (some ⟨g, j * 9 + 7, none⟩), by simp [upd, e3], rfl, Below.refl _ _, hC⟩
            | 5, _ =>
              have q7 := HQ7.out x7 hC
              have e4 : y7 4 = .pointer (some ⟨g, j * 9 + 7, none⟩) := hdp 4 (dep_of (by kernel_rfl))
              refine wpOp_step rfl (fun K hK => ?_)
              clear hdp
              go_simp
              exact hK _ _ ⟨.string ⟨(markS (k + 9 * j + 7)).toArray⟩, by simp [upd, e4], rfl, Below.refl _ _, hC⟩
            | 6, _ =>
              refine wpOp_step rfl (fun K hK => ?_)
              clear hdp
              go_simp
              exact hK _ _ ⟨Value.int IntKind.i64 ((k : Int) + 9 * (j : Int) + 1 + 1 + 1 + 1 + 1 + 1 + 1), rfl, rfl, Below.refl _ _, hC⟩
            | 7, _ =>
              have e6 : y7 6 = Value.int IntKind.i64 ((k : Int) + 9 * (j : Int) + 1 + 1 + 1 + 1 + 1 + 1 + 1) := hdp 6 (dep_of (by kernel_rfl))
              have hT := mark_natE (k + 9 * j + 7) (((k : Int) + 9 * (j : Int) + 1 + 1 + 1 + 1 + 1 + 1 + 1)) (by omega) x7 (by omega)
              refine wpOp_step rfl (fun K hK => ?_)
              clear hdp
              go_simp
              refine hT.mono ?_
              rintro e w8 ⟨rfl, hb8⟩
              exact hK _ _ ⟨.string ⟨(markS (k + 9 * j + 7)).toArray⟩, by simp [upd, e6], rfl, hb8, hC.trans (hb8.mono hC.size)⟩
            | n + 8, hn => exact absurd hn (by omega)
          · intro y7 x7 kk hkk hC hdp
            have e5 : y7 5 = .string ⟨(markS (k + 9 * j + 7)).toArray⟩ := hdp 5 (by decide)
            have e7 : y7 7 = .string ⟨(markS (k + 9 * j + 7)).toArray⟩ := hdp 7 (by decide)
            refine wpOp_step rfl (fun K hK => ?_)
            clear hdp
            go_simp
            refine hK _ _ ?_
            have hbel7 := hC
            have q8 : x7.cell? ⟨g, j * 9 + 8, none⟩ = some (.int .i64 ((k : Int) + 9 * (j : Int) + 1 + 1 + 1 + 1 + 1 + 1 + 1 + 1)) := (HH.out.keep (hC.block g hglt)).cell (j := 8) hlt (by decide)
            clear hK K hC
            go_wp2
            go_roundw
            case rel => exact ⟨j + 1, by omega, by go_num, by go_num, hbel7⟩
            case measure => simp [intOf]; omega
    · have hjn : j = n := by omega
      subst hjn
      go_wp2
      go_ret
      exact ⟨rfl, hbel⟩
end Go.Proofs.YtbhnjnoblkfckaaGreatDoor

-- from XStSt
/- The laws' own helpers over storage: a store sized, copied, equal, marked, and held. -/
namespace Go.Proofs.YtbhnjnoblkfckaaGreatDoor
open Go.RowKit Go.Maps

theorem one_factE {w : World} {b : Nat} {x : Value} {T : TypeId} (h : w.heap[b]? = some (.cells #[x] T (0, 0))) : w.cell? ⟨b, 0, none⟩ = some x ∧ w.frozen? ⟨b, 0, none⟩ = false := by
  constructor <;> simp [World.cell?, World.frozen?, h]

set_option maxHeartbeats 800000 in
theorem sz_store (v : Value) (L : List En) (w : World) (hR : ERow w v L) (hok : EnsOk maxLen L) :
    Calls Tryz.prog 11 #[.agg #[v], .int .i64 1048576] w fun e w' => (∃ q : Int, e = .returned (.int .i64 q) ∧ (q < 0 ∨ (0 ≤ q ∧ EnsOk 1048576 L ∧ L.length ≤ 1048576))) ∧ Below w.heap.size w w' := by
  have hbA : Below w.heap.size w (w.alloc (.cells #[v] 27)) := (Below.refl _ _).alloc (Nat.le_refl _) _
  have hC := sz_entries v L _ (hR.below (Nat.le_refl _) hbA) hok
  obtain ⟨a, c, rfl, _⟩ := hR
  have HB := Lib.hid hbA
  clear hbA hok
  go_enter Tryz.func11, Tryz.ntmps11
  go_wp2_with fail
  refine hC.mono ?_
  rintro e w1 ⟨⟨q, rfl, hq⟩, hb1⟩
  have HB1 := Lib.hid (HB.out.trans (hb1.mono (by simp)))
  clear hC hb1
  rcases hq with hq | ⟨q0, q1, q2⟩
  · go_wp2
    go_ret
    exact ⟨⟨-1, rfl, .inl (by omega)⟩, HB1.out⟩
  · have i1 : ¬ q < 0 := by omega
    have HQ := Lib.hid q1
    clear q1
    go_wp2
    go_ret
    exact ⟨⟨q, rfl, .inr ⟨q0, HQ.out, q2⟩⟩, HB1.out⟩

set_option maxHeartbeats 1600000 in
theorem to_store (v : Value) (L : List En) (w : World) (hR : ERow w v L) (hn : L.length ≤ 1048576) :
    Calls Tryz.prog 14 #[.agg #[v]] w fun e w' => ∃ g, e = .returned (.agg #[.slice (some ⟨g, 0, none⟩) L.length L.length]) ∧ w.heap.size ≤ g ∧ CC w' g L.length (fun i j => cE (eget L i) j) ∧ Below w.heap.size w w' := by
  have hR0 := hR
  obtain ⟨a, c, rfl, _⟩ := hR0
  obtain ⟨wA, hwA⟩ : ∃ wA, wA = ((w.alloc (.cells #[.slice a L.length c] 27)).alloc (.cells #[.slice none 0 0] 35)).alloc (.cells #[.slice none 0 0] 35) := ⟨_, rfl⟩
  have hsA : wA.heap.size = w.heap.size + 3 := by rw [hwA]; simp
  have hbA : Below w.heap.size w wA := by rw [hwA]; exact (((Below.refl _ _).alloc (Nat.le_refl _) _).alloc (by simp) _).alloc (by simp; omega) _
  have hC := to_entries _ L wA (hR.below (Nat.le_refl _) hbA) hn
  obtain ⟨hx0, hx1, hx2⟩ := three_newE w (.cells #[.slice a L.length c] 27) (.cells #[.slice none 0 0] 35) (.cells #[.slice none 0 0] 35)
  rw [← hwA] at hx0 hx1 hx2
  obtain ⟨t0, _⟩ := one_factE hx0
  rw [hwA] at t0
  have HwA := Lib.hid hwA
  have HBA := Lib.hid hbA
  clear hwA hbA hR
  go_enter Tryz.func14, Tryz.ntmps14
  go_wp2_with fail
  rw [← HwA.out]
  refine hC.mono ?_
  rintro e w1 ⟨rfl, hown, hb1⟩
  rw [hsA] at hown
  have hy1 := (hb1.block (w.heap.size + 1) (by omega)).trans hx1
  have hy2 := (hb1.block (w.heap.size + 1 + 1) (by omega)).trans hx2
  obtain ⟨p0, f0⟩ := one_factE hy1
  obtain ⟨r0, e0⟩ := one_factE hy2
  have hb := HBA.out.trans (hb1.mono (by omega))
  have hz1 := (heap_setCell_other w1 ⟨w.heap.size + 1 + 1, 0, none⟩ (w.heap.size + 1) (.slice (some ⟨w.heap.size + 3, 0, none⟩) L.length L.length) (by simp)).trans hy1
  have hz2 := heap_setCell_same _ (w.heap.size + 1) 0 _ _ (.slice (some ⟨w.heap.size + 3, 0, none⟩) L.length L.length) hz1
  have hfin : Below w.heap.size w ((w1.setCell ⟨w.heap.size + 1 + 1, 0, none⟩ (.slice (some ⟨w.heap.size + 3, 0, none⟩) L.length L.length)).setCell ⟨w.heap.size + 1, 0, none⟩ (.slice (some ⟨w.heap.size + 3, 0, none⟩) L.length L.length)) :=
    (hb.setCell (p := ⟨w.heap.size + 1 + 1, 0, none⟩) (by simp; omega) _).setCell (p := ⟨w.heap.size + 1, 0, none⟩) (by simp) _
  have hown2 : CC ((w1.setCell ⟨w.heap.size + 1 + 1, 0, none⟩ (.slice (some ⟨w.heap.size + 3, 0, none⟩) L.length L.length)).setCell ⟨w.heap.size + 1, 0, none⟩ (.slice (some ⟨w.heap.size + 3, 0, none⟩) L.length L.length)) (w.heap.size + 3) L.length (fun i j => cE (eget L i) j) := by
    refine hown.keep ?_
    rw [heap_setCell_other _ ⟨w.heap.size + 1, 0, none⟩ _ _ (by simp), heap_setCell_other _ ⟨w.heap.size + 1 + 1, 0, none⟩ _ _ (by simp)]
  have HF := Lib.hid (And.intro hz2 (And.intro hfin hown2))
  have ws : wA.heap.size = w.heap.size + 3 := hsA
  rw [hsA]
  clear hC hb1 hown hx0 hx1 hx2 t0 hz1 hz2 hfin hown2 hb hy1 hy2
  go_wp2
  obtain ⟨hz2, hfin, hown2⟩ := HF.out
  obtain ⟨k0, _⟩ := one_factE hz2
  exact bodyPost_ret (v := .agg #[.slice (some ⟨w.heap.size + 3, 0, none⟩) L.length L.length]) (by simp [results, Tryz.results14, go_sem, k0]) rfl ⟨w.heap.size + 3, rfl, by omega, hown2, hfin⟩

set_option maxHeartbeats 1600000 in
theorem eq_store (v1 v2 : Value) (L : List En) (w : World) (h1 : ERow w v1 L) (h2 : ERow w v2 L) (hn : L.length ≤ 4000000) :
    Calls Tryz.prog 17 #[.agg #[v1], .agg #[v2]] w fun e w' => e = .returned (.bool true) ∧ Below w.heap.size w w' := by
  have hbA : Below w.heap.size w ((w.alloc (.cells #[v1] 35)).alloc (.cells #[v2] 35)) := ((Below.refl _ _).alloc (Nat.le_refl _) _).alloc (by simp) _
  have hC := eq_entries v1 v2 L _ (h1.below (Nat.le_refl _) hbA) (h2.below (Nat.le_refl _) hbA) hn
  obtain ⟨a1, c1, rfl, _⟩ := h1
  obtain ⟨a2, c2, rfl, _⟩ := h2
  have HB := Lib.hid hbA
  clear hbA
  go_enter Tryz.func17, Tryz.ntmps17
  go_wp2_with fail
  refine hC.mono ?_
  rintro e w1 ⟨rfl, hb1⟩
  have HB1 := Lib.hid (HB.out.trans (hb1.mono HB.out.size))
  clear hC hb1
  go_wp2
  go_ret
  exact ⟨rfl, HB1.out⟩

/-- A row that may be marked: none, or in a block from B on and below D. -/
def MV (w : World) (B D : Nat) (v : Value) (n : Nat) (C : Nat → Nat → Value) : Prop :=
  (v = .slice none 0 0 ∧ n = 0) ∨ ∃ g c, v = .slice (some ⟨g, 0, none⟩) n c ∧ B ≤ g ∧ g < D ∧ (n ≤ c ∧ c ≤ maxLen) ∧ CC w g n C
theorem MV.same {w w' : World} {B D : Nat} {v : Value} {n : Nat} {C : Nat → Nat → Value} (h : MV w B D v n C) (hk : ∀ b, B ≤ b → b < D → w'.heap[b]? = w.heap[b]?) : MV w' B D v n C := by
  rcases h with h | ⟨g, c, e, h1, h2, h4, h3⟩
  · exact .inl h
  · exact .inr ⟨g, c, e, h1, h2, h4, h3.keep (hk g h1 h2)⟩
theorem mv_of_own {w : World} {B : Nat} {v : Value} {T : TypeId} {L : List En} (h : w.ownsRow B T 9 v L.length (ecells L)) : MV w B w.heap.size v L.length (fun i j => cE (eget L i) j) := by
  have h0 := h
  rcases h.2 with ⟨rfl, h1⟩ | ⟨g, c, _, rfl, hg, hh, hn, hm, _⟩
  · exact .inl ⟨rfl, h1⟩
  · exact .inr ⟨g, c, rfl, hg, (Array.getElem?_eq_some_iff.1 hh).1, ⟨hn, hm⟩, cc_of_own h0⟩
theorem MV.row {w : World} {B D : Nat} {v : Value} {L : List En} (h : MV w B D v L.length (fun i j => cE (eget L i) j)) : ERow w v L := by
  rcases h with ⟨rfl, h1⟩ | ⟨g, c, rfl, _, _, ⟨h1, h2⟩, h3⟩
  · have : L = [] := List.eq_nil_of_length_eq_zero h1
    subst this
    exact erow_nil w
  · exact h3.row h1 h2
/-- What is turned is in blocks from B on and below D. -/
def MidE (w w' : World) (B D : Nat) : Prop := w'.os = w.os ∧ w'.tape = w.tape ∧ w'.output = w.output ∧ w.heap.size ≤ w'.heap.size ∧ ∀ b, b < w.heap.size → (b < B ∨ D ≤ b) → w'.heap[b]? = w.heap[b]?
theorem MidE.below {w w' : World} {B D : Nat} (h : MidE w w' B D) (hB : B ≤ w.heap.size) : Below B w w' := ⟨h.1, h.2.1, h.2.2.1, h.2.2.2.1, fun b hb => h.2.2.2.2 b (by omega) (.inl hb)⟩
theorem mv_mid {w w' : World} {B D n : Nat} {v : Value} {C : Nat → Nat → Value} (h : MV w B D v n C) (hg : w.grownBy w' v.ownBlock) : MidE w w' B D := by
  refine ⟨hg.os, hg.tape, hg.output, hg.size, fun b hb ho => hg.block b hb fun e => ?_⟩
  rcases h with ⟨rfl, _⟩ | ⟨g, c, rfl, h1, h2, _⟩
  · simp [Value.ownBlock] at e
  · have : b = g := by simpa [Value.ownBlock] using e
    omega
def mkAll : Nat → Nat → Value := fun i q => cE (mkE (1 + 9 * i)) q

set_option maxHeartbeats 800000 in
theorem mark_store {B D n : Nat} {v : Value} {C : Nat → Nat → Value} {w : World} (h : MV w B D v n C) (hn : n ≤ 1100000) :
    Calls Tryz.prog 23 #[.agg #[v], .int .i64 1] w fun e w' => e = .returned (.int .i64 (1 + 9 * (n : Int))) ∧ MV w' B D v n mkAll ∧ w.grownBy w' v.ownBlock := by
  rcases h with ⟨rfl, rfl⟩ | ⟨g, c, rfl, h1, h2, h4, h3⟩
  · have hC : ∀ W, Calls Tryz.prog 58 #[.slice none 0 0, .int .i64 1] W fun e w' => e = .returned (.int .i64 1) ∧ w' = W := fun W => by
      go_enter Tryz.func58, Tryz.ntmps58
      go_wp2_with fail
      go_loopw [1, 5] (fun q i wr => i = .int .i64 0 ∧ q = .int .i64 1 ∧ wr = W) (fun _ _ _ => 0)
      case atStart => exact ⟨rfl, rfl, rfl⟩
      case round =>
        obtain ⟨rfl, rfl, rfl⟩ := hrel
        go_wp2
        go_ret
        exact ⟨rfl, rfl⟩
    go_enter Tryz.func23, Tryz.ntmps23
    go_wp2_with fail
    refine (hC _).mono ?_
    rintro e w1 ⟨rfl, rfl⟩
    go_wp2
    go_ret
    exact ⟨rfl, .inl ⟨rfl, rfl⟩, grown_of_below ((Below.refl _ _).alloc (Nat.le_refl _) _) none⟩
  · have hbA : Below w.heap.size w (w.alloc (.cells #[.slice (some ⟨g, 0, none⟩) n c] 35)) := (Below.refl _ _).alloc (Nat.le_refl _) _
    have hC := mark_entries g c n 1 C _ (h3.keep (hbA.block g h3.lt)) (by omega)
    have HB := Lib.hid hbA
    clear hbA h3
    go_enter Tryz.func23, Tryz.ntmps23
    go_wp2_with fail
    refine hC.mono ?_
    rintro e w1 ⟨rfl, hm, hg⟩
    have HM := Lib.hid hm
    have HG := Lib.hid (grown_trans (grown_of_below HB.out (some g)) hg)
    clear hC hm hg
    go_wp2
    go_ret
    exact ⟨rfl, .inr ⟨g, c, rfl, h1, h2, h4, HM.out.congr fun i q hi _ => by simp [mkC, mkAll, hi]⟩, HG.out⟩

set_option maxHeartbeats 800000 in
theorem held_store {B D n : Nat} {v : Value} {w : World} (h : MV w B D v n mkAll) (hn : n ≤ 1100000) :
    Calls Tryz.prog 24 #[.agg #[v], .int .i64 1] w fun e w' => e = .returned (.int .i64 (1 + 9 * (n : Int))) ∧ Below w.heap.size w w' := by
  rcases h with ⟨rfl, rfl⟩ | ⟨g, c, rfl, h1, h2, h4, h3⟩
  · have hC : ∀ W, Calls Tryz.prog 59 #[.slice none 0 0, .int .i64 1] W fun e w' => e = .returned (.int .i64 1) ∧ w' = W := fun W => by
      go_enter Tryz.func59, Tryz.ntmps59
      go_wp2_with fail
      go_loopw [1, 5] (fun q i wr => i = .int .i64 0 ∧ q = .int .i64 1 ∧ wr = W) (fun _ _ _ => 0)
      case atStart => exact ⟨rfl, rfl, rfl⟩
      case round =>
        obtain ⟨rfl, rfl, rfl⟩ := hrel
        go_wp2
        go_ret
        exact ⟨rfl, rfl⟩
    go_enter Tryz.func24, Tryz.ntmps24
    go_wp2_with fail
    refine (hC _).mono ?_
    rintro e w1 ⟨rfl, rfl⟩
    go_wp2
    go_ret
    exact ⟨rfl, (Below.refl _ _).alloc (Nat.le_refl _) _⟩
  · have hbA : Below w.heap.size w (w.alloc (.cells #[.slice (some ⟨g, 0, none⟩) n c] 35)) := (Below.refl _ _).alloc (Nat.le_refl _) _
    have hC := held_entries g c n 1 _ (h3.keep (hbA.block g h3.lt)) (by omega)
    have HB := Lib.hid hbA
    have i1 : ¬ (((1 : Nat) : Int) + 9 * (n : Int) < 0) := by omega
    clear hbA h3
    go_enter Tryz.func24, Tryz.ntmps24
    go_wp2_with fail
    refine hC.mono ?_
    rintro e w1 ⟨rfl, hb1⟩
    have HB1 := Lib.hid (HB.out.trans (hb1.mono HB.out.size))
    clear hC hb1
    go_wp2
    go_ret
    exact ⟨rfl, HB1.out⟩
end Go.Proofs.YtbhnjnoblkfckaaGreatDoor

-- from XStOp
/- Storage that came in, opened. -/
namespace Go.Proofs.YtbhnjnoblkfckaaGreatDoor
open Go.RowKit Go.ChangeShapes Go.WideShapes Go.Deep

theorem cellsEnL : Tryz.prog.cellsOf 43 = 9 := by kernel_rfl
theorem cellsStL : Tryz.prog.cellsOf 27 = 1 := by kernel_rfl
theorem addr_plusE {a : Addr} (hspot : a.spot = none) (k : Nat) : a.add k = ⟨a.block, a.off + k, none⟩ := by
  obtain ⟨b, off, spot⟩ := a
  simp only at hspot
  subst hspot
  unfold Addr.add; split <;> simp_all

set_option maxRecDepth 100000 in
set_option maxHeartbeats 1600000 in
theorem open_entryC {H : Type} {enc : TypeId × Value → H} {W : World} {base : Nat} {held : Bool} {fuel : Nat} {cs : List Value} {x : DataW H × List MemPlace} (hl : cs.length = 9) (h : DataW.trod enc Tryz.prog W base (fun _ => true) held fuel 43 cs = some x) :
    ∃ e : En, cs = enL e ∧ EnOk maxLen e := by
  obtain ⟨xs, k, hk, hxy, _, hxl, hf⟩ := DataW.trod_struct Tryz.underlying43 h
  match xs, hxl, cs, hl with
  | [y0, y1, y2, y3], _, [v0, v1, v2, v3, v4, v5, v6, v7, v8], _ =>
    have g0 := hf 0 _ rfl
    have g1 := hf 1 _ rfl
    have g2 := hf 2 _ rfl
    have g3 := hf 3 _ rfl
    obtain ⟨s0, e0, _, z0⟩ := DataW.trod_string Tryz.underlying9 (show DataW.trod enc Tryz.prog W base (fun _ => true) held k 9 [v0] = some y0 from g0)
    obtain ⟨n1, e1, _, z1⟩ := DataW.trod_int Tryz.underlying3 (show DataW.trod enc Tryz.prog W base (fun _ => true) held k 3 [v1] = some y1 from g1)
    obtain ⟨n3, e3, _, _⟩ := DataW.trod_int Tryz.underlying3 (show DataW.trod enc Tryz.prog W base (fun _ => true) held k 3 [v8] = some y3 from g3)
    have g2' : DataW.trod enc Tryz.prog W base (fun _ => true) held k 41 [v2, v3, v4, v5, v6, v7] = some y2 := g2
    obtain ⟨xr, kr, _, _, _, hrl, hr⟩ := DataW.trod_struct Tryz.underlying41 g2'
    match xr, hrl with
    | [r0, r1, r2, r3, r4, r5], _ =>
      have f0 := hr 0 _ rfl
      have f1 := hr 1 _ rfl
      have f2 := hr 2 _ rfl
      have f3 := hr 3 _ rfl
      have f4 := hr 4 _ rfl
      have f5 := hr 5 _ rfl
      obtain ⟨m0, d0, _, _⟩ := DataW.trod_int Tryz.underlying3 (show DataW.trod enc Tryz.prog W base (fun _ => true) held kr 3 [v2] = some r0 from f0)
      obtain ⟨m1, d1, _, _⟩ := DataW.trod_int Tryz.underlying3 (show DataW.trod enc Tryz.prog W base (fun _ => true) held kr 3 [v3] = some r1 from f1)
      obtain ⟨m2, d2, _⟩ := DataW.trod_bool Tryz.underlying4 (show DataW.trod enc Tryz.prog W base (fun _ => true) held kr 4 [v4] = some r2 from f2)
      obtain ⟨m3, d3, _, z3⟩ := DataW.trod_string Tryz.underlying9 (show DataW.trod enc Tryz.prog W base (fun _ => true) held kr 9 [v5] = some r3 from f3)
      obtain ⟨m4, d4, _, _⟩ := DataW.trod_int Tryz.underlying3 (show DataW.trod enc Tryz.prog W base (fun _ => true) held kr 3 [v6] = some r4 from f4)
      obtain ⟨m5, d5, _, z5⟩ := DataW.trod_string Tryz.underlying9 (show DataW.trod enc Tryz.prog W base (fun _ => true) held kr 9 [v7] = some r5 from f5)
      simp only [List.cons.injEq, and_true] at e0 e1 e3 d0 d1 d2 d3 d4 d5
      subst e0 e1 e3 d0 d1 d2 d3 d4 d5
      exact ⟨⟨s0, n1, ⟨m0, m1, m2, m3, m4, m5⟩, n3⟩, rfl, z0, z3, z5, z1⟩

set_option maxRecDepth 100000 in
set_option maxHeartbeats 1600000 in
theorem open_erow {H : Type} {enc : TypeId × Value → H} {W : World} {base : Nat} {held : Bool} {fuel : Nat} {v : Value} {x : DataW H × List MemPlace} (h : DataW.trod enc Tryz.prog W base (fun _ => true) held fuel 25 [v] = some x) :
    ∃ L, ERow W v L ∧ EnsOk maxLen L := by
  rcases open_slice Tryz.underlying25 h with ⟨hcs, _⟩ | ⟨a, len, cap, m, n, D, Pl, hcs, _, hl, hc, hm, _, hx⟩
  · simp only [List.cons.injEq, and_true] at hcs
    subst hcs
    exact ⟨[], erow_nil W, fun s hs => by simp at hs⟩
  · simp only [List.cons.injEq, and_true] at hcs
    subst hcs
    have hlm : len ≤ m := by rw [hm]; simpa using hl
    have each : ∀ i, i < m → ∃ e : En, (∀ j y, (enL e)[j]? = some y → W.cell? (a.add (i * 9 + j)) = some y) ∧ EnOk maxLen e := fun i hi => by
      obtain ⟨cs', h1, h2⟩ := hx i hi
      rw [cellsEnL] at h1
      obtain ⟨_, hlen, hcell⟩ := World.cells?_some h1
      obtain ⟨e, rfl, hE⟩ := open_entryC hlen h2
      refine ⟨e, fun j y hy => ?_, hE⟩
      have hj := (List.getElem?_eq_some_iff.1 hy).1
      have e0 := hcell j (by omega)
      rw [add_add] at e0
      rw [e0]
      have := (List.getElem?_eq_some_iff.1 hy).2
      simp [← this]
    have : Inhabited En := ⟨noEn⟩
    obtain ⟨q, hq⟩ := choose_lt each
    have hget : ∀ j s, ((List.range len).map fun i => q i)[j]? = some s → j < len ∧ q j = s := fun j s hj => by
      rw [List.getElem?_map] at hj
      rcases Nat.lt_or_ge j len with h | h
      · rw [List.getElem?_range h] at hj
        exact ⟨h, by simpa using hj⟩
      · rw [List.getElem?_eq_none (by simpa using h)] at hj; cases hj
    refine ⟨(List.range len).map fun i => q i, ⟨some a, cap, by simp, by simpa using hl, hc, fun j s hj => ?_⟩, fun s hs => ?_⟩
    · obtain ⟨hj1, rfl⟩ := hget j s hj
      have hspot : a.spot = none := by have z := World.cell?_spot ((hq 0 (by omega)).1 0 _ rfl); simpa [Addr.add] using z
      have hc := (hq j (by omega)).1
      refine ⟨a.block, a.off, ?_, ?_, EAt.all fun i y hy => ?_⟩
      · obtain ⟨b, off, spot⟩ := a
        simp only at hspot
        subst hspot; rfl
      · have h0 := hc 0 _ rfl
        rw [addr_plusE hspot] at h0
        exact World.block_lt_of_cell? W ⟨a.block, a.off + (j * 9 + 0), none⟩ h0
      · have h0 := hc i y hy
        rw [addr_plusE hspot] at h0
        rw [Nat.add_assoc]; exact h0
    · obtain ⟨j, hj, rfl⟩ := List.mem_map.1 hs
      exact (hq j (by have := List.mem_range.1 hj; omega)).2

set_option maxRecDepth 100000 in
theorem open_store {H : Type} {enc : TypeId × Value → H} {W : World} {r : Reach} {b0 base : Nat} {held : Bool} {v : Value} {d : DataW H} {p : List MemPlace} (hv : Value.okWide Tryz.prog W r b0 27 v) (h : DataW.Trod enc Tryz.prog W base (fun _ => true) held 27 v d p) :
    ∃ (u : Value) (L : List En), v = .agg #[u] ∧ ERow W u L ∧ EnsOk maxLen L := by
  obtain ⟨cs, rfl, hsz⟩ := okWide_struct Tryz.underlying27 hv
  obtain ⟨c0, rfl⟩ : ∃ c0, cs = #[c0] := by
    have := hsz.trans cellsStL
    obtain ⟨l⟩ := cs
    match l, this with
    | [c0], _ => exact ⟨c0, rfl⟩
  obtain ⟨fuel, hf⟩ := h
  obtain ⟨y0, n, _, _, h0⟩ := trod_struct1 Tryz.underlying27 hf
  have h0' : DataW.trod enc Tryz.prog W base (fun _ => true) held n 25 [c0] = some y0 := h0
  obtain ⟨L, hL, hN⟩ := open_erow h0'
  exact ⟨c0, L, rfl, hL, hN⟩
end Go.Proofs.YtbhnjnoblkfckaaGreatDoor

-- from XHou
/- Walks: houses under the drawing: what is held of them. -/
namespace Go.Proofs.YtbhnjnoblkfckaaGreatDoor
open Go.RowKit

theorem own_drawnC {w w' : World} {B g n size : Nat} {e : TypeId} {v : Value} {xs : List Value} (h : w.ownsRow B e size v n xs) (hgB : g < B) (hg : w.grownBy w' (some g)) : w'.ownsRow B e size v n xs := by
  refine ⟨h.1, ?_⟩
  rcases h.2 with h | ⟨c, cap, cur, hv, hB, hh, rest⟩
  · exact .inl h
  · exact .inr ⟨c, cap, cur, hv, hB, (hg.block c (Array.getElem?_eq_some_iff.1 hh).1 (fun e => by injection e; omega)).trans hh, rest⟩
theorem drawn_setC {w0 w : World} {B g m b : Nat} (h : Drawn w0 w B g m) (hg : g < w0.heap.size) (hB : w0.heap.size ≤ b) (j : Nat) (x : Value) : Drawn w0 (w.setCell ⟨b, j, none⟩ x) B g m := by
  refine ⟨h.1.keep fun k hk => heap_setCell_other w ⟨b, j, none⟩ k _ (by simp; omega), ⟨h.2.os, h.2.tape, h.2.output, by simpa using h.2.size, fun k hk hne => ?_⟩⟩
  exact (heap_setCell_other w ⟨b, j, none⟩ k _ (by simp; omega)).trans (h.2.block k hk hne)
theorem drawn_grownC {w0 w w' : World} {B g m : Nat} {row : Option Nat} (h : Drawn w0 w B g m) (hg : w.grownBy w' row) (hlt : g < w0.heap.size) (hrow : ∀ r, row = some r → w0.heap.size ≤ r) : Drawn w0 w' B g m := by
  have hne : ∀ k, k < w0.heap.size → some k ≠ row := fun k hk e => by have := hrow k e.symm; omega
  refine ⟨h.1.keep fun k hk => hg.block k (by have := h.1.lt; omega) (hne k (by omega)), ⟨hg.os.trans h.2.os, hg.tape.trans h.2.tape, hg.output.trans h.2.output, Nat.le_trans h.2.size hg.size, fun k hk hn => ?_⟩⟩
  exact (hg.block k (Nat.lt_of_lt_of_le hk h.2.size) (hne k hk)).trans (h.2.block k hk hn)
theorem odd_anyC (g : Nat) (q : Int) (B m : Nat) (w : World) (hm : m ≤ 1000000) (hq : q ≤ 1000000) (h : RdAt w B g m) :
    Calls Tryz.prog 86 #[.pointer (some ⟨g, 0, none⟩), .int .i64 q] w fun e w' => ∃ b : Bool, e = .returned (.bool b) ∧ Drawn w w' B g (m + 1) := by
  go_enter Tryz.func86, Tryz.ntmps86
  go_wp2_with fail
  refine (pick_any g q B m _ hm hq h).mono ?_
  rintro e w1 ⟨r, rfl, hr, hd⟩
  go_wp2
  go_ret
  exact ⟨_, rfl, hd⟩
/-- A block of another type is another block. -/
theorem other_block {w : World} {b c : Nat} {cs ds : Array Value} {S T : TypeId} {fr gr : Nat × Nat} (h : w.heap[b]? = some (.cells cs S fr)) (k : w.heap[c]? = some (.cells ds T gr)) (hne : S ≠ T) : b ≠ c := fun e => by
  subst e; rw [h] at k; cases k; exact hne rfl
theorem own_type {w : World} {B size n : Nat} {e : TypeId} {v : Value} {xs : List Value} (h : w.ownsRow B e size v n xs) {r : Nat} (hr : v.ownBlock = some r) : B ≤ r ∧ ∃ cs, w.heap[r]? = some (.cells cs e (0, 0)) := by
  rcases h.2 with ⟨rfl, _⟩ | ⟨c, cap, cur, rfl, hB, hh, rest⟩
  · cases hr
  · have : c = r := by simpa [Value.ownBlock] using hr
    subst this; exact ⟨hB, _, hh⟩
theorem own_setC {w : World} {B size n : Nat} {e : TypeId} {v : Value} {xs : List Value} (h : w.ownsRow B e size v n xs) {b k : Nat} (hb : v.ownBlock ≠ some b) (x : Value) : (w.setCell ⟨b, k, none⟩ x).ownsRow B e size v n xs := by
  refine ⟨h.1, ?_⟩
  rcases h.2 with h | ⟨c, cap, cur, rfl, hB, hh, rest⟩
  · exact .inl h
  · exact .inr ⟨c, cap, cur, rfl, hB, (heap_setCell_other w ⟨b, k, none⟩ c _ (fun e => hb (by simpa [Value.ownBlock] using e))).trans hh, rest⟩

/-- Texts in a block of texts that is none of the reader's. -/
def NOwn (g : Nat) (w : World) (u : Value) (ns : List ByteArray) : Prop :=
  ∃ (b c : Nat) (cs : Array Value), u = .slice (some ⟨b, 0, none⟩) ns.length c ∧ ns.length ≤ c ∧ c ≤ maxLen ∧ b ≠ g ∧ w.heap[b]? = some (.cells cs 9 (0, 0)) ∧ ∀ (j : Nat) (s : ByteArray), ns[j]? = some s → cs[j]? = some (Value.string s)
theorem NOwn.keep {g : Nat} {w w' : World} {u : Value} {ns : List ByteArray} (h : NOwn g w u ns) (hg : w.grownBy w' (some g)) : NOwn g w' u ns := by
  obtain ⟨b, c, cs, rfl, h1, h2, h3, h4, h5⟩ := h
  exact ⟨b, c, cs, rfl, h1, h2, h3, block_keep h3 h4 hg, h5⟩
theorem NOwn.grow {g : Nat} {w w' : World} {u : Value} {ns : List ByteArray} (h : NOwn g w u ns) {row : Option Nat} (hg : w.grownBy w' row) (hr : ∀ r, row = some r → ∃ cs T fr, w.heap[r]? = some (.cells cs T fr) ∧ T ≠ 9) : NOwn g w' u ns := by
  obtain ⟨b, c, cs, rfl, h1, h2, h3, h4, h5⟩ := h
  refine ⟨b, c, cs, rfl, h1, h2, h3, (hg.block b (Array.getElem?_eq_some_iff.1 h4).1 (fun e => ?_)).trans h4, h5⟩
  obtain ⟨ds, T, fr, k1, k2⟩ := hr b e.symm
  exact other_block h4 k1 (Ne.symm k2) rfl
theorem NOwn.set {g : Nat} {w : World} {u : Value} {ns : List ByteArray} (h : NOwn g w u ns) {b : Nat} {ds : Array Value} {T : TypeId} {fr : Nat × Nat} (hb : w.heap[b]? = some (.cells ds T fr)) (hT : T ≠ 9) (j : Nat) (x : Value) : NOwn g (w.setCell ⟨b, j, none⟩ x) u ns := by
  obtain ⟨c, k, cs, rfl, h1, h2, h3, h4, h5⟩ := h
  exact ⟨c, k, cs, rfl, h1, h2, h3, (heap_setCell_other w ⟨b, j, none⟩ c _ (other_block h4 hb (Ne.symm hT))).trans h4, h5⟩
theorem NOwn.form {g : Nat} {w : World} {u : Value} {ns : List ByteArray} (h : NOwn g w u ns) : ∃ b c, u = .slice (some ⟨b, 0, none⟩) ns.length c ∧ ns.length ≤ c ∧ c ≤ maxLen ∧ b ≠ g ∧ b < w.heap.size ∧ ∀ j s, ns[j]? = some s → w.cell? ⟨b, j, none⟩ = some (.string s) := by
  obtain ⟨b, c, cs, rfl, h1, h2, h3, h4, h5⟩ := h
  exact ⟨b, c, rfl, h1, h2, h3, (Array.getElem?_eq_some_iff.1 h4).1, fun j s hj => by rw [cell_of_row w b j cs _ (0, 0) h4]; exact h5 j s hj⟩
theorem NOwn.nrow {g : Nat} {w : World} {u : Value} {ns : List ByteArray} (h : NOwn g w u ns) : NRow w u ns := by
  obtain ⟨b, c, rfl, h1, h2, _, h4, h5⟩ := h.form
  exact ⟨_, c, rfl, h1, h2, fun j s hj => ⟨b, 0, rfl, h4, by rw [Nat.zero_add]; exact h5 j s hj⟩⟩

/-- Houses in memory that is none of the reader's. -/
def HRowA (g : Nat) (w : World) (v : Value) (hs : List Hs) : Prop :=
  ∃ a c, v = .slice a hs.length c ∧ hs.length ≤ c ∧ c ≤ maxLen ∧ ∀ (j : Nat) (h : Hs), hs[j]? = some h → ∃ (b : Nat) (u : Value) (cs : Array Value), a = some ⟨b, 0, none⟩ ∧ b ≠ g ∧ w.heap[b]? = some (.cells cs 31 (0, 0)) ∧ cs[j * 4]? = some u ∧ NOwn g w u h.names ∧
    cs[j * 4 + 1]? = some (Value.int .i64 h.key) ∧ cs[j * 4 + 2]? = some (Value.int .i64 h.maxN) ∧ cs[j * 4 + 3]? = some (Value.int .i64 h.maxB)
theorem HRowA.keep {g : Nat} {w w' : World} {v : Value} {hs : List Hs} (h : HRowA g w v hs) (hg : w.grownBy w' (some g)) : HRowA g w' v hs := by
  obtain ⟨a, c, rfl, h1, h2, h3⟩ := h
  refine ⟨a, c, rfl, h1, h2, fun j x hj => ?_⟩
  obtain ⟨b, u, cs, k1, k2, k3, k4, k5, k6⟩ := h3 j x hj
  exact ⟨b, u, cs, k1, k2, block_keep k2 k3 hg, k4, k5.keep hg, k6⟩
theorem HRowA.row {g : Nat} {w : World} {v : Value} {hs : List Hs} (h : HRowA g w v hs) : HRow w v hs := by
  obtain ⟨a, c, rfl, h1, h2, h3⟩ := h
  refine ⟨a, c, rfl, h1, h2, fun j x hj => ?_⟩
  obtain ⟨b, u, cs, k1, k2, k3, k4, k5, k6, k7, k8⟩ := h3 j x hj
  refine ⟨b, 0, u, k1, (Array.getElem?_eq_some_iff.1 k3).1, ?_, k5.nrow, ?_, ?_, ?_⟩
  all_goals rw [cell_of_row w b _ cs _ (0, 0) k3]
  · rw [Nat.zero_add]; exact k4
  · rw [show 0 + j * 4 + 1 = j * 4 + 1 from by omega]; exact k6
  · rw [show 0 + j * 4 + 2 = j * 4 + 2 from by omega]; exact k7
  · rw [show 0 + j * 4 + 3 = j * 4 + 3 from by omega]; exact k8

/-- A house's cells. -/
def icell (p : Value × Hs) : List Value := [p.1, .int .i64 p.2.key, .int .i64 p.2.maxN, .int .i64 p.2.maxB]
def icells (its : List (Value × Hs)) : List Value := its.flatMap icell
theorem icells_app (a : List (Value × Hs)) (p : Value × Hs) : icells (a ++ [p]) = icells a ++ icell p := by simp [icells]
theorem icells_len : ∀ its : List (Value × Hs), (icells its).length = its.length * 4
  | [] => rfl
  | p :: l => by
    have := icells_len l
    unfold icells at this ⊢
    rw [List.flatMap_cons, List.length_append, this]; simp [icell]; omega
theorem icells_at : ∀ {its : List (Value × Hs)} {j : Nat} {p : Value × Hs} (k : Nat), its[j]? = some p → k < 4 → (icells its)[j * 4 + k]? = (icell p)[k]?
  | q :: l, 0, p, k, h, hk => by
    have : q = p := by simpa using h
    subst this
    unfold icells
    rw [List.flatMap_cons, List.getElem?_append_left (by simp [icell]; omega)]; simp
  | q :: l, j + 1, p, k, h, hk => by
    have ih := icells_at (its := l) (j := j) (p := p) k (by simpa using h) hk
    unfold icells at ih ⊢
    rw [List.flatMap_cons, List.getElem?_append_right (by simp [icell]; omega), ← ih]
    congr 1; simp [icell]; omega
def HSm (h : Hs) : Prop := NOk h.names 40 ∧ 1 ≤ h.names.length ∧ h.names.length ≤ 2

/-- The box b holds the houses its, whose cells lie in the row v, and the reader has gone on. -/
structure CIn (w0 W : World) (B g m b : Nat) (its : List (Value × Hs)) (v : Value) : Prop where
  box : W.heap[b]? = some (.cells #[v] 142 (0, 0))
  own : W.ownsRow w0.heap.size 31 4 v its.length (icells its)
  nms : ∀ p ∈ its, NOwn g W p.1 p.2.names
  ok : ∀ p ∈ its, HSm p.2
  drawn : Drawn w0 W B g m
  gb : g < w0.heap.size
  wb : w0.heap.size ≤ b
theorem CIn.keep {w0 W W' : World} {B g m m' b : Nat} {its : List (Value × Hs)} {v : Value} (h : CIn w0 W B g m b its v) (hd : Drawn W W' B g m') : CIn w0 W' B g m' b its v :=
  ⟨block_keep (by have := h.gb; have := h.wb; omega) h.box hd.2, own_drawnC h.own h.gb hd.2, fun p hp => (h.nms p hp).keep hd.2, h.ok, h.drawn.trans hd, h.gb, h.wb⟩
theorem CIn.mono {w0 W : World} {B g m m' b : Nat} {its : List (Value × Hs)} {v : Value} (h : CIn w0 W B g m b its v) (hm : m ≤ m') : CIn w0 W B g m' b its v :=
  ⟨h.box, h.own, h.nms, h.ok, h.drawn.mono hm, h.gb, h.wb⟩
theorem CIn.alloc {w0 W : World} {B g m b : Nat} {its : List (Value × Hs)} {v : Value} (h : CIn w0 W B g m b its v) (o : Obj) : CIn w0 (W.alloc o) B g m b its v := h.keep ((Drawn.refl h.drawn.1).alloc o)
theorem CIn.lt {w0 W : World} {B g m b : Nat} {its : List (Value × Hs)} {v : Value} (h : CIn w0 W B g m b its v) : b < W.heap.size := (Array.getElem?_eq_some_iff.1 h.box).1
theorem CIn.ne {w0 W : World} {B g m b : Nat} {its : List (Value × Hs)} {v : Value} (h : CIn w0 W B g m b its v) : v.ownBlock ≠ some b := fun e => by
  obtain ⟨_, cs, hc⟩ := own_type h.own e
  exact other_block hc h.box (by decide) rfl
/-- What stands behind an append to the row. -/
theorem CIn.grown {w0 W W' : World} {B g m b : Nat} {its : List (Value × Hs)} {v : Value} (h : CIn w0 W B g m b its v) (hg : W.grownBy W' v.ownBlock) :
    W'.heap[b]? = some (.cells #[v] 142 (0, 0)) ∧ (∀ u ns, NOwn g W u ns → NOwn g W' u ns) ∧ Drawn w0 W' B g m := by
  refine ⟨(hg.block b h.lt (fun e => h.ne e.symm)).trans h.box, fun u ns hn => hn.grow hg fun r hr => ?_, drawn_grownC h.drawn hg h.gb fun r hr => (own_type h.own hr).1⟩
  obtain ⟨_, cs, hc⟩ := own_type h.own hr
  exact ⟨cs, _, _, hc, by decide⟩
/-- A house more: the row has grown in W', and the box is told. -/
theorem CIn.setRow {w0 W W' : World} {B g m b : Nat} {its : List (Value × Hs)} {v v' : Value} (h : CIn w0 W B g m b its v) (p : Value × Hs) (hp : HSm p.2) (hn : NOwn g W' p.1 p.2.names)
    (hg : W.grownBy W' v.ownBlock) (ho : W'.ownsRow w0.heap.size 31 4 v' (its.length + 1) (icells its ++ icell p)) :
    W'.cell? ⟨b, 0, none⟩ = some v ∧ W'.frozen? ⟨b, 0, none⟩ = false ∧ CIn w0 (W'.setCell ⟨b, 0, none⟩ v') B g m b (its ++ [p]) v' := by
  obtain ⟨hb, hk, hd⟩ := h.grown hg
  refine ⟨by simp [World.cell?, hb], by simp [World.frozen?, hb], heap_setCell_same W' b 0 _ _ v' hb, ?_, ?_, ?_, drawn_setC hd h.gb h.wb 0 _, h.gb, h.wb⟩
  · rw [icells_app, List.length_append]
    refine own_setC ho (fun e => ?_) _
    obtain ⟨_, cs, hc⟩ := own_type ho e
    exact other_block hc hb (by decide) rfl
  · intro q hq
    refine NOwn.set ?_ hb (by decide) 0 _
    rcases List.mem_append.1 hq with hq | hq
    · exact hk _ _ (h.nms q hq)
    · have : q = p := by simpa using hq
      subst this; exact hn
  · intro q hq
    rcases List.mem_append.1 hq with hq | hq
    · exact h.ok q hq
    · have : q = p := by simpa using hq
      subst this; exact hp
theorem CIn.row {w0 W : World} {B g m b : Nat} {its : List (Value × Hs)} {v : Value} (h : CIn w0 W B g m b its v) : HRowA g W v (its.map (·.2)) := by
  rcases h.own.2 with ⟨rfl, h0⟩ | ⟨c, cap, cur, rfl, hB, hh, h1, h2, h3, h4⟩
  · have : its = [] := List.length_eq_zero_iff.1 h0
    subst this
    exact ⟨none, 0, rfl, Nat.le_refl _, Nat.zero_le _, fun j x hj => by simp at hj⟩
  · refine ⟨_, cap, by rw [List.length_map], by rw [List.length_map]; exact h1, h2, fun j x hj => ?_⟩
    rw [List.getElem?_map] at hj
    obtain ⟨p, hp, rfl⟩ := Option.map_eq_some_iff.1 hj
    have hjl := (List.getElem?_eq_some_iff.1 hp).1
    have hat : ∀ k, k < 4 → cur[j * 4 + k]? = (icell p)[k]? := fun k hk => by
      rw [← icells_at k hp hk, ← h4, List.getElem?_take, if_pos (by omega), Array.getElem?_toList]
    have hgb := h.gb
    exact ⟨c, p.1, cur, rfl, by omega, hh, hat 0 (by omega), h.nms p (List.mem_of_getElem? hp), hat 1 (by omega), hat 2 (by omega), hat 3 (by omega)⟩
end Go.Proofs.YtbhnjnoblkfckaaGreatDoor

