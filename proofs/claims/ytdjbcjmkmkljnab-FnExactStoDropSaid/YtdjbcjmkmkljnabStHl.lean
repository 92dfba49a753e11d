/- The laws' own helpers over storage: marks that are held. -/
import Derived.Test.YtdjbcjmkmkljnabStMk
import Derived.Deep.RegionLawGrows
namespace Go.Proofs.Ytdjbcjmkmkljnab
open Go.RowKit Go.Maps

theorem hide_eq (k j : Nat) : decide (((k + 9 * j + 4 : Nat) : Int).tmod 3 = 0) = (((k : Int) + 9 * (j : Int) + 1 + 1 + 1 + 1) % 3 == 0) := by
  rw [Int.tmod_eq_emod_of_nonneg (by omega), show ((k + 9 * j + 4 : Nat) : Int) = (k : Int) + 9 * (j : Int) + 1 + 1 + 1 + 1 from by omega, Bool.eq_iff_iff]
  simp

set_option maxRecDepth 100000 in
set_option maxHeartbeats 12800000 in
theorem held_entries (g c n k : Nat) (w : World) (h : CC w g n (fun i q => cE (mkE (k + 9 * i)) q)) (hk : k + 9 * n < 10000000) :
    Calls Try.prog 27 #[.slice (some ⟨g, 0, none⟩) n c, .int .i64 k] w fun e w' => e = .returned (.int .i64 ((k : Int) + 9 * (n : Int))) ∧ Below w.heap.size w w' := by
  have hglt := h.lt
  have HH := Lib.hid h
  clear h
  go_enter Try.func27, Try.ntmps27
  go_wp2
  go_loopw [1, 5] (fun q i wr => ∃ j : Nat, j ≤ n ∧ i = .int .i64 j ∧ q = .int .i64 ((k : Int) + 9 * (j : Int)) ∧ Below w.heap.size w wr) (fun _ i _ => n - (intOf i).toNat)
  case atStart => exact ⟨0, Nat.zero_le _, rfl, by simp, Below.refl _ _⟩
  case round =>
    obtain ⟨j, hj, rfl, rfl, hbel⟩ := hrel
    by_cases hlt : j < n
    · have j1 : (j : Int) < (n : Int) := by omega
      go_wp2_with fail
      have HQ0 : Hid (∀ W, Below w.heap.size w W → W.cell? ⟨g, j * 9, none⟩ = some (.string ⟨(markS (k + 9 * j)).toArray⟩)) := Lib.hid fun W hW => (HH.out.keep (hW.block g hglt)).cell0 hlt
      refine wp_region_last (by kernel_rfl) 7 (by kernel_rfl) (by kernel_rfl) (by kernel_rfl)
        (fun y0 => { tmps := #[Value.slice (some { block := g, off := 0 }) n c, Value.int IntKind.i64 ((k : Int) + 9 * (j : Int)), undef, undef, u4, Value.int IntKind.i64 (j : Int), Value.int IntKind.i64 (j : Int), Value.slice (some { block := g, off := 0 }) n c, Value.int IntKind.i64 (n : Int), .bool true, u10, u11, y0 0, y0 1, y0 2, y0 3, y0 4, y0 5, y0 6, u19, u20, u21, u22, u23, u24, u25, u26, u27, u28, u29, u30, u31, u32, u33, u34, u35, u36, u37, u38, u39, u40, u41, u42, u43, u44, u45, u46, u47, u48, u49, u50, u51, u52, u53, u54, u55, u56, u57, u58, u59, u60, u61, u62, u63, u64, u65, u66, u67, u68, u69, u70, u71, u72, u73, u74, u75, u76, u77, u78, u79, u80, u81, u82, u83, u84, u85, u86, u87, u88, u89, u90, u91, u92, u93, u94, u95, u96, u97, u98, u99, u100, u101, u102, u103, undef], defers := [] })
        (fun _ x0 => Below w.heap.size w x0)
        (fun i z x0 => match i with
          | 0 => z = .slice (some ⟨g, 0, none⟩) n c
          | 1 => z = .int .i64 (j : Int)
          | 2 => z = .pointer (some ⟨g, j * 9, none⟩)
          | 3 => z = .pointer (some ⟨g, j * 9, none⟩)
          | 4 => z = .string ⟨(markS (k + 9 * j)).toArray⟩
          | 5 => z = Value.int IntKind.i64 ((k : Int) + 9 * (j : Int))
          | 6 => z = .string ⟨(markS (k + 9 * j)).toArray⟩
          | _ => True)
        (fun x0 w8 => Below x0.heap.size x0 w8) (fun i => [u12, u13, u14, u15, u16, u17, u18].getD i undef) hbel.drew ?_ ?_ ?_
      · intro i z x0 w8 hi hR hle
        match i, hi with
        | 0, _ =>
          exact hR
        | 1, _ =>
          exact hR
        | 2, _ =>
          exact hR
        | 3, _ =>
          exact hR
        | 4, _ =>
          exact hR
        | 5, _ =>
          exact hR
        | 6, _ =>
          exact hR
        | n + 7, hn => exact absurd hn (by omega)
      · intro i hi y0 x0 kk hkk hC hdp
        match i, hi with
        | 0, _ =>
          refine wpOp_step rfl (fun K hK => ?_)
          clear hdp
          go_simp
          exact hK _ _ ⟨.slice (some ⟨g, 0, none⟩) n c, rfl, rfl, Below.refl _ _, hC⟩
        | 1, _ =>
          refine wpOp_step rfl (fun K hK => ?_)
          clear hdp
          go_simp
          exact hK _ _ ⟨.int .i64 (j : Int), rfl, rfl, Below.refl _ _, hC⟩
        | 2, _ =>
          have e0 : y0 0 = .slice (some ⟨g, 0, none⟩) n c := hdp 0 (dep_of (by kernel_rfl))
          have e1 : y0 1 = .int .i64 (j : Int) := hdp 1 (dep_of (by kernel_rfl))
          refine wpOp_step rfl (fun K hK => ?_)
          clear hdp
          go_simp
          exact hK _ _ ⟨.pointer (some ⟨g, j * 9, none⟩), by simp [upd, e0, e1], rfl, Below.refl _ _, hC⟩
        | 3, _ =>
          have e2 : y0 2 = .pointer (some ⟨g, j * 9, none⟩) := hdp 2 (dep_of (by kernel_rfl))
          refine wpOp_step rfl (fun K hK => ?_)
          clear hdp
          go_simp
          exact hK _ _ ⟨.pointer (some ⟨g, j * 9, none⟩), by simp [upd, e2], rfl, Below.refl _ _, hC⟩
        | 4, _ =>
          have q0 := HQ0.out x0 hC
          have e3 : y0 3 = .pointer (some ⟨g, j * 9, none⟩) := hdp 3 (dep_of (by kernel_rfl))
          refine wpOp_step rfl (fun K hK => ?_)
          clear hdp
          go_simp
          exact hK _ _ ⟨.string ⟨(markS (k + 9 * j)).toArray⟩, by simp [upd, e3], rfl, Below.refl _ _, hC⟩
        | 5, _ =>
          refine wpOp_step rfl (fun K hK => ?_)
          clear hdp
          go_simp
          exact hK _ _ ⟨Value.int IntKind.i64 ((k : Int) + 9 * (j : Int)), rfl, rfl, Below.refl _ _, hC⟩
        | 6, _ =>
          have e5 : y0 5 = Value.int IntKind.i64 ((k : Int) + 9 * (j : Int)) := hdp 5 (dep_of (by kernel_rfl))
          have hT := mark_natE (k + 9 * j) (((k : Int) + 9 * (j : Int))) (by omega) x0 (by omega)
          refine wpOp_step rfl (fun K hK => ?_)
          clear hdp
          go_simp
          refine hT.mono ?_
          rintro e w8 ⟨rfl, hb8⟩
          exact hK _ _ ⟨.string ⟨(markS (k + 9 * j)).toArray⟩, by simp [upd, e5], rfl, hb8, hC.trans (hb8.mono hC.size)⟩
        | n + 7, hn => exact absurd hn (by omega)
      · intro y0 x0 kk hkk hC hdp
        have e4 : y0 4 = .string ⟨(markS (k + 9 * j)).toArray⟩ := hdp 4 (by decide)
        have e6 : y0 6 = .string ⟨(markS (k + 9 * j)).toArray⟩ := hdp 6 (by decide)
        refine wpOp_step rfl (fun K hK => ?_)
        clear hdp
        go_simp
        refine hK _ _ ?_
        have hbel0 := hC
        have q1 : x0.cell? ⟨g, j * 9 + 1, none⟩ = some (.int .i64 ((k : Int) + 9 * (j : Int) + 1)) := (HH.out.keep (hC.block g hglt)).cell (j := 1) hlt (by decide)
        have q2 : x0.cell? ⟨g, j * 9 + 2, none⟩ = some (.int .i64 ((k : Int) + 9 * (j : Int) + 1 + 1)) := (HH.out.keep (hC.block g hglt)).cell (j := 2) hlt (by decide)
        have q3 : x0.cell? ⟨g, j * 9 + 3, none⟩ = some (.int .i64 ((k : Int) + 9 * (j : Int) + 1 + 1 + 1)) := (HH.out.keep (hC.block g hglt)).cell (j := 3) hlt (by decide)
        have q4 : x0.cell? ⟨g, j * 9 + 4, none⟩ = some (.bool (((k : Int) + 9 * (j : Int) + 1 + 1 + 1 + 1) % 3 == 0)) := ((HH.out.keep (hC.block g hglt)).cell (j := 4) hlt (by decide)).trans (congrArg (fun b => some (Value.bool b)) (hide_eq k j))
        clear hK K hC
        go_wp2_with fail
        have HQ5 : Hid (∀ W, Below w.heap.size w W → W.cell? ⟨g, j * 9 + 5, none⟩ = some (.string ⟨(markS (k + 9 * j + 5)).toArray⟩)) := Lib.hid fun W hW => (HH.out.keep (hW.block g hglt)).cell (j := 5) hlt (by decide)
        refine wp_region_last (by kernel_rfl) 8 (by kernel_rfl) (by kernel_rfl) (by kernel_rfl)
          (fun y5 => { tmps := #[Value.slice (some { block := g, off := 0 }) n c, Value.int IntKind.i64 ((k : Int) + 9 * (j : Int) + 1 + 1 + 1 + 1 + 1), undef, undef, u4, Value.int IntKind.i64 (j : Int), Value.int IntKind.i64 (j : Int), Value.slice (some { block := g, off := 0 }) n c, Value.int IntKind.i64 (n : Int), .bool true, u10, u11, y0 0, y0 1, y0 2, y0 3, Value.string { data := (markS (k + 9 * j)).toArray }, y0 5, Value.string { data := (markS (k + 9 * j)).toArray }, .bool false, Value.int IntKind.i64 ((k : Int) + 9 * (j : Int)), Value.int IntKind.i64 ((k : Int) + 9 * (j : Int) + 1), Value.slice (some { block := g, off := 0 }) n c, Value.int IntKind.i64 (j : Int), Value.pointer (some { block := g, off := j * 9 }), Value.pointer (some { block := g, off := j * 9 + 1 }), Value.int IntKind.i64 ((k : Int) + 9 * (j : Int) + 1), Value.int IntKind.i64 ((k : Int) + 9 * (j : Int) + 1), .bool false, Value.int IntKind.i64 ((k : Int) + 9 * (j : Int) + 1), Value.int IntKind.i64 ((k : Int) + 9 * (j : Int) + 1 + 1), Value.slice (some { block := g, off := 0 }) n c, Value.int IntKind.i64 (j : Int), Value.pointer (some { block := g, off := j * 9 }), Value.pointer (some { block := g, off := j * 9 + 2 }), Value.pointer (some { block := g, off := j * 9 + 2 }), Value.int IntKind.i64 ((k : Int) + 9 * (j : Int) + 1 + 1), Value.int IntKind.i64 ((k : Int) + 9 * (j : Int) + 1 + 1), .bool false, Value.int IntKind.i64 ((k : Int) + 9 * (j : Int) + 1 + 1), Value.int IntKind.i64 ((k : Int) + 9 * (j : Int) + 1 + 1 + 1), Value.slice (some { block := g, off := 0 }) n c, Value.int IntKind.i64 (j : Int), Value.pointer (some { block := g, off := j * 9 }), Value.pointer (some { block := g, off := j * 9 + 2 }), Value.pointer (some { block := g, off := j * 9 + 2 + 1 }), Value.int IntKind.i64 ((k : Int) + 9 * (j : Int) + 1 + 1 + 1), Value.int IntKind.i64 ((k : Int) + 9 * (j : Int) + 1 + 1 + 1), .bool false, Value.int IntKind.i64 ((k : Int) + 9 * (j : Int) + 1 + 1 + 1), Value.int IntKind.i64 ((k : Int) + 9 * (j : Int) + 1 + 1 + 1 + 1), Value.slice (some { block := g, off := 0 }) n c, Value.int IntKind.i64 (j : Int), Value.pointer (some { block := g, off := j * 9 }), Value.pointer (some { block := g, off := j * 9 + 2 }), Value.pointer (some { block := g, off := j * 9 + 2 + 2 }), .bool (((k : Int) + 9 * (j : Int) + 1 + 1 + 1 + 1) % 3 == 0), Value.int IntKind.i64 ((k : Int) + 9 * (j : Int) + 1 + 1 + 1 + 1), Value.int IntKind.i64 (((k : Int) + 9 * (j : Int) + 1 + 1 + 1 + 1) % 3), .bool (((k : Int) + 9 * (j : Int) + 1 + 1 + 1 + 1) % 3 == 0), .bool false, Value.int IntKind.i64 ((k : Int) + 9 * (j : Int) + 1 + 1 + 1 + 1), Value.int IntKind.i64 ((k : Int) + 9 * (j : Int) + 1 + 1 + 1 + 1 + 1), y5 0, y5 1, y5 2, y5 3, y5 4, y5 5, y5 6, y5 7, u71, u72, u73, u74, u75, u76, u77, u78, u79, u80, u81, u82, u83, u84, u85, u86, u87, u88, u89, u90, u91, u92, u93, u94, u95, u96, u97, u98, u99, u100, u101, u102, u103, undef], defers := [] })
          (fun _ x5 => Below w.heap.size w x5)
          (fun i z x5 => match i with
            | 0 => z = .slice (some ⟨g, 0, none⟩) n c
            | 1 => z = .int .i64 (j : Int)
            | 2 => z = .pointer (some ⟨g, j * 9, none⟩)
            | 3 => z = .pointer (some ⟨g, j * 9 + 2, none⟩)
            | 4 => z = .pointer (some ⟨g, j * 9 + 5, none⟩)
            | 5 => z = .string ⟨(markS (k + 9 * j + 5)).toArray⟩
            | 6 => z = Value.int IntKind.i64 ((k : Int) + 9 * (j : Int) + 1 + 1 + 1 + 1 + 1)
            | 7 => z = .string ⟨(markS (k + 9 * j + 5)).toArray⟩
            | _ => True)
          (fun x5 w8 => Below x5.heap.size x5 w8) (fun i => [u63, u64, u65, u66, u67, u68, u69, u70].getD i undef) hbel0.drew ?_ ?_ ?_
        · intro i z x5 w8 hi hR hle
          match i, hi with
          | 0, _ =>
            exact hR
          | 1, _ =>
            exact hR
          | 2, _ =>
            exact hR
          | 3, _ =>
            exact hR
          | 4, _ =>
            exact hR
          | 5, _ =>
            exact hR
          | 6, _ =>
            exact hR
          | 7, _ =>
            exact hR
          | n + 8, hn => exact absurd hn (by omega)
        · intro i hi y5 x5 kk hkk hC hdp
          match i, hi with
          | 0, _ =>
            refine wpOp_step rfl (fun K hK => ?_)
            clear hdp
            go_simp
            exact hK _ _ ⟨.slice (some ⟨g, 0, none⟩) n c, rfl, rfl, Below.refl _ _, hC⟩
          | 1, _ =>
            refine wpOp_step rfl (fun K hK => ?_)
            clear hdp
            go_simp
            exact hK _ _ ⟨.int .i64 (j : Int), rfl, rfl, Below.refl _ _, hC⟩
          | 2, _ =>
            have e0 : y5 0 = .slice (some ⟨g, 0, none⟩) n c := hdp 0 (dep_of (by kernel_rfl))
            have e1 : y5 1 = .int .i64 (j : Int) := hdp 1 (dep_of (by kernel_rfl))
            refine wpOp_step rfl (fun K hK => ?_)
            clear hdp
            go_simp
            exact hK _ _ ⟨.pointer (some ⟨g, j * 9, none⟩), by simp [upd, e0, e1], rfl, Below.refl _ _, hC⟩
          | 3, _ =>
            have e2 : y5 2 = .pointer (some ⟨g, j * 9, none⟩) := hdp 2 (dep_of (by kernel_rfl))
            refine wpOp_step rfl (fun K hK => ?_)
            clear hdp
            go_simp
            exact hK _ _ ⟨.pointer (some ⟨g, j * 9 + 2, none⟩), by simp [upd, e2], rfl, Below.refl _ _, hC⟩
          | 4, _ =>
            have e3 : y5 3 = .pointer (some ⟨g, j * 9 + 2, none⟩) := hdp 3 (dep_of (by kernel_rfl))
            refine wpOp_step rfl (fun K hK => ?_)
            clear hdp
            go_simp
            exact hK _ _ ⟨.pointer (some ⟨g, j * 9 + 5, none⟩), by simp [upd, e3], rfl, Below.refl _ _, hC⟩
          | 5, _ =>
            have q5 := HQ5.out x5 hC
            have e4 : y5 4 = .pointer (some ⟨g, j * 9 + 5, none⟩) := hdp 4 (dep_of (by kernel_rfl))
            refine wpOp_step rfl (fun K hK => ?_)
            clear hdp
            go_simp
            exact hK _ _ ⟨.string ⟨(markS (k + 9 * j + 5)).toArray⟩, by simp [upd, e4], rfl, Below.refl _ _, hC⟩
          | 6, _ =>
            refine wpOp_step rfl (fun K hK => ?_)
            clear hdp
            go_simp
            exact hK _ _ ⟨Value.int IntKind.i64 ((k : Int) + 9 * (j : Int) + 1 + 1 + 1 + 1 + 1), rfl, rfl, Below.refl _ _, hC⟩
          | 7, _ =>
            have e6 : y5 6 = Value.int IntKind.i64 ((k : Int) + 9 * (j : Int) + 1 + 1 + 1 + 1 + 1) := hdp 6 (dep_of (by kernel_rfl))
            have hT := mark_natE (k + 9 * j + 5) (((k : Int) + 9 * (j : Int) + 1 + 1 + 1 + 1 + 1)) (by omega) x5 (by omega)
            refine wpOp_step rfl (fun K hK => ?_)
            clear hdp
            go_simp
            refine hT.mono ?_
            rintro e w8 ⟨rfl, hb8⟩
            exact hK _ _ ⟨.string ⟨(markS (k + 9 * j + 5)).toArray⟩, by simp [upd, e6], rfl, hb8, hC.trans (hb8.mono hC.size)⟩
          | n + 8, hn => exact absurd hn (by omega)
        · intro y5 x5 kk hkk hC hdp
          have e5 : y5 5 = .string ⟨(markS (k + 9 * j + 5)).toArray⟩ := hdp 5 (by decide)
          have e7 : y5 7 = .string ⟨(markS (k + 9 * j + 5)).toArray⟩ := hdp 7 (by decide)
          refine wpOp_step rfl (fun K hK => ?_)
          clear hdp
          go_simp
          refine hK _ _ ?_
          have hbel5 := hC
          have q6 : x5.cell? ⟨g, j * 9 + 6, none⟩ = some (.int .i64 ((k : Int) + 9 * (j : Int) + 1 + 1 + 1 + 1 + 1 + 1)) := (HH.out.keep (hC.block g hglt)).cell (j := 6) hlt (by decide)
          clear hK K hC
          go_wp2_with fail
          have HQ7 : Hid (∀ W, Below w.heap.size w W → W.cell? ⟨g, j * 9 + 7, none⟩ = some (.string ⟨(markS (k + 9 * j + 7)).toArray⟩)) := Lib.hid fun W hW => (HH.out.keep (hW.block g hglt)).cell (j := 7) hlt (by decide)
          refine wp_region_last (by kernel_rfl) 8 (by kernel_rfl) (by kernel_rfl) (by kernel_rfl)
            (fun y7 => { tmps := #[Value.slice (some { block := g, off := 0 }) n c, Value.int IntKind.i64 ((k : Int) + 9 * (j : Int) + 1 + 1 + 1 + 1 + 1 + 1 + 1), undef, undef, u4, Value.int IntKind.i64 (j : Int), Value.int IntKind.i64 (j : Int), Value.slice (some { block := g, off := 0 }) n c, Value.int IntKind.i64 (n : Int), .bool true, u10, u11, y0 0, y0 1, y0 2, y0 3, Value.string { data := (markS (k + 9 * j)).toArray }, y0 5, Value.string { data := (markS (k + 9 * j)).toArray }, .bool false, Value.int IntKind.i64 ((k : Int) + 9 * (j : Int)), Value.int IntKind.i64 ((k : Int) + 9 * (j : Int) + 1), Value.slice (some { block := g, off := 0 }) n c, Value.int IntKind.i64 (j : Int), Value.pointer (some { block := g, off := j * 9 }), Value.pointer (some { block := g, off := j * 9 + 1 }), Value.int IntKind.i64 ((k : Int) + 9 * (j : Int) + 1), Value.int IntKind.i64 ((k : Int) + 9 * (j : Int) + 1), .bool false, Value.int IntKind.i64 ((k : Int) + 9 * (j : Int) + 1), Value.int IntKind.i64 ((k : Int) + 9 * (j : Int) + 1 + 1), Value.slice (some { block := g, off := 0 }) n c, Value.int IntKind.i64 (j : Int), Value.pointer (some { block := g, off := j * 9 }), Value.pointer (some { block := g, off := j * 9 + 2 }), Value.pointer (some { block := g, off := j * 9 + 2 }), Value.int IntKind.i64 ((k : Int) + 9 * (j : Int) + 1 + 1), Value.int IntKind.i64 ((k : Int) + 9 * (j : Int) + 1 + 1), .bool false, Value.int IntKind.i64 ((k : Int) + 9 * (j : Int) + 1 + 1), Value.int IntKind.i64 ((k : Int) + 9 * (j : Int) + 1 + 1 + 1), Value.slice (some { block := g, off := 0 }) n c, Value.int IntKind.i64 (j : Int), Value.pointer (some { block := g, off := j * 9 }), Value.pointer (some { block := g, off := j * 9 + 2 }), Value.pointer (some { block := g, off := j * 9 + 2 + 1 }), Value.int IntKind.i64 ((k : Int) + 9 * (j : Int) + 1 + 1 + 1), Value.int IntKind.i64 ((k : Int) + 9 * (j : Int) + 1 + 1 + 1), .bool false, Value.int IntKind.i64 ((k : Int) + 9 * (j : Int) + 1 + 1 + 1), Value.int IntKind.i64 ((k : Int) + 9 * (j : Int) + 1 + 1 + 1 + 1), Value.slice (some { block := g, off := 0 }) n c, Value.int IntKind.i64 (j : Int), Value.pointer (some { block := g, off := j * 9 }), Value.pointer (some { block := g, off := j * 9 + 2 }), Value.pointer (some { block := g, off := j * 9 + 2 + 2 }), .bool (((k : Int) + 9 * (j : Int) + 1 + 1 + 1 + 1) % 3 == 0), Value.int IntKind.i64 ((k : Int) + 9 * (j : Int) + 1 + 1 + 1 + 1), Value.int IntKind.i64 (((k : Int) + 9 * (j : Int) + 1 + 1 + 1 + 1) % 3), .bool (((k : Int) + 9 * (j : Int) + 1 + 1 + 1 + 1) % 3 == 0), .bool false, Value.int IntKind.i64 ((k : Int) + 9 * (j : Int) + 1 + 1 + 1 + 1), Value.int IntKind.i64 ((k : Int) + 9 * (j : Int) + 1 + 1 + 1 + 1 + 1), y5 0, y5 1, y5 2, y5 3, y5 4, Value.string { data := (markS (k + 9 * j + 5)).toArray }, y5 6, Value.string { data := (markS (k + 9 * j + 5)).toArray }, .bool false, Value.int IntKind.i64 ((k : Int) + 9 * (j : Int) + 1 + 1 + 1 + 1 + 1), Value.int IntKind.i64 ((k : Int) + 9 * (j : Int) + 1 + 1 + 1 + 1 + 1 + 1), Value.slice (some { block := g, off := 0 }) n c, Value.int IntKind.i64 (j : Int), Value.pointer (some { block := g, off := j * 9 }), Value.pointer (some { block := g, off := j * 9 + 2 }), Value.pointer (some { block := g, off := j * 9 + 2 + 4 }), Value.int IntKind.i64 ((k : Int) + 9 * (j : Int) + 1 + 1 + 1 + 1 + 1 + 1), Value.int IntKind.i64 ((k : Int) + 9 * (j : Int) + 1 + 1 + 1 + 1 + 1 + 1), .bool false, Value.int IntKind.i64 ((k : Int) + 9 * (j : Int) + 1 + 1 + 1 + 1 + 1 + 1), Value.int IntKind.i64 ((k : Int) + 9 * (j : Int) + 1 + 1 + 1 + 1 + 1 + 1 + 1), y7 0, y7 1, y7 2, y7 3, y7 4, y7 5, y7 6, y7 7, u92, u93, u94, u95, u96, u97, u98, u99, u100, u101, u102, u103, undef], defers := [] })
            (fun _ x7 => Below w.heap.size w x7)
            (fun i z x7 => match i with
              | 0 => z = .slice (some ⟨g, 0, none⟩) n c
              | 1 => z = .int .i64 (j : Int)
              | 2 => z = .pointer (some ⟨g, j * 9, none⟩)
              | 3 => z = .pointer (some ⟨g, j * 9 + 2, none⟩)
              | 4 => z = .pointer (some ⟨g, j * 9 + 7, none⟩)
              | 5 => z = .string ⟨(markS (k + 9 * j + 7)).toArray⟩
              | 6 => z = Value.int IntKind.i64 ((k : Int) + 9 * (j : Int) + 1 + 1 + 1 + 1 + 1 + 1 + 1)
              | 7 => z = .string ⟨(markS (k + 9 * j + 7)).toArray⟩
              | _ => True)
            (fun x7 w8 => Below x7.heap.size x7 w8) (fun i => [u84, u85, u86, u87, u88, u89, u90, u91].getD i undef) hbel5.drew ?_ ?_ ?_
          · intro i z x7 w8 hi hR hle
            match i, hi with
            | 0, _ =>
              exact hR
            | 1, _ =>
              exact hR
            | 2, _ =>
              exact hR
            | 3, _ =>
              exact hR
            | 4, _ =>
              exact hR
            | 5, _ =>
              exact hR
            | 6, _ =>
              exact hR
            | 7, _ =>
              exact hR
            | n + 8, hn => exact absurd hn (by omega)
          · intro i hi y7 x7 kk hkk hC hdp
            match i, hi with
            | 0, _ =>
              refine wpOp_step rfl (fun K hK => ?_)
              clear hdp
              go_simp
              exact hK _ _ ⟨.slice (some ⟨g, 0, none⟩) n c, rfl, rfl, Below.refl _ _, hC⟩
            | 1, _ =>
              refine wpOp_step rfl (fun K hK => ?_)
              clear hdp
              go_simp
              exact hK _ _ ⟨.int .i64 (j : Int), rfl, rfl, Below.refl _ _, hC⟩
            | 2, _ =>
              have e0 : y7 0 = .slice (some ⟨g, 0, none⟩) n c := hdp 0 (dep_of (by kernel_rfl))
              have e1 : y7 1 = .int .i64 (j : Int) := hdp 1 (dep_of (by kernel_rfl))
              refine wpOp_step rfl (fun K hK => ?_)
              clear hdp
              go_simp
              exact hK _ _ ⟨.pointer (some ⟨g, j * 9, none⟩), by simp [upd, e0, e1], rfl, Below.refl _ _, hC⟩
            | 3, _ =>
              have e2 : y7 2 = .pointer (some ⟨g, j * 9, none⟩) := hdp 2 (dep_of (by kernel_rfl))
              refine wpOp_step rfl (fun K hK => ?_)
              clear hdp
              go_simp
              exact hK _ _ ⟨.pointer (some ⟨g, j * 9 + 2, none⟩), by simp [upd, e2], rfl, Below.refl _ _, hC⟩
            | 4, _ =>
              have e3 : y7 3 = .pointer (some ⟨g, j * 9 + 2, none⟩) := hdp 3 (dep_of (by kernel_rfl))
              refine wpOp_step rfl (fun K hK => ?_)
              clear hdp
              go_simp
              exact hK _ _ ⟨.pointer (some ⟨g, j * 9 + 7, none⟩), by simp [upd, e3], rfl, Below.refl _ _, hC⟩
            | 5, _ =>
              have q7 := HQ7.out x7 hC
              have e4 : y7 4 = .pointer (some ⟨g, j * 9 + 7, none⟩) := hdp 4 (dep_of (by kernel_rfl))
              refine wpOp_step rfl (fun K hK => ?_)
              clear hdp
              go_simp
              exact hK _ _ ⟨.string ⟨(markS (k + 9 * j + 7)).toArray⟩, by simp [upd, e4], rfl, Below.refl _ _, hC⟩
            | 6, _ =>
              refine wpOp_step rfl (fun K hK => ?_)
              clear hdp
              go_simp
              exact hK _ _ ⟨Value.int IntKind.i64 ((k : Int) + 9 * (j : Int) + 1 + 1 + 1 + 1 + 1 + 1 + 1), rfl, rfl, Below.refl _ _, hC⟩
            | 7, _ =>
              have e6 : y7 6 = Value.int IntKind.i64 ((k : Int) + 9 * (j : Int) + 1 + 1 + 1 + 1 + 1 + 1 + 1) := hdp 6 (dep_of (by kernel_rfl))
              have hT := mark_natE (k + 9 * j + 7) (((k : Int) + 9 * (j : Int) + 1 + 1 + 1 + 1 + 1 + 1 + 1)) (by omega) x7 (by omega)
              refine wpOp_step rfl (fun K hK => ?_)
              clear hdp
              go_simp
              refine hT.mono ?_
              rintro e w8 ⟨rfl, hb8⟩
              exact hK _ _ ⟨.string ⟨(markS (k + 9 * j + 7)).toArray⟩, by simp [upd, e6], rfl, hb8, hC.trans (hb8.mono hC.size)⟩
            | n + 8, hn => exact absurd hn (by omega)
          · intro y7 x7 kk hkk hC hdp
            have e5 : y7 5 = .string ⟨(markS (k + 9 * j + 7)).toArray⟩ := hdp 5 (by decide)
            have e7 : y7 7 = .string ⟨(markS (k + 9 * j + 7)).toArray⟩ := hdp 7 (by decide)
            refine wpOp_step rfl (fun K hK => ?_)
            clear hdp
            go_simp
            refine hK _ _ ?_
            have hbel7 := hC
            have q8 : x7.cell? ⟨g, j * 9 + 8, none⟩ = some (.int .i64 ((k : Int) + 9 * (j : Int) + 1 + 1 + 1 + 1 + 1 + 1 + 1 + 1)) := (HH.out.keep (hC.block g hglt)).cell (j := 8) hlt (by decide)
            clear hK K hC
            go_wp2
            go_roundw
            case rel => exact ⟨j + 1, by omega, by go_num, by go_num, hbel7⟩
            case measure => simp [intOf]; omega
    · have hjn : j = n := by omega
      subst hjn
      go_wp2
      go_ret
      exact ⟨rfl, hbel⟩
end Go.Proofs.Ytdjbcjmkmkljnab
