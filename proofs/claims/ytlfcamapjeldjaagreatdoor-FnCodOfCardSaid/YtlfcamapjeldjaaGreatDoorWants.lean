/- Walks: the drawing of what somebody would take. -/
import Derived.Test.YtlfcamapjeldjaaGreatDoorDrawF
import Derived.Test.YtlfcamapjeldjaaGreatDoorDraw3
namespace Go.Proofs.YtlfcamapjeldjaaGreatDoor
open Go.RowKit

def wNames : Array Value := #[.string ⟨#[103, 122]⟩, .string ⟨#[98, 114]⟩, .string ⟨#[112, 108, 97, 105, 110]⟩, .string ⟨#[42]⟩, .string ⟨#[71, 90]⟩, .string ⟨#[32, 98, 114, 32]⟩]
def wQs : Array Value := #[.string ⟨#[]⟩, .string ⟨#[59, 113, 61, 48]⟩, .string ⟨#[59, 32, 113, 61, 48, 46, 53]⟩, .string ⟨#[59, 113, 61, 49]⟩, .string ⟨#[59, 113, 61, 50]⟩, .string ⟨#[59, 120]⟩]
def wIx : Array Value := #[.int .i64 0, .int .i64 0, .int .i64 0, .int .i64 1, .int .i64 1, .int .i64 2, .int .i64 3, .int .i64 4, .int .i64 5]
def RCellI (g n : Nat) : Value → World → Prop := fun v w => ∃ b r x, v = .pointer (some ⟨b, r, none⟩) ∧ b ≠ g ∧ w.cell? ⟨b, r, none⟩ = some (.int .i64 ((x : Nat) : Int)) ∧ x < n
theorem stay_cellI (g n : Nat) : Stay g (RCellI g n) := fun _ _ _ ⟨b, r, x, h1, h2, h3, h4⟩ hg => ⟨b, r, x, h1, h2, (hg.cell h3 (fun e => h2 (by injection e))), h4⟩
theorem wix_at : ∀ r : Fin 9, ∃ x : Nat, wIx[r.val]? = some (.int .i64 (x : Int)) ∧ x < 6 := by
  intro r
  match r with
  | ⟨0, _⟩ => exact ⟨0, rfl, by decide⟩
  | ⟨1, _⟩ => exact ⟨0, rfl, by decide⟩
  | ⟨2, _⟩ => exact ⟨0, rfl, by decide⟩
  | ⟨3, _⟩ => exact ⟨1, rfl, by decide⟩
  | ⟨4, _⟩ => exact ⟨1, rfl, by decide⟩
  | ⟨5, _⟩ => exact ⟨2, rfl, by decide⟩
  | ⟨6, _⟩ => exact ⟨3, rfl, by decide⟩
  | ⟨7, _⟩ => exact ⟨4, rfl, by decide⟩
  | ⟨8, _⟩ => exact ⟨5, rfl, by decide⟩

set_option maxRecDepth 100000 in
set_option maxHeartbeats 3200000 in
theorem wants_any (g B m : Nat) (w : World) (hm : m ≤ 600000) (h : RdAt w B g m) :
    Calls Tryz.prog 19 #[.pointer (some ⟨g, 0, none⟩)] w (DrawnStr 70 w B g (m + 130)) := by
  have hg := h.lt
  go_enter Tryz.func19, Tryz.ntmps19
  go_wp2_with fail
  refine (pick_lit g 3 3 rfl (by decide) B m _ (by omega) (by decide) h).mono ?_
  rintro e w1 ⟨r, rfl, hr, -, hd1⟩
  go_wp2
  go_loopw [3, 4] (fun sv i wr => ∃ (k : Nat) (s : ByteArray), i = .int .i64 k ∧ sv = .string s ∧ k ≤ 3 ∧ s.size + 22 * k ≤ 66 ∧ Drawn w wr B g (m + 1 + 40 * (3 - k))) (fun _ i _ => (intOf i).toNat)
  case atStart => exact ⟨r + 1, ⟨#[]⟩, by go_num, rfl, by omega, by show 0 + 22 * (r + 1) ≤ 66; omega, hd1.mono (by omega)⟩
  case round =>
    obtain ⟨k, s, rfl, rfl, hk, hsz, hD⟩ := hrel
    by_cases hlt : 0 < k
    · have hszr := hD.2.size
      go_wp2_with fail
      refine wp_region_last (by kernel_rfl) 16 (by kernel_rfl) (by kernel_rfl) (by kernel_rfl)
        (fun z => { tmps := #[.pointer (some ⟨g, 0, none⟩), undef, .string ⟨#[]⟩, .string s, .int .i64 (k : Int), .pointer (some ⟨g, 0, none⟩), .int .i64 (r : Int), .int .i64 (1 + (r : Int)), .int .i64 (k : Int), .bool true, u10, u11, z 0, z 1, z 2, z 3, z 4, z 5, z 6, z 7, z 8, z 9, z 10, z 11, z 12, z 13, z 14, z 15, u28, u29, u30, u31, u32, u33, u34, u35, u36, undef], defers := [] })
        (CAtK wr B g (m + 1 + 40 * (3 - k)) 1)
        (RAt [REq (.string s), RLit g 6 wNames 9, REq (.pointer (some ⟨g, 0, none⟩)), RNum 6, RCell g 10, RStr 10, RStr (s.size + 10), RLit g 6 wQs 9, RLit g 9 wIx 3, REq (.pointer (some ⟨g, 0, none⟩)), RNum 9, RCellI g 6, RNum 6, RCell g 10, RStr 10, RStr (s.size + 20)])
        (fun w w' => w.grownBy w' (some g)) (fun i => [u12, u13, u14, u15, u16, u17, u18, u19, u20, u21, u22, u23, u24, u25, u26, u27].getD i undef) ⟨(Drawn.refl hD.1).drew, hD.1.lt⟩
        (fun i v w w' _ hR hle => stay_at (g := g) (by exact ⟨stay_eq _ _, stay_lit _ _ _ _, stay_eq _ _, stay_num _ _, stay_cell _ _, stay_str _ _, stay_str _ _, stay_lit _ _ _ _, stay_lit _ _ _ _, stay_eq _ _, stay_num _ _, stay_cellI _ _, stay_num _ _, stay_cell _ _, stay_str _ _, stay_str _ _, trivial⟩) v w w' hR hle) ?_ ?_
      · intro i hi z wa kk hkk hC hd
        have hlt := catk_lt hC
        match i, hi with
        | 0, _ =>
          refine wpOp_step rfl (fun K hK => ?_)
          clear hd
          go_simp
          exact hK _ _ ⟨_, rfl, rfl, World.grownBy.refl _ _, catk_same hC⟩
        | 1, _ =>
          refine wpOp_step rfl (fun K hK => ?_)
          clear hd
          go_simp
          exact hK _ _ ⟨_, rfl, ⟨_, rfl, by omega, heap_alloc_new wa _⟩, World.grownBy_alloc _ _ _, catk_alloc hC _⟩
        | 2, _ =>
          refine wpOp_step rfl (fun K hK => ?_)
          clear hd
          go_simp
          exact hK _ _ ⟨_, rfl, rfl, World.grownBy.refl _ _, catk_same hC⟩
        | 3, _ =>
          have e2 : z 2 = .pointer (some ⟨g, 0, none⟩) := hd 2 (dep_of (by kernel_rfl))
          refine wpOp_step rfl (fun K hK => ?_)
          clear hd
          go_simp
          refine (pick_lit g 6 6 rfl (by decide) B (m + 1 + 40 * (3 - k) + 1 * kk) _ (by omega) (by decide) hC.1.1).mono ?_
          rintro e wb ⟨r, rfl, hr, -, hd2⟩
          exact hK _ _ ⟨_, by simp [upd, e2], ⟨r, rfl, hr⟩, hd2.2, catk_drawn hC hd2 (by omega)⟩
        | 4, _ =>
          obtain ⟨b, e0, hbg, hb⟩ : RLit g 6 wNames 9 (z 1) wa := hd 1 (dep_of (by kernel_rfl))
          obtain ⟨r, e2, hr⟩ : RNum 6 (z 3) wa := hd 3 (dep_of (by kernel_rfl))
          obtain ⟨s2, hs, hk10⟩ := lit_at (K := 10) hb (by decide) (r := r) hr
          have hr6 : (r : Int) < 6 := by omega
          refine wpOp_step rfl (fun K hK => ?_)
          clear hd
          go_simp
          exact hK _ _ ⟨_, by simp [upd, e0, e2], ⟨b, r, s2, rfl, hbg, hs, hk10⟩, World.grownBy.refl _ _, catk_same hC⟩
        | 5, _ =>
          obtain ⟨b, r, s2, e3, hbg, hs, hk10⟩ : RCell g 10 (z 4) wa := hd 4 (dep_of (by kernel_rfl))
          refine wpOp_step rfl (fun K hK => ?_)
          clear hd
          go_simp
          exact hK _ _ ⟨_, by simp [upd, e3], ⟨s2, rfl, hk10⟩, World.grownBy.refl _ _, catk_same hC⟩
        | 6, _ =>
          have e0 : z 0 = .string s := hd 0 (dep_of (by kernel_rfl))
          obtain ⟨t, e5, ht⟩ : RStr 10 (z 5) wa := hd 5 (dep_of (by kernel_rfl))
          have hno : ¬ (9223372036854775807 < s.size + t.size) := by omega
          refine wpOp_step rfl (fun K hK => ?_)
          clear hd
          go_simp
          exact hK _ _ ⟨_, by simp [upd, e0, e5], ⟨s ++ t, rfl, by rw [bytes_app]; omega⟩, World.grownBy.refl _ _, catk_same hC⟩
        | 7, _ =>
          refine wpOp_step rfl (fun K hK => ?_)
          clear hd
          go_simp
          exact hK _ _ ⟨_, rfl, ⟨_, rfl, by omega, heap_alloc_new wa _⟩, World.grownBy_alloc _ _ _, catk_alloc hC _⟩
        | 8, _ =>
          refine wpOp_step rfl (fun K hK => ?_)
          clear hd
          go_simp
          exact hK _ _ ⟨_, rfl, ⟨_, rfl, by omega, heap_alloc_new wa _⟩, World.grownBy_alloc _ _ _, catk_alloc hC _⟩
        | 9, _ =>
          refine wpOp_step rfl (fun K hK => ?_)
          clear hd
          go_simp
          exact hK _ _ ⟨_, rfl, rfl, World.grownBy.refl _ _, catk_same hC⟩
        | 10, _ =>
          have e9 : z 9 = .pointer (some ⟨g, 0, none⟩) := hd 9 (dep_of (by kernel_rfl))
          refine wpOp_step rfl (fun K hK => ?_)
          clear hd
          go_simp
          refine (pick_lit g 9 9 rfl (by decide) B (m + 1 + 40 * (3 - k) + 1 * kk) _ (by omega) (by decide) hC.1.1).mono ?_
          rintro e wb ⟨r, rfl, hr, -, hd2⟩
          exact hK _ _ ⟨_, by simp [upd, e9], ⟨r, rfl, hr⟩, hd2.2, catk_drawn hC hd2 (by omega)⟩
        | 11, _ =>
          obtain ⟨b, e0, hbg, hb⟩ : RLit g 9 wIx 3 (z 8) wa := hd 8 (dep_of (by kernel_rfl))
          obtain ⟨r, e2, hr⟩ : RNum 9 (z 10) wa := hd 10 (dep_of (by kernel_rfl))
          obtain ⟨x, hx, hx6⟩ := wix_at ⟨r, hr⟩
          have hcx : wa.cell? ⟨b, r, none⟩ = some (.int .i64 (x : Int)) := by rw [cell_of_row wa b r wIx 3 (0, 0) hb]; exact hx
          have hr9 : (r : Int) < 9 := by omega
          refine wpOp_step rfl (fun K hK => ?_)
          clear hd
          go_simp
          exact hK _ _ ⟨_, by simp [upd, e0, e2], ⟨b, r, x, rfl, hbg, hcx, hx6⟩, World.grownBy.refl _ _, catk_same hC⟩
        | 12, _ =>
          obtain ⟨b, r, x, e3, hbg, hs, hx6⟩ : RCellI g 6 (z 11) wa := hd 11 (dep_of (by kernel_rfl))
          refine wpOp_step rfl (fun K hK => ?_)
          clear hd
          go_simp
          exact hK _ _ ⟨_, by simp [upd, e3], ⟨x, rfl, hx6⟩, World.grownBy.refl _ _, catk_same hC⟩
        | 13, _ =>
          obtain ⟨b, e0, hbg, hb⟩ : RLit g 6 wQs 9 (z 7) wa := hd 7 (dep_of (by kernel_rfl))
          obtain ⟨r, e2, hr⟩ : RNum 6 (z 12) wa := hd 12 (dep_of (by kernel_rfl))
          obtain ⟨s2, hs, hk10⟩ := lit_at (K := 10) hb (by decide) (r := r) hr
          have hr6 : (r : Int) < 6 := by omega
          refine wpOp_step rfl (fun K hK => ?_)
          clear hd
          go_simp
          exact hK _ _ ⟨_, by simp [upd, e0, e2], ⟨b, r, s2, rfl, hbg, hs, hk10⟩, World.grownBy.refl _ _, catk_same hC⟩
        | 14, _ =>
          obtain ⟨b, r, s2, e3, hbg, hs, hk10⟩ : RCell g 10 (z 13) wa := hd 13 (dep_of (by kernel_rfl))
          refine wpOp_step rfl (fun K hK => ?_)
          clear hd
          go_simp
          exact hK _ _ ⟨_, by simp [upd, e3], ⟨s2, rfl, hk10⟩, World.grownBy.refl _ _, catk_same hC⟩
        | 15, _ =>
          obtain ⟨t, e6, ht⟩ : RStr (s.size + 10) (z 6) wa := hd 6 (dep_of (by kernel_rfl))
          obtain ⟨t2, e14, ht2⟩ : RStr 10 (z 14) wa := hd 14 (dep_of (by kernel_rfl))
          have hno : ¬ (9223372036854775807 < t.size + t2.size) := by omega
          refine wpOp_step rfl (fun K hK => ?_)
          clear hd
          go_simp
          exact hK _ _ ⟨_, by simp [upd, e6, e14], ⟨t ++ t2, rfl, by rw [bytes_app]; omega⟩, World.grownBy.refl _ _, catk_same hC⟩
        | n + 16, hi => exact absurd hi (by omega)
      · intro z wa kk hkk hC hd
        obtain ⟨t, e15, ht⟩ : RStr (s.size + 20) (z 15) wa := hd 15 (by decide)
        have hD2 : Drawn w wa B g (m + 1 + 40 * (3 - k) + 16) := by
          have := hD.trans (hC.1.mono (show m + 1 + 40 * (3 - k) + 1 * kk ≤ m + 1 + 40 * (3 - k) + 16 from by omega))
          exact this
        refine wpOp_step rfl (fun K hK => ?_)
        clear hd
        go_simp
        refine hK _ _ ?_
        clear hK K hC
        by_cases h1 : 1 < k
        · go_wp2_with fail
          refine (pick_lit g 2 2 rfl (by decide) B _ _ (by omega) (by decide) (hD2.1.alloc _)).mono ?_
          rintro e wb ⟨r2, rfl, hr2, hrq, hd2⟩
          obtain ⟨s3, hs3, hk3⟩ := lit_str (K := 2) hd2 hD2.1.lt (by decide) r2 (by simp; omega)
          have hD3 := hD2.trans hd2.of_alloc
          clear hd2 hD2
          go_wp2
          go_roundw
          case rel => exact ⟨k - 1, t ++ s3, by go_num, rfl, by omega, by rw [bytes_app]; omega, hD3.mono (by omega)⟩
          case measure => simp [intOf]; omega
        · have hk1 : k = 1 := by omega
          subst hk1
          go_wp2
          go_roundw
          case rel => exact ⟨0, t, by go_num, rfl, by omega, by omega, hD2.mono (by omega)⟩
          case measure => simp [intOf]
    · have hk0 : k = 0 := by omega
      subst hk0
      go_wp2
      go_ret
      exact ⟨s, rfl, by omega, hD.mono (by omega)⟩
end Go.Proofs.YtlfcamapjeldjaaGreatDoor
