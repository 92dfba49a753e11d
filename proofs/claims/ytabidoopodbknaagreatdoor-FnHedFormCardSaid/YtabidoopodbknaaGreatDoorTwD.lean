/- Walks: the drawing of two requests in two forms. -/
import Derived.Test.YtabidoopodbknaaGreatDoorTwC
import Derived.Test.YtabidoopodbknaaGreatDoorGHfP
namespace Go.Proofs.YtabidoopodbknaaGreatDoor
open Go.RowKit

def RIn (L : List ByteArray) : Value → World → Prop := fun v _ => ∃ s, s ∈ L ∧ v = .string s
def RCellL (g : Nat) (L : List ByteArray) : Value → World → Prop := fun v w => ∃ b r s, v = .pointer (some ⟨b, r, none⟩) ∧ b ≠ g ∧ w.cell? ⟨b, r, none⟩ = some (.string s) ∧ s ∈ L
def RAggT (T H : List ByteArray) : Value → World → Prop := fun v _ => ∃ s t : ByteArray, s ∈ T ∧ t ∈ H ∧ v = .agg #[.string ⟨#[103, 101, 116]⟩, .string s, .string t, .slice none 0 0, .string ⟨#[]⟩]
theorem stay_in (g : Nat) (L : List ByteArray) : Stay g (RIn L) := fun _ _ _ h _ => h
theorem stay_cellL (g : Nat) (L : List ByteArray) : Stay g (RCellL g L) := fun _ _ _ ⟨b, r, s, h1, h2, h3, h4⟩ hg => ⟨b, r, s, h1, h2, hg.cell h3 (fun e => h2 (by injection e)), h4⟩
theorem stay_aggT (g : Nat) (T H : List ByteArray) : Stay g (RAggT T H) := fun _ _ _ h _ => h
def RVarT (g B : Nat) : Value → World → Prop := fun v w => ∃ b, v = .pointer (some ⟨b, 0, none⟩) ∧ g < b ∧ B ≤ b ∧ w.heap[b]? = some (.cells #[.string ⟨#[]⟩, .string ⟨#[]⟩, .string ⟨#[]⟩, .slice none 0 0, .string ⟨#[]⟩] 27 (0, 0))
theorem stay_vart (g B : Nat) : Stay g (RVarT g B) := fun _ _ _ ⟨b, h1, h2, h3, h4⟩ hg => ⟨b, h1, h2, h3, block_keep (by omega) h4 hg⟩

def wrB (h : Hd) : ByteArray := if hedB h = true then ⟨(hedT h).toArray⟩ else ⟨#[]⟩
theorem spec_wr (h : Hd) (v : Value) (w : World) (hv : FRow w v h.fs) (hn : h.fs.length ≤ 2000000) (hok : FOk h.fs 2000000)
    (b1 : h.verb.size ≤ 1048576) (b2 : h.target.size ≤ 1048576) (b3 : h.host.size ≤ 1048576) (b4 : h.body.size ≤ 1048576) :
    Calls Tryz.prog 13 #[.agg #[.string h.verb, .string h.target, .string h.host, v, .string h.body]] w fun e w' => e = .returned (.string (wrB h)) ∧ Below w.heap.size w w' := by
  unfold wrB
  exact spec_hedwrite h v w hv hn hok b1 b2 b3 b4
structure HOne (h : Hd) : Prop where
  verb : h.verb = ⟨#[103, 101, 116]⟩
  body : h.body = ⟨#[]⟩
  target : h.target ∈ twTL
  host : h.host ∈ twHL
  fs : ∃ a b, a ∈ twAL ∧ b ∈ twSL ∧ (h.fs = [] ∨ h.fs = [(⟨#[97, 99, 99, 101, 112, 116]⟩, a)] ∨ h.fs = [(⟨#[105, 102, 45, 110, 111, 110, 101]⟩, b)] ∨ h.fs = [(⟨#[97, 99, 99, 101, 112, 116]⟩, a), (⟨#[105, 102, 45, 110, 111, 110, 101]⟩, b)])
theorem HOne.len {h : Hd} (hh : HOne h) : h.fs.length ≤ 2 := by
  obtain ⟨_, _, _, _, h | h | h | h⟩ := hh.fs <;> simp [h]
theorem HOne.ok {h : Hd} (hh : HOne h) : FOk h.fs 40 := by
  obtain ⟨a, b, ha, hb, h | h | h | h⟩ := hh.fs <;> rw [h] <;> intro f hf
  · simp at hf
  · obtain rfl : f = (⟨#[97, 99, 99, 101, 112, 116]⟩, a) := by simpa using hf
    exact ⟨(show (ByteArray.mk #[97, 99, 99, 101, 112, 116]).size ≤ 40 from by decide), Nat.le_trans (al_size ha) (by decide)⟩
  · obtain rfl : f = (⟨#[105, 102, 45, 110, 111, 110, 101]⟩, b) := by simpa using hf
    exact ⟨(show (ByteArray.mk #[105, 102, 45, 110, 111, 110, 101]).size ≤ 40 from by decide), Nat.le_trans (sl_size hb) (by decide)⟩
  · have hf' : f = (⟨#[97, 99, 99, 101, 112, 116]⟩, a) ∨ f = (⟨#[105, 102, 45, 110, 111, 110, 101]⟩, b) := by simpa using hf
    rcases hf' with rfl | rfl
    · exact ⟨(show (ByteArray.mk #[97, 99, 99, 101, 112, 116]).size ≤ 40 from by decide), Nat.le_trans (al_size ha) (by decide)⟩
    · exact ⟨(show (ByteArray.mk #[105, 102, 45, 110, 111, 110, 101]).size ≤ 40 from by decide), Nat.le_trans (sl_size hb) (by decide)⟩
def lis (f : Fd) : List UInt8 × List UInt8 := (f.1.data.toList, f.2.data.toList)
def exQ (s t : ByteArray) : Prop := s ∈ twNL ∧ t ∈ twVL
theorem ex_ok {h : Hd} {ex : List Fd} (hh : HOne h) (he : ∀ f ∈ ex, exQ f.1 f.2) : FOk (ex ++ h.fs.reverse) 40 := fun f hf => by
  rcases List.mem_append.1 hf with hf | hf
  · exact ⟨Nat.le_trans (nl_size (he f hf).1) (by decide), vl_size (he f hf).2⟩
  · exact hh.ok f (List.mem_reverse.1 hf)
theorem mk_size (a : Array UInt8) : (ByteArray.mk a).size = a.size := rfl
def twPre (host target : List UInt8) : List UInt8 := [103, 101, 116, 32, 104, 116, 116, 112, 58, 47, 47] ++ (host ++ ([58, 56, 48] ++ (target ++ ([10, 72, 79, 83, 84, 58, 32] ++ (host ++ [10])))))
def twLine (f : Fd) : List UInt8 := f.1.data.toList ++ (58 :: (f.2.data.toList ++ [10]))
theorem twin_text (host target : List UInt8) (fs : List Fd) : twinL host target (fs.map lis) = (twPre host target ++ fs.flatMap twLine) ++ [10] := by
  unfold twinL twinLs joinL twPre
  rw [List.map_map, List.flatMap_cons, List.flatMap_cons, List.flatMap_map]
  have e : fs.flatMap (fun a => ((fun f : List UInt8 × List UInt8 => f.1 ++ 58 :: f.2) ∘ lis) a ++ [10]) = fs.flatMap twLine := by
    congr 1
    funext f
    simp [twLine, lis]
  rw [e]
  simp [bGet, bHttp]
/-- What is drawn: a request as it is written, and one that asks for the same, as it is written or in the second form. -/
def TwinR (s t : ByteArray) : Prop := ∃ (h : Hd) (host : ByteArray) (ex : List Fd), HOne h ∧ host ∈ twHL ∧ (∀ f ∈ ex, exQ f.1 f.2) ∧ ex.length ≤ 2 ∧ s = wrB h ∧
  (t = wrB { h with host := host, fs := ex ++ h.fs.reverse } ∨ t.data.toList = twinL host.data.toList h.target.data.toList ((ex ++ h.fs.reverse).map lis))

set_option maxRecDepth 100000 in
set_option maxHeartbeats 6400000 in
theorem draw_twin (a : Option Addr) (len cap : Nat) (zs : List Int) (w : World) (h : IsRow .u8 w a len cap zs) :
    Calls Tryz.prog 4 #[.slice a len cap] w fun e w' => (∃ s t : ByteArray, e = .returned (.tuple #[.string s, .string t]) ∧ TwinR s t) ∧ Below w.heap.size w w' := by
  have HI := Lib.hid h
  clear h
  go_enter Tryz.func4, Tryz.ntmps4
  go_wp2_with fail
  refine (open_any a len cap zs _ HI.out).mono ?_
  rintro e w1 ⟨g, rfl, hrd, hb1⟩
  have hg := hrd.lt
  have hgB := hrd.1
  obtain ⟨B, hB⟩ : ∃ B, B = w.heap.size := ⟨_, rfl⟩
  rw [← hB] at hrd hgB
  have HB0 := Lib.hid hB
  clear hB
  go_wp2_with fail
  refine wp_region_last (by kernel_rfl) 12 (by kernel_rfl) (by kernel_rfl) (by kernel_rfl)
    (fun z => { tmps := #[.slice a len cap, undef, .string ⟨#[]⟩, .string ⟨#[]⟩, .pointer (some ⟨g, 0, none⟩), z 11, undef, undef, undef, undef, undef, undef, undef, .slice a len cap, .pointer (some ⟨g, 0, none⟩), z 0, z 1, z 2, z 3, z 4, z 5, z 6, z 7, z 8, z 9, z 10, undef, undef, undef, undef, undef, undef, undef, undef, undef, undef, undef, undef, undef, undef, undef, undef, undef, undef, undef, undef, undef, undef, undef, undef, undef, undef, undef, undef, undef, undef, undef, undef, undef, undef, undef, undef, undef, undef, undef, undef, undef, undef, undef, undef, undef, undef, undef, undef, undef, undef, undef, undef, undef, undef, undef, undef, undef, undef, undef, undef, undef, undef, undef, undef, undef, undef, undef, undef, undef, undef, undef, undef, undef, undef, undef, undef, undef, undef, undef, undef, undef, undef, undef, undef, undef, undef, undef, undef, undef, undef, undef, undef, undef, undef, undef, undef, undef, undef, undef, undef, undef, undef, undef, undef, undef, undef, undef, undef, undef, undef, undef, undef, undef, undef, undef, undef, undef, undef, undef, undef, undef, undef, undef, undef, undef], defers := [] })
    (CAtK w1 B g 0 1)
    (RAt [RLit g 4 (strA twTL) 9, REq (.pointer (some ⟨g, 0, none⟩)), RNum 4, RCellL g twTL, RIn twTL, RLit g 2 (strA twHL) 9, REq (.pointer (some ⟨g, 0, none⟩)), RNum 2, RCellL g twHL, RIn twHL, RAggT twTL twHL, RVarT g w1.heap.size])
    (fun w w' => w.grownBy w' (some g)) (fun _ => undef) ⟨(Drawn.refl hrd).drew, hg⟩
    (fun i v w w' _ hR hle => stay_at (g := g) (by exact ⟨stay_lit _ _ _ _, stay_eq _ _, stay_num _ _, stay_cellL _ _, stay_in _ _, stay_lit _ _ _ _, stay_eq _ _, stay_num _ _, stay_cellL _ _, stay_in _ _, stay_aggT _ _ _, stay_vart _ _, trivial⟩) v w w' hR hle) ?_ ?_
  · intro i hi z wa kk hkk hC hd
    have hlt := catk_lt hC
    match i, hi with
    | 0, _ =>
      refine wpOp_step rfl (fun K hK => ?_)
      clear hd
      go_simp
      exact hK _ _ ⟨_, rfl, ⟨_, rfl, by omega, heap_alloc_new wa _⟩, World.grownBy_alloc _ _ _, catk_alloc hC _⟩
    | 1, _ =>
      refine wpOp_step rfl (fun K hK => ?_)
      clear hd
      go_simp
      exact hK _ _ ⟨_, rfl, rfl, World.grownBy.refl _ _, catk_same hC⟩
    | 2, _ =>
      have e1 : z 1 = .pointer (some ⟨g, 0, none⟩) := hd 1 (dep_of (by kernel_rfl))
      refine wpOp_step rfl (fun K hK => ?_)
      clear hd
      go_simp
      refine (pick_lit g 4 4 rfl (by decide) B (0 + 1 * kk) _ (by omega) (by decide) hC.1.1).mono ?_
      rintro e wb ⟨r, rfl, hr, -, hd2⟩
      exact hK _ _ ⟨_, by simp [upd, e1], ⟨r, rfl, hr⟩, hd2.2, catk_drawn hC hd2 (by omega)⟩
    | 3, _ =>
      obtain ⟨b, e0, hbg, hb⟩ : RLit g 4 (strA twTL) 9 (z 0) wa := hd 0 (dep_of (by kernel_rfl))
      obtain ⟨r, e2, hr⟩ : RNum 4 (z 2) wa := hd 2 (dep_of (by kernel_rfl))
      obtain ⟨s2, hs2, hs⟩ := strA_at hb (r := r) hr
      have hr6 : (r : Int) < 4 := by omega
      refine wpOp_step rfl (fun K hK => ?_)
      clear hd
      go_simp
      exact hK _ _ ⟨_, by simp [upd, e0, e2], ⟨b, r, s2, rfl, hbg, hs, hs2⟩, World.grownBy.refl _ _, catk_same hC⟩
    | 4, _ =>
      obtain ⟨b, r, s2, e3, hbg, hs, hs2⟩ : RCellL g twTL (z 3) wa := hd 3 (dep_of (by kernel_rfl))
      refine wpOp_step rfl (fun K hK => ?_)
      clear hd
      go_simp
      exact hK _ _ ⟨_, by simp [upd, e3], ⟨s2, hs2, rfl⟩, World.grownBy.refl _ _, catk_same hC⟩
    | 5, _ =>
      refine wpOp_step rfl (fun K hK => ?_)
      clear hd
      go_simp
      exact hK _ _ ⟨_, rfl, ⟨_, rfl, by omega, heap_alloc_new wa _⟩, World.grownBy_alloc _ _ _, catk_alloc hC _⟩
    | 6, _ =>
      refine wpOp_step rfl (fun K hK => ?_)
      clear hd
      go_simp
      exact hK _ _ ⟨_, rfl, rfl, World.grownBy.refl _ _, catk_same hC⟩
    | 7, _ =>
      have e6 : z 6 = .pointer (some ⟨g, 0, none⟩) := hd 6 (dep_of (by kernel_rfl))
      refine wpOp_step rfl (fun K hK => ?_)
      clear hd
      go_simp
      refine (pick_lit g 2 2 rfl (by decide) B (0 + 1 * kk) _ (by omega) (by decide) hC.1.1).mono ?_
      rintro e wb ⟨r, rfl, hr, -, hd2⟩
      exact hK _ _ ⟨_, by simp [upd, e6], ⟨r, rfl, hr⟩, hd2.2, catk_drawn hC hd2 (by omega)⟩
    | 8, _ =>
      obtain ⟨b, e0, hbg, hb⟩ : RLit g 2 (strA twHL) 9 (z 5) wa := hd 5 (dep_of (by kernel_rfl))
      obtain ⟨r, e2, hr⟩ : RNum 2 (z 7) wa := hd 7 (dep_of (by kernel_rfl))
      obtain ⟨s2, hs2, hs⟩ := strA_at hb (r := r) hr
      have hr6 : (r : Int) < 2 := by omega
      refine wpOp_step rfl (fun K hK => ?_)
      clear hd
      go_simp
      exact hK _ _ ⟨_, by simp [upd, e0, e2], ⟨b, r, s2, rfl, hbg, hs, hs2⟩, World.grownBy.refl _ _, catk_same hC⟩
    | 9, _ =>
      obtain ⟨b, r, s2, e3, hbg, hs, hs2⟩ : RCellL g twHL (z 8) wa := hd 8 (dep_of (by kernel_rfl))
      refine wpOp_step rfl (fun K hK => ?_)
      clear hd
      go_simp
      exact hK _ _ ⟨_, by simp [upd, e3], ⟨s2, hs2, rfl⟩, World.grownBy.refl _ _, catk_same hC⟩
    | 10, _ =>
      obtain ⟨s, hs, e4⟩ : RIn twTL (z 4) wa := hd 4 (dep_of (by kernel_rfl))
      obtain ⟨t, ht, e9⟩ : RIn twHL (z 9) wa := hd 9 (dep_of (by kernel_rfl))
      refine wpOp_step rfl (fun K hK => ?_)
      clear hd
      go_simp
      exact hK _ _ ⟨_, by simp [upd, e4, e9], ⟨s, t, hs, ht, rfl⟩, World.grownBy.refl _ _, catk_same hC⟩
    | 11, _ =>
      refine wpOp_step rfl (fun K hK => ?_)
      clear hd
      go_simp
      exact hK _ _ ⟨_, rfl, ⟨_, rfl, hlt, by have := hC.1.2.size; omega, heap_alloc_new wa _⟩, World.grownBy_alloc _ _ _, catk_alloc hC _⟩
  intro z wa kk hkk hC hd
  obtain ⟨tgt, hst, htgt, hhst, e10⟩ : RAggT twTL twHL (z 10) wa := hd 10 (by decide)
  obtain ⟨bh, e11, hgb, hwb, hbx⟩ : RVarT g w1.heap.size (z 11) wa := hd 11 (by decide)
  obtain ⟨q0, q1, q2, q3, q4, p0, p1, p2, p3, p4⟩ := five_facts hbx
  have hT0 : TB w1 (set5 wa bh (.string ⟨#[103, 101, 116]⟩) (.string tgt) (.string hst) (.slice none 0 0) (.string ⟨#[]⟩)) B g 12 bh (bh + 1) ⟨⟨#[103, 101, 116]⟩, tgt, hst, [], ⟨#[]⟩⟩ (.slice none 0 0) :=
    ⟨five_set hbx _ _ _ _ _, World.ownsRow_nil _ _ _ _, drawn_set1 (drawn_set1 (drawn_set1 (drawn_set1 (drawn_set1 (hC.1.mono (by omega)) hgb hwb 0 _) hgb hwb 1 _) hgb hwb 2 _) hgb hwb 3 _) hgb hwb 4 _, hg, hgb, hwb, Nat.lt_succ_self bh⟩
  refine wpOp_step rfl (fun K hK => ?_)
  clear hd
  go_simp
  refine hK _ _ ?_
  clear hK K
  obtain ⟨W1, hW1⟩ : ∃ W1, W1 = set5 wa bh (.string ⟨#[103, 101, 116]⟩) (.string tgt) (.string hst) (.slice none 0 0) (.string ⟨#[]⟩) := ⟨_, rfl⟩
  rw [← hW1] at hT0
  unfold set5 at hW1
  rw [← hW1]
  clear hW1 q0 q1 q2 q3 q4 p0 p1 p2 p3 p4 e10 e11 hbx hC hkk wa
  go_wp2_with fail
  refine (pick_lit g 3 3 rfl (by decide) B 12 _ (by omega) (by decide) (hT0.drawn.1.alloc _)).mono ?_
  rintro e w3 ⟨r3, rfl, hr3, -, hd3⟩
  have hT3 := hT0.keep hd3.of_alloc
  obtain ⟨x3, hx3, hx3c⟩ := strA_at (L := twAL) ((hd3.2.block W1.heap.size (by simp) (by have := hT0.lt; have := hT0.gb; simp; omega)).trans (heap_alloc_new W1 _)) (r := r3) (by show r3 < 3; omega)
  have hr3' : (r3 : Int) < 3 := by omega
  clear hd3
  go_wp2_with fail
  have hT3' := hT3.alloc (.cells #[.string ⟨#[97, 99, 99, 101, 112, 116]⟩, .string x3] 39)
  have hb6 := heap_alloc_new w3 (.cells #[.string ⟨#[97, 99, 99, 101, 112, 116]⟩, .string x3] 39)
  have hs6 : (w3.alloc (.cells #[.string ⟨#[97, 99, 99, 101, 112, 116]⟩, .string x3] 39)).heap.size = w3.heap.size + 1 := by simp
  obtain ⟨W3, hW3⟩ : ∃ W3, W3 = w3.alloc (.cells #[.string ⟨#[97, 99, 99, 101, 112, 116]⟩, .string x3] 39) := ⟨_, rfl⟩
  rw [← hW3] at hT3' hb6 hs6 ⊢
  clear hW3
  refine (pick_lit g 2 2 rfl (by decide) B 13 _ (by omega) (by decide) (hT3'.drawn.1.alloc _)).mono ?_
  rintro e w4 ⟨r4, rfl, hr4, -, hd4⟩
  have hT4 := hT3'.keep hd4.of_alloc
  have hb6' := block_keep (by have := hT3.lt; have := hT3.gb; omega) hb6 hd4.of_alloc.2
  obtain ⟨x4, hx4, hx4c⟩ := strA_at (L := twSL) ((hd4.2.block W3.heap.size (by simp) (by have := hT3'.lt; have := hT3'.gb; simp; omega)).trans (heap_alloc_new W3 _)) (r := r4) (by show r4 < 2; omega)
  rw [hs6] at hx4c
  have hr4' : (r4 : Int) < 2 := by omega
  have hs4 := hd4.of_alloc.2.size
  have hl3 := hT3.lt
  obtain ⟨b6, hb6e⟩ : ∃ b6, b6 = w3.heap.size := ⟨_, rfl⟩
  obtain ⟨b7, hb7e⟩ : ∃ b7, b7 = w4.heap.size := ⟨_, rfl⟩
  obtain ⟨bo, hbo⟩ : ∃ bo, bo = w4.heap.size + 1 := ⟨_, rfl⟩
  have hX := (hT4.alloc (.cells #[.string ⟨#[105, 102, 45, 110, 111, 110, 101]⟩, .string x4] 39)).base rfl bo (by omega)
  have hT5 : T2 w1 (w4.alloc (.cells #[.string ⟨#[105, 102, 45, 110, 111, 110, 101]⟩, .string x4] 39)) B g 14 bh bo b6 b7 ⟨⟨#[103, 101, 116]⟩, tgt, hst, [], ⟨#[]⟩⟩ (.slice none 0 0) ⟨#[97, 99, 99, 101, 112, 116]⟩ ⟨#[105, 102, 45, 110, 111, 110, 101]⟩ x3 x4 :=
    ⟨hX.mono (by omega), (Below.heap_alloc w4 _ b6 (by omega)).trans (by rw [hb6e]; exact hb6'), by rw [hb7e]; exact heap_alloc_new w4 _, by omega, by omega, by simp; omega⟩
  clear hd4 hT4 hT3' hb6 hb6' hX hT3
  go_wp2_with fail
  rw [← hb6e, ← hb7e]
  obtain ⟨W4, hW4⟩ : ∃ W4, W4 = w4.alloc (.cells #[.string ⟨#[105, 102, 45, 110, 111, 110, 101]⟩, .string x4] 39) := ⟨_, rfl⟩
  rw [← hW4] at hT5 ⊢
  clear hW4 hb6e hb7e hbo hs4 hs6 hl3
  refine (pick_lit g 2 2 rfl (by decide) B 14 _ (by omega) (by decide) hT5.tb.drawn.1).mono ?_
  rintro e w5 ⟨r5, rfl, hr5, -, hd5⟩
  have hT6 := hT5.keep hd5
  clear hd5 hT5
  obtain ⟨fs, hfs⟩ : ∃ fs : List Fd, fs = [] := ⟨_, rfl⟩
  obtain ⟨v, hv⟩ : ∃ v : Value, v = .slice none 0 0 := ⟨_, rfl⟩
  rw [← hfs, ← hv] at hT6
  have HF := Lib.hid hfs
  clear hfs hv
  go_upto_if 40 with fail
  go_cut [] (fun wx => ∃ (fs : List Fd) (v : Value), (fs = [] ∨ fs = [(⟨#[97, 99, 99, 101, 112, 116]⟩, x3)]) ∧ T2 w1 wx B g 15 bh bo b6 b7 ⟨⟨#[103, 101, 116]⟩, tgt, hst, fs, ⟨#[]⟩⟩ v ⟨#[97, 99, 99, 101, 112, 116]⟩ ⟨#[105, 102, 45, 110, 111, 110, 101]⟩ x3 x4)
  case first =>
    by_cases hr0 : r5 = 0
    · subst hr0
      obtain ⟨i0, hi, hz0, hz1, hz2⟩ := info_parts Tryz.infoFd
      have hlen : fs.length ≤ 1 := by rw [HF.out]; exact Nat.zero_le _
      have hown := hT6.tb.own
      obtain ⟨_, _, _, q3, _, _, _, _, p3, _⟩ := five_facts hT6.tb.box
      obtain ⟨u0, u1, _⟩ := two_facts hT6.o6
      obtain ⟨y0, y1, _⟩ := two_facts hT6.o7
      have hbw := hT6.tb.lt
      have hmore : ∀ W' v', (w5.alloc (.cells #[.string ⟨#[97, 99, 99, 101, 112, 116]⟩, .string x3] 39)).grownBy W' v.ownBlock → W'.ownsRow bo 39 2 v' (fs.length + 1) (fcells fs ++ [.string ⟨#[97, 99, 99, 101, 112, 116]⟩, .string x3]) →
          W'.cell? ⟨bh, 3, none⟩ = some v ∧ W'.frozen? ⟨bh, 3, none⟩ = false ∧ Hid (T2 w1 (W'.setCell ⟨bh, 3, none⟩ v') B g 15 bh bo b6 b7 ⟨⟨#[103, 101, 116]⟩, tgt, hst, (fs ++ [(⟨#[97, 99, 99, 101, 112, 116]⟩, x3)]), ⟨#[]⟩⟩ v' ⟨#[97, 99, 99, 101, 112, 116]⟩ ⟨#[105, 102, 45, 110, 111, 110, 101]⟩ x3 x4) := fun W' v' hg' ho' => by
        obtain ⟨k1, k2, k3⟩ := (hT6.alloc (.cells #[.string ⟨#[97, 99, 99, 101, 112, 116]⟩, .string x3] 39)).setRow ⟨#[97, 99, 99, 101, 112, 116]⟩ x3 hg' ho'
        exact ⟨k1, k2, Lib.hid k3⟩
      have HM := Lib.hid hmore
      have hszw : bo ≤ w5.heap.size + 1 := by have := hT6.l7; have := hT6.bo_le; omega
      clear hmore hT6
      obtain ⟨av, cv, rfl⟩ := own_len2 hown
      go_wp2_with (at_builtin; go_must (refine wpList_append_lies _ rfl _ _ 25 (by rfl) bo 39 i0 _ 2 32 Tryz.underlying25 hi hz0 hz1 hz2 (by rfl) (by decide) _ fs.length (fcells fs) (by rfl) (hown.alloc _) ⟨w5.heap.size, 0, none⟩ 1 1 [.string ⟨#[97, 99, 99, 101, 112, 116]⟩, .string x3] (by rfl) (by rfl) (pair_new w5 _ _ 39) (by intro x hx; simp at hx; rcases hx with rfl | rfl <;> rfl) (by omega) (by unfold maxLen; omega) (by omega) (by simp; omega) (w5.heap.size + 1) (by simp) ?_); intro g3 cap w9 ho9 hg9 hat9 hlt9; obtain ⟨y9, p9, HJ⟩ := HM.out _ _ hg9 ho9; clear hg9)
      go_meet
      exact ⟨_, _, by rw [HF.out]; exact .inr rfl, HJ.out⟩
    · have hz : ((r5 : Int) == 0) = false := beq_eq_false_iff_ne.2 (by omega)
      have HT := Lib.hid hT6
      clear hT6
      go_wp2_with fail
      go_meet
      exact ⟨fs, v, by simp [HF.out], HT.out⟩
  case rest =>
    clear hT6 HF hr5 r5
    clear fs v w5
    obtain ⟨fs, v, hfs, hT5⟩ := hcut
    have HF := Lib.hid hfs
    clear hfs
    go_wp2_with fail
    refine (pick_lit g 2 2 rfl (by decide) B 15 _ (by omega) (by decide) hT5.tb.drawn.1).mono ?_
    rintro e w5 ⟨r5, rfl, hr5, -, hd5⟩
    have hT6 := hT5.keep hd5
    clear hd5 hT5
    go_upto_if 49 with fail
    go_cut [] (fun wx => ∃ (fs : List Fd) (v : Value), (fs = [] ∨ fs = [(⟨#[97, 99, 99, 101, 112, 116]⟩, x3)] ∨ fs = [(⟨#[105, 102, 45, 110, 111, 110, 101]⟩, x4)] ∨ fs = [(⟨#[97, 99, 99, 101, 112, 116]⟩, x3), (⟨#[105, 102, 45, 110, 111, 110, 101]⟩, x4)]) ∧ T2 w1 wx B g 16 bh bo b6 b7 ⟨⟨#[103, 101, 116]⟩, tgt, hst, fs, ⟨#[]⟩⟩ v ⟨#[97, 99, 99, 101, 112, 116]⟩ ⟨#[105, 102, 45, 110, 111, 110, 101]⟩ x3 x4)
    case first =>
      by_cases hr0 : r5 = 0
      · subst hr0
        obtain ⟨i0, hi, hz0, hz1, hz2⟩ := info_parts Tryz.infoFd
        have hlen : fs.length ≤ 1 := by rcases HF.out with h | h <;> simp [h]
        have hown := hT6.tb.own
        obtain ⟨_, _, _, q3, _, _, _, _, p3, _⟩ := five_facts hT6.tb.box
        obtain ⟨u0, u1, _⟩ := two_facts hT6.o6
        obtain ⟨y0, y1, _⟩ := two_facts hT6.o7
        have hbw := hT6.tb.lt
        have hmore : ∀ W' v', (w5.alloc (.cells #[.string ⟨#[105, 102, 45, 110, 111, 110, 101]⟩, .string x4] 39)).grownBy W' v.ownBlock → W'.ownsRow bo 39 2 v' (fs.length + 1) (fcells fs ++ [.string ⟨#[105, 102, 45, 110, 111, 110, 101]⟩, .string x4]) →
            W'.cell? ⟨bh, 3, none⟩ = some v ∧ W'.frozen? ⟨bh, 3, none⟩ = false ∧ Hid (T2 w1 (W'.setCell ⟨bh, 3, none⟩ v') B g 16 bh bo b6 b7 ⟨⟨#[103, 101, 116]⟩, tgt, hst, (fs ++ [(⟨#[105, 102, 45, 110, 111, 110, 101]⟩, x4)]), ⟨#[]⟩⟩ v' ⟨#[97, 99, 99, 101, 112, 116]⟩ ⟨#[105, 102, 45, 110, 111, 110, 101]⟩ x3 x4) := fun W' v' hg' ho' => by
          obtain ⟨k1, k2, k3⟩ := (hT6.alloc (.cells #[.string ⟨#[105, 102, 45, 110, 111, 110, 101]⟩, .string x4] 39)).setRow ⟨#[105, 102, 45, 110, 111, 110, 101]⟩ x4 hg' ho'
          exact ⟨k1, k2, Lib.hid k3⟩
        have HM := Lib.hid hmore
        have hszw : bo ≤ w5.heap.size + 1 := by have := hT6.l7; have := hT6.bo_le; omega
        clear hmore hT6
        obtain ⟨av, cv, rfl⟩ := own_len2 hown
        go_wp2_with (at_builtin; go_must (refine wpList_append_lies _ rfl _ _ 25 (by rfl) bo 39 i0 _ 2 32 Tryz.underlying25 hi hz0 hz1 hz2 (by rfl) (by decide) _ fs.length (fcells fs) (by rfl) (hown.alloc _) ⟨w5.heap.size, 0, none⟩ 1 1 [.string ⟨#[105, 102, 45, 110, 111, 110, 101]⟩, .string x4] (by rfl) (by rfl) (pair_new w5 _ _ 39) (by intro x hx; simp at hx; rcases hx with rfl | rfl <;> rfl) (by omega) (by unfold maxLen; omega) (by omega) (by simp; omega) (w5.heap.size + 1) (by simp) ?_); intro g3 cap w9 ho9 hg9 hat9 hlt9; obtain ⟨y9, p9, HJ⟩ := HM.out _ _ hg9 ho9; clear hg9)
        go_meet
        exact ⟨_, _, by rcases HF.out with h | h <;> simp [h], HJ.out⟩
      · have hz : ((r5 : Int) == 0) = false := beq_eq_false_iff_ne.2 (by omega)
        have HT := Lib.hid hT6
        clear hT6
        go_wp2_with fail
        go_meet
        exact ⟨fs, v, by rcases HF.out with h | h <;> simp [h], HT.out⟩
    case rest =>
      clear hT6 HF hr5 r5
      clear fs v w5
      obtain ⟨fs, v, hfs, hT5⟩ := hcut
      obtain ⟨h, hh⟩ : ∃ h : Hd, h = ⟨⟨#[103, 101, 116]⟩, tgt, hst, fs, ⟨#[]⟩⟩ := ⟨_, rfl⟩
      have hO : HOne h := by subst hh; exact ⟨rfl, rfl, htgt, hhst, x3, x4, hx3, hx4, hfs⟩
      have hK := hT5.tb
      rw [← hh] at hK
      have HO := Lib.hid hO
      clear hfs hT5 hh hO
      clear hx4c hx3c hr3 hr4 hr3' hr4' hx3 hx4 hT0 htgt hhst
      go_wp2_with fail
      refine wp_region_last (by kernel_rfl) 9 (by kernel_rfl) (by kernel_rfl) (by kernel_rfl)
        (fun z => { tmps := #[.slice a len cap, undef, .string ⟨#[]⟩, .string ⟨#[]⟩, .pointer (some ⟨g, 0, none⟩), .pointer (some ⟨bh, 0, none⟩), .pointer (some ⟨b6, 0, none⟩), .pointer (some ⟨b7, 0, none⟩), z 8, undef, undef, undef, undef, u13, u14, u15, u16, u17, u18, u19, u20, u21, u22, u23, u24, u25, u26, u27, u28, u29, u30, u31, u32, u33, u34, u35, u36, u37, u38, u39, u40, u41, u42, u43, u44, u45, u46, u47, u48, u49, u50, u51, u52, u53, u54, u55, z 0, z 1, z 2, z 3, z 4, z 5, z 6, z 7, u64, u65, u66, u67, u68, u69, u70, u71, u72, u73, u74, u75, u76, u77, u78, u79, u80, u81, u82, u83, u84, u85, u86, u87, u88, u89, u90, u91, u92, u93, u94, u95, u96, u97, u98, u99, u100, u101, u102, u103, u104, u105, u106, u107, u108, u109, u110, u111, u112, u113, u114, u115, u116, u117, u118, u119, u120, u121, u122, u123, u124, u125, u126, u127, u128, u129, u130, u131, u132, u133, u134, u135, u136, u137, u138, u139, u140, u141, u142, u143, u144, u145, u146, u147, u148, u149, u150], defers := [] })
        (fun k W => TB w1 W B g (16 + k) bh bo h v ∧ Kept wc.heap.size g wc W ∧ wc.heap.size ≤ W.heap.size)
        (RAt [REq (.pointer (some ⟨bh, 1, none⟩)), REq (.string h.target), RLit g 2 (strA twHL) 9, REq (.pointer (some ⟨g, 0, none⟩)), RNum 2, RCellL g twHL, RIn twHL, RAggT [h.target] twHL, RVarT g wc.heap.size])
        (fun w w' => w.grownBy w' (some g)) (fun i => [u56, u57, u58, u59, u60, u61, u62, u63, undef].getD i undef) ⟨hK.keep ((Drawn.refl hK.drawn.1).drew), Kept.refl _ _ _, Nat.le_refl _⟩
        (fun i v w w' _ hR hle => stay_at (g := g) (by exact ⟨stay_eq _ _, stay_eq _ _, stay_lit _ _ _ _, stay_eq _ _, stay_num _ _, stay_cellL _ _, stay_in _ _, stay_aggT _ _ _, stay_vart _ _, trivial⟩) v w w' hR hle) ?_ ?_
      · intro i hi z wa kk hkk hC hd
        obtain ⟨hC1, hC2, hC3⟩ := hC
        match i, hi with
        | 0, _ =>
          refine wpOp_step rfl (fun K hK => ?_)
          clear hd
          go_simp
          exact hK _ _ ⟨_, rfl, rfl, World.grownBy.refl _ _, ⟨hC1.mono (by omega), hC2, hC3⟩⟩
        | 1, _ =>
          have e0 : z 0 = .pointer (some ⟨bh, 1, none⟩) := hd 0 (dep_of (by kernel_rfl))
          obtain ⟨q0, q1, q2, q3, q4, _⟩ := five_facts hC1.box
          refine wpOp_step rfl (fun K hK => ?_)
          clear hd
          go_simp
          exact hK _ _ ⟨_, by simp [upd, e0], rfl, World.grownBy.refl _ _, ⟨hC1.mono (by omega), hC2, hC3⟩⟩
        | 2, _ =>
          refine wpOp_step rfl (fun K hK => ?_)
          clear hd
          go_simp
          exact hK _ _ ⟨_, rfl, ⟨_, rfl, by have := hC1.lt; have := hC1.gb; omega, heap_alloc_new wa _⟩, World.grownBy_alloc _ _ _, ⟨(hC1.alloc _).mono (by omega), hC2.trans (Kept.alloc _ _ _ _ hC3), by simp; omega⟩⟩
        | 3, _ =>
          refine wpOp_step rfl (fun K hK => ?_)
          clear hd
          go_simp
          exact hK _ _ ⟨_, rfl, rfl, World.grownBy.refl _ _, ⟨hC1.mono (by omega), hC2, hC3⟩⟩
        | 4, _ =>
          have e3 : z 3 = .pointer (some ⟨g, 0, none⟩) := hd 3 (dep_of (by kernel_rfl))
          refine wpOp_step rfl (fun K hK => ?_)
          clear hd
          go_simp
          refine (pick_lit g 2 2 rfl (by decide) B (16 + kk) _ (by omega) (by decide) hC1.drawn.1).mono ?_
          rintro e wb ⟨r, rfl, hr, -, hd2⟩
          exact hK _ _ ⟨_, by simp [upd, e3], ⟨r, rfl, hr⟩, hd2.2, ⟨hC1.keep hd2, hC2.trans (Kept.of_drawn hd2 hC3), Nat.le_trans hC3 hd2.2.size⟩⟩
        | 5, _ =>
          obtain ⟨b, e2, hbg, hb⟩ : RLit g 2 (strA twHL) 9 (z 2) wa := hd 2 (dep_of (by kernel_rfl))
          obtain ⟨r, e4, hr⟩ : RNum 2 (z 4) wa := hd 4 (dep_of (by kernel_rfl))
          obtain ⟨s2, hs2, hs⟩ := strA_at hb (r := r) hr
          have hr6 : (r : Int) < 2 := by omega
          refine wpOp_step rfl (fun K hK => ?_)
          clear hd
          go_simp
          exact hK _ _ ⟨_, by simp [upd, e2, e4], ⟨b, r, s2, rfl, hbg, hs, hs2⟩, World.grownBy.refl _ _, ⟨hC1.mono (by omega), hC2, hC3⟩⟩
        | 6, _ =>
          obtain ⟨b, r, s2, e5, hbg, hs, hs2⟩ : RCellL g twHL (z 5) wa := hd 5 (dep_of (by kernel_rfl))
          refine wpOp_step rfl (fun K hK => ?_)
          clear hd
          go_simp
          exact hK _ _ ⟨_, by simp [upd, e5], ⟨s2, hs2, rfl⟩, World.grownBy.refl _ _, ⟨hC1.mono (by omega), hC2, hC3⟩⟩
        | 7, _ =>
          have e1 : z 1 = .string h.target := hd 1 (dep_of (by kernel_rfl))
          obtain ⟨t, ht, e6⟩ : RIn twHL (z 6) wa := hd 6 (dep_of (by kernel_rfl))
          refine wpOp_step rfl (fun K hK => ?_)
          clear hd
          go_simp
          exact hK _ _ ⟨_, by simp [upd, e1, e6], ⟨h.target, t, List.mem_singleton.2 rfl, ht, rfl⟩, World.grownBy.refl _ _, ⟨hC1.mono (by omega), hC2, hC3⟩⟩
        | 8, _ =>
          refine wpOp_step rfl (fun K hK => ?_)
          clear hd
          go_simp
          exact hK _ _ ⟨_, rfl, ⟨_, rfl, by have := hC1.lt; have := hC1.gb; omega, hC3, heap_alloc_new wa _⟩, World.grownBy_alloc _ _ _, ⟨(hC1.alloc _).mono (by omega), hC2.trans (Kept.alloc _ _ _ _ hC3), by simp; omega⟩⟩
      intro z wa kk hkk hC hd
      obtain ⟨hC1, hC2, hC3⟩ := hC
      obtain ⟨tg2, hst2, htg2, hhst2, e7⟩ : RAggT [h.target] twHL (z 7) wa := hd 7 (by decide)
      obtain rfl : tg2 = h.target := List.mem_singleton.1 htg2
      obtain ⟨bg, e8, hgg, hwg, hbx⟩ : RVarT g wc.heap.size (z 8) wa := hd 8 (by decide)
      obtain ⟨q0, q1, q2, q3, q4, p0, p1, p2, p3, p4⟩ := five_facts hbx
      have hw1c := hK.drawn.2.size
      have hD9 : Drawn w1 (set5 wa bg (.string ⟨#[103, 101, 116]⟩) (.string h.target) (.string hst2) (.slice none 0 0) (.string ⟨#[]⟩)) B g 25 :=
        drawn_set1 (drawn_set1 (drawn_set1 (drawn_set1 (drawn_set1 (hC1.drawn.mono (by omega)) hgg (by omega) 0 _) hgg (by omega) 1 _) hgg (by omega) 2 _) hgg (by omega) 3 _) hgg (by omega) 4 _
      have hG9 : TB w1 (set5 wa bg (.string ⟨#[103, 101, 116]⟩) (.string h.target) (.string hst2) (.slice none 0 0) (.string ⟨#[]⟩)) B g 25 bg (bg + 1) ⟨⟨#[103, 101, 116]⟩, h.target, hst2, [], ⟨#[]⟩⟩ (.slice none 0 0) :=
        ⟨five_set hbx _ _ _ _ _, World.ownsRow_nil _ _ _ _, hD9, hg, hgg, by omega, Nat.lt_succ_self bg⟩
      have hH9 : TB w1 (set5 wa bg (.string ⟨#[103, 101, 116]⟩) (.string h.target) (.string hst2) (.slice none 0 0) (.string ⟨#[]⟩)) B g 25 bh bo h v :=
        hK.kept (((((hC2.set bg 0 _ hwg).set bg 1 _ hwg).set bg 2 _ hwg).set bg 3 _ hwg).set bg 4 _ hwg) hK.lt hK.row hD9
      have hbl : bh < bg := by have := hK.lt; omega
      have hrowl : ∀ r, v.ownBlock = some r → r < bg := fun r hr => Nat.lt_of_lt_of_le (hK.row r hr) hwg
      refine wpOp_step rfl (fun K hK => ?_)
      clear hd
      go_simp
      refine hK _ _ ?_
      clear hK K
      obtain ⟨W9, hW9⟩ : ∃ W9, W9 = set5 wa bg (.string ⟨#[103, 101, 116]⟩) (.string h.target) (.string hst2) (.slice none 0 0) (.string ⟨#[]⟩) := ⟨_, rfl⟩
      rw [← hW9] at hG9 hH9
      unfold set5 at hW9
      rw [← hW9]
      clear hW9 q0 q1 q2 q3 q4 p0 p1 p2 p3 p4 e7 e8 hbx hC1 hC2 hC3 hkk htg2 hw1c hD9 hK wa
      go_wp2_with fail
      refine (pick_lit g 3 3 rfl (by decide) B 25 _ (by omega) (by decide) hG9.drawn.1).mono ?_
      rintro e w10 ⟨r10, rfl, hr10, -, hd10⟩
      have hG10 := hG9.keep hd10
      have hH10 := hH9.keep hd10
      clear hG9 hH9 hd10
      go_wp2_with fail
      go_loopw [9] (fun kk wr => ∃ (j : Nat) (ex : List Fd) (vg : Value), kk = .int .i64 j ∧ j + ex.length ≤ 2 ∧ (∀ f ∈ ex, exQ f.1 f.2) ∧ TB w1 wr B g (26 + 14 * ex.length) bg (bg + 1) ⟨⟨#[103, 101, 116]⟩, h.target, hst2, ex, ⟨#[]⟩⟩ vg ∧ Kept bg g w10 wr) (fun kk _ => (intOf kk).toNat)
      case atStart => exact ⟨r10, [], _, rfl, by simp; omega, by simp, hG10, Kept.refl _ _ _⟩
      case round =>
        obtain ⟨j, ex, vg, rfl, hj, hex, hG, hKp⟩ := hrel
        by_cases hlt : 0 < j
        · have hlt' : (0 : Int) < (j : Int) := by omega
          go_upto_region 13 with fail
          first | rw [decide_eq_true hlt] | rw [decide_eq_true hlt'] | skip
          obtain ⟨i0, hi, hz0, hz1, hz2⟩ := info_parts Tryz.infoFd
          obtain ⟨hq, hhq⟩ : ∃ hq : Hd, hq = ⟨⟨#[103, 101, 116]⟩, h.target, hst2, ex, ⟨#[]⟩⟩ := ⟨_, rfl⟩
          rw [← hhq] at hG
          have hqf : hq.fs = ex := by rw [hhq]
          have hmany : hq.fs.length ≤ 2 := by rw [hqf]; omega
          obtain ⟨M, hM⟩ : ∃ M, M = 26 + 14 * ex.length := ⟨_, rfl⟩
          rw [← hM] at hG
          have hMl : M ≤ 60 := by omega
          have hrow := hG.row
          have hg6 : g < wr.heap.size := by have := hG.lt; omega
          have hB : w1.heap.size ≤ bg := hG.wb
          refine wp_region_lastL (by kernel_rfl) 13 (by kernel_rfl) (by kernel_rfl) (by kernel_rfl)
            (fun y => { tmps := #[.slice a len cap, undef, .string ⟨#[]⟩, .string ⟨#[]⟩, .pointer (some ⟨g, 0, none⟩), .pointer (some ⟨bh, 0, none⟩), .pointer (some ⟨b6, 0, none⟩), .pointer (some ⟨b7, 0, none⟩), .pointer (some ⟨bg, 0, none⟩), .int .i64 ((j : Nat) : Int), undef, undef, undef, u13, u14, u15, u16, u17, u18, u19, u20, u21, u22, u23, u24, u25, u26, u27, u28, u29, u30, u31, u32, u33, u34, u35, u36, u37, u38, u39, u40, u41, u42, u43, u44, u45, u46, u47, u48, u49, u50, u51, u52, u53, u54, u55, z 0, z 1, z 2, z 3, z 4, z 5, z 6, .agg #[.string ⟨#[103, 101, 116]⟩, .string h.target, .string hst2, .slice none 0 0, .string ⟨#[]⟩], .pointer (some ⟨g, 0, none⟩), .int .i64 ((r10 : Nat) : Int), .int .i64 ((j : Nat) : Int), .bool true, u68, u69, y 0, y 1, y 2, y 3, y 4, y 5, y 6, y 7, y 8, y 9, y 10, y 11, y 12, u83, u84, u85, u86, u87, u88, u89, u90, u91, u92, u93, u94, u95, u96, u97, u98, u99, u100, u101, u102, u103, u104, u105, u106, u107, u108, u109, u110, u111, u112, u113, u114, u115, u116, u117, u118, u119, u120, u121, u122, u123, u124, u125, u126, u127, u128, u129, u130, u131, u132, u133, u134, u135, u136, u137, u138, u139, u140, u141, u142, u143, u144, u145, u146, u147, u148, u149, u150], defers := [] })
            (CTw 11 wr.heap.size w1 w10 B g M bg hq vg)
            (RAt [REq (.pointer (some ⟨bg, 3, none⟩)), REq vg, RLitF wr.heap.size 3 (strA twNL) 9, REq (.pointer (some ⟨g, 0, none⟩)), RNum 3, RCellQ wr.heap.size twNL, RInQ twNL, REq (.pointer (some ⟨g, 0, none⟩)), RInQ twVL, RPairQ exQ, RBoxQ wr.heap.size exQ, RAppQ bg exQ hq.fs, REq (.pointer (some ⟨bg, 3, none⟩))])
            (LeP 11 g vg.ownBlock) (fun i => [u70, u71, u72, u73, u74, u75, u76, u77, u78, u79, u80, u81, u82].getD i undef) ⟨hG.box, hG.drawn.drew, fun _ => hG.own, Nat.le_refl _, hKp⟩ ?_ ?_ ?_
          · intro i jj x W W' hi' _ hij hR hle
            match i, hi' with
            | 0, _ => exact stay2_eq g _ _ x W W' hR (lep_two hle)
            | 1, _ => exact stay2_eq g _ _ x W W' hR (lep_two hle)
            | 2, _ => exact stay2_lit hg6 hrow x W W' hR (lep_two hle)
            | 3, _ => exact stay2_eq g _ _ x W W' hR (lep_two hle)
            | 4, _ => exact stay2_num g _ _ x W W' hR (lep_two hle)
            | 5, _ => exact stay2_cellq hg6 hrow x W W' hR (lep_two hle)
            | 6, _ => exact stay2_inq g _ _ x W W' hR (lep_two hle)
            | 7, _ => exact stay2_eq g _ _ x W W' hR (lep_two hle)
            | 8, _ => exact stay2_inq g _ _ x W W' hR (lep_two hle)
            | 9, _ => exact stay2_pairq g _ _ x W W' hR (lep_two hle)
            | 10, _ => exact stay2_boxq hg6 hrow x W W' hR (lep_two hle)
            | 11, _ => exact stay_appq hgg x W W' hR (lep_not (by omega) hle)
            | 12, _ => exact stay2_eq g _ _ x W W' hR (lep_two hle)
          · intro i hi' L z W k hk hL hC hd'
            have hsz := hC.2.2.2.1
            match i, hi' with
            | 0, _ =>
              refine wpOp_step rfl (fun K hK => ?_)
              clear hd'
              go_simp
              exact hK _ _ ⟨_, rfl, rfl, lep_mk (by decide) (World.grownBy.refl _ _), hC.same⟩
            | 1, _ =>
              have e0 : z 0 = .pointer (some ⟨bg, 3, none⟩) := hd' 0 (dep_of (by kernel_rfl))
              have q3 : W.cell? ⟨bg, 3, none⟩ = some vg := by simp [World.cell?, hC.1]
              refine wpOp_step rfl (fun K hK => ?_)
              clear hd'
              go_simp
              exact hK _ _ ⟨_, by simp [upd, e0], rfl, lep_mk (by decide) (World.grownBy.refl _ _), hC.same⟩
            | 2, _ =>
              refine wpOp_step rfl (fun K hK => ?_)
              clear hd'
              go_simp
              exact hK _ _ ⟨_, rfl, ⟨_, rfl, hsz, heap_alloc_new W _⟩, lep_mk (by decide) (World.grownBy_alloc _ _ _), hC.alloc hgg _⟩
            | 3, _ =>
              refine wpOp_step rfl (fun K hK => ?_)
              clear hd'
              go_simp
              exact hK _ _ ⟨_, rfl, rfl, lep_mk (by decide) (World.grownBy.refl _ _), hC.same⟩
            | 4, _ =>
              have e3 : z 3 = .pointer (some ⟨g, 0, none⟩) := hd' 3 (dep_of (by kernel_rfl))
              refine wpOp_step rfl (fun K hK => ?_)
              clear hd'
              go_simp
              refine (pick_lit g 3 3 rfl (by decide) B (M + k) _ (by omega) (by decide) hC.2.1.1).mono ?_
              rintro e w7 ⟨r, rfl, hr, -, hd2⟩
              exact hK _ _ ⟨_, by simp [upd, e3], ⟨r, rfl, hr⟩, lep_mk (by decide) hd2.2, hC.keep hgg (d := 1) hd2 (by omega)⟩
            | 5, _ =>
              obtain ⟨b, e2, hbB, hb⟩ : RLitF wr.heap.size 3 (strA twNL) 9 (z 2) W := hd' 2 (dep_of (by kernel_rfl))
              obtain ⟨r, e4, hr⟩ : RNum 3 (z 4) W := hd' 4 (dep_of (by kernel_rfl))
              obtain ⟨s2, hs2, hs⟩ := strA_at hb (r := r) hr
              have hr6 : (r : Int) < 3 := by omega
              refine wpOp_step rfl (fun K hK => ?_)
              clear hd'
              go_simp
              exact hK _ _ ⟨_, by simp [upd, e2, e4], ⟨b, r, s2, rfl, hbB, hs, hs2⟩, lep_mk (by decide) (World.grownBy.refl _ _), hC.same⟩
            | 6, _ =>
              obtain ⟨b, r, s2, e5, hbB, hs, hs2⟩ : RCellQ wr.heap.size twNL (z 5) W := hd' 5 (dep_of (by kernel_rfl))
              refine wpOp_step rfl (fun K hK => ?_)
              clear hd'
              go_simp
              exact hK _ _ ⟨_, by simp [upd, e5], ⟨s2, rfl, hs2⟩, lep_mk (by decide) (World.grownBy.refl _ _), hC.same⟩
            | 7, _ =>
              refine wpOp_step rfl (fun K hK => ?_)
              clear hd'
              go_simp
              exact hK _ _ ⟨_, rfl, rfl, lep_mk (by decide) (World.grownBy.refl _ _), hC.same⟩
            | 8, _ =>
              have e7 : z 7 = .pointer (some ⟨g, 0, none⟩) := hd' 7 (dep_of (by kernel_rfl))
              refine wpOp_step rfl (fun K hK => ?_)
              clear hd'
              go_simp
              refine (value_in g B (M + k) _ (by omega) hC.2.1.1).mono ?_
              rintro e w7 ⟨s, rfl, hs, hd2⟩
              exact hK _ _ ⟨_, by simp [upd, e7], ⟨s, rfl, hs⟩, lep_mk (by decide) hd2.2, hC.keep hgg (d := 1) hd2 (by omega)⟩
            | 9, _ =>
              obtain ⟨s, e6, hs⟩ : RInQ twNL (z 6) W := hd' 6 (dep_of (by kernel_rfl))
              obtain ⟨t, e8, ht⟩ : RInQ twVL (z 8) W := hd' 8 (dep_of (by kernel_rfl))
              refine wpOp_step rfl (fun K hK => ?_)
              clear hd'
              go_simp
              exact hK _ _ ⟨_, by simp [upd, e6, e8], ⟨s, t, rfl, hs, ht⟩, lep_mk (by decide) (World.grownBy.refl _ _), hC.same⟩
            | 10, _ =>
              obtain ⟨s, t, e9, hst⟩ : RPairQ exQ (z 9) W := hd' 9 (dep_of (by kernel_rfl))
              refine wpOp_step rfl (fun K hK => ?_)
              clear hd'
              go_simp
              exact hK _ _ ⟨_, by simp [upd, e9], ⟨_, s, t, rfl, hsz, heap_alloc_new W _, hst⟩, lep_mk (by decide) (World.grownBy_alloc _ _ _), hC.alloc hgg _⟩
            | 11, _ =>
              have e1 : z 1 = vg := hd' 1 (dep_of (by kernel_rfl))
              obtain ⟨c, s, t, e8, hcB, hcb, hst⟩ : RBoxQ wr.heap.size exQ (z 10) W := hd' 10 (dep_of (by kernel_rfl))
              have hown := hC.2.2.1 hL
              have hbW := (Array.getElem?_eq_some_iff.1 hC.1).1
              refine wpOp_step rfl (fun K hK => ?_)
              clear hd'
              refine wp_append_lies _ (.tmp 71) (.tmp 80) 25 (by rfl) (bg + 1) 39 i0 _ 2 32 Tryz.underlying25 hi hz0 hz1 hz2 (by rfl) (by decide) vg hq.fs.length (fcells hq.fs) (by exact e1) hown ⟨c, 0, none⟩ 1 1 [.string s, .string t] (by exact e8) (by rfl) (World.news_of_block hcb) (by intro x hx; simp at hx; rcases hx with rfl | rfl <;> rfl) (by omega) (by unfold maxLen; omega) (by omega) (by omega) W.heap.size rfl ?_
              intro g3 cap w7 ho7 hg7 _ _
              exact hK _ _ ⟨_, rfl, ⟨s, t, hst, ho7⟩, lep_at hg7, hC.app hL hgg hB hg7⟩
            | 12, _ =>
              refine wpOp_step rfl (fun K hK => ?_)
              clear hd'
              go_simp
              exact hK _ _ ⟨_, rfl, rfl, lep_mk (by decide) (World.grownBy.refl _ _), hC.same⟩
          · intro L z W k hk hC hd'
            have ha : RAppQ bg exQ hq.fs (z 11) W := hd' 11 (by decide)
            have e12 : z 12 = .pointer (some ⟨bg, 3, none⟩) := hd' 12 (by decide)
            obtain ⟨x3, p3, s, t, hst, hG8, hKp8⟩ := CTw.out hC ha hG.gw hgg hB
            have hMk : M + k ≤ 26 + 14 * (ex.length + 1) := by omega
            obtain ⟨v', e11⟩ : ∃ x, z 11 = x := ⟨_, rfl⟩
            rw [e11] at hG8 hKp8
            rw [hqf] at hG8
            obtain ⟨a8, c8, hv8⟩ := own_len2 hG8.own
            have hv9 : v' = .slice a8 (ex.length + 1) c8 := by rw [hv8]; simp
            clear hv8
            subst hv9
            subst hhq
            have HG8 := Lib.hid (hG8.mono hMk)
            have HK8 := Lib.hid hKp8
            clear ha hC hd' hG hG8 hKp8 hi hz0 hz1 hz2 hk hMk hqf hmany hrow
            refine wpOp_step rfl (fun K hK => ?_)
            go_simp
            refine hK _ _ ?_
            clear hK K
            go_wp2_with fail
            go_roundw
            case rel => exact ⟨j - 1, ex ++ [(s, t)], _, by go_num, by simp; omega, fun f hf => by
              rcases List.mem_append.1 hf with hf | hf
              · exact hex f hf
              · obtain rfl : f = (s, t) := by simpa using hf
                exact hst, by rw [List.length_append]; exact HG8.out, HK8.out⟩
            case measure => simp [intOf]; omega
        · have hj0 : j = 0 := by omega
          subst hj0
          have hHr := hH10.kept hKp hbl hrowl hG.drawn
          obtain ⟨q0, q1, q2, q3, q4, _⟩ := five_facts hHr.box
          obtain ⟨av, cv, hv⟩ := own_len2 hHr.own
          subst hv
          have hfl : h.fs.length ≤ 2 := HO.out.len
          have hM0 : 26 + 14 * ex.length ≤ 60 := by omega
          go_wp2_with fail
          go_loopw [10] (fun kk wq => ∃ (j : Nat) (ve : Value), kk = .int .i64 j ∧ j ≤ h.fs.length ∧ TB w1 wq B g (60 + 12 * (h.fs.length - j)) bg (bg + 1) ⟨⟨#[103, 101, 116]⟩, h.target, hst2, ex ++ (h.fs.drop j).reverse, ⟨#[]⟩⟩ ve ∧ Kept bg g w10 wq) (fun kk _ => (intOf kk).toNat)
          case atStart => exact ⟨h.fs.length, vg, rfl, Nat.le_refl _, by rw [List.drop_length, List.reverse_nil, List.append_nil]; exact hG.mono (by omega), hKp⟩
          case round =>
            obtain ⟨j, ve, rfl, hjl, hG2, hKp2⟩ := hrel
            clear q0 q1 q2 q3 q4 hG hHr hKp hM0
            by_cases hlt : 0 < j
            · have hlt' : (0 : Int) < (j : Int) := by omega
              go_upto_region 17 with fail
              first | rw [decide_eq_true hlt] | rw [decide_eq_true hlt'] | skip
              obtain ⟨i0, hi, hz0, hz1, hz2⟩ := info_parts Tryz.infoFd
              obtain ⟨n, hn⟩ : ∃ n, n = j - 1 := ⟨_, rfl⟩
              have hnj : (j : Int) - 1 = (n : Int) := by omega
              have hnl : n < h.fs.length := by omega
              obtain ⟨f, hf⟩ : ∃ f, h.fs[n]? = some f := ⟨_, List.getElem?_eq_getElem hnl⟩
              obtain ⟨fs2, hfs2⟩ : ∃ fs2 : List Fd, fs2 = ex ++ (h.fs.drop j).reverse := ⟨_, rfl⟩
              have hnew : ex ++ (h.fs.drop (j - 1)).reverse = fs2 ++ [f] := by
                have hd : h.fs.drop (j - 1) = f :: h.fs.drop j := by
                  rw [← hn]
                  have e1 := List.drop_eq_getElem_cons hnl
                  have e2 : h.fs[n] = f := by rw [List.getElem?_eq_getElem hnl] at hf; simpa using hf
                  rw [e1, e2, show n + 1 = j from by omega]
                rw [hd, hfs2, List.reverse_cons, List.append_assoc]
              have hfl2 : fs2.length ≤ 4 := by rw [hfs2]; simp; omega
              obtain ⟨hq, hhq⟩ : ∃ hq : Hd, hq = ⟨⟨#[103, 101, 116]⟩, h.target, hst2, fs2, ⟨#[]⟩⟩ := ⟨_, rfl⟩
              rw [← hfs2, ← hhq] at hG2
              have hqf : hq.fs = fs2 := by rw [hhq]
              have hmany : hq.fs.length ≤ 4 := by rw [hqf]; exact hfl2
              obtain ⟨M, hM⟩ : ∃ M, M = 60 + 12 * (h.fs.length - j) := ⟨_, rfl⟩
              rw [← hM] at hG2
              have hMl : M ≤ 90 := by omega
              have hrow := hG2.row
              have hg6 : g < wr.heap.size := by have := hG2.lt; omega
              have hB : w1.heap.size ≤ bg := hG2.wb
              have HNJ := Lib.hid hnj
              clear hn hnj
              have hrge : ∀ r, ve.ownBlock = some r → bg ≤ r := fun r hr => by have := (hG2.own.lt r hr).1; omega
              refine wp_region_lastL (by kernel_rfl) 11 (by kernel_rfl) (by kernel_rfl) (by kernel_rfl)
                (fun y => { tmps := #[.slice a len cap, undef, .string ⟨#[]⟩, .string ⟨#[]⟩, .pointer (some ⟨g, 0, none⟩), .pointer (some ⟨bh, 0, none⟩), .pointer (some ⟨b6, 0, none⟩), .pointer (some ⟨b7, 0, none⟩), .pointer (some ⟨bg, 0, none⟩), .int .i64 ((0 : Nat) : Int), .int .i64 ((j : Nat) : Int), undef, undef, u13, u14, u15, u16, u17, u18, u19, u20, u21, u22, u23, u24, u25, u26, u27, u28, u29, u30, u31, u32, u33, u34, u35, u36, u37, u38, u39, u40, u41, u42, u43, u44, u45, u46, u47, u48, u49, u50, u51, u52, u53, u54, u55, z 0, z 1, z 2, z 3, z 4, z 5, z 6, .agg #[.string ⟨#[103, 101, 116]⟩, .string h.target, .string hst2, .slice none 0 0, .string ⟨#[]⟩], .pointer (some ⟨g, 0, none⟩), .int .i64 ((r10 : Nat) : Int), .int .i64 ((0 : Nat) : Int), .bool false, u68, u69, u70, u71, u72, u73, u74, u75, u76, u77, u78, u79, u80, u81, u82, .pointer (some ⟨bh, 3, none⟩), .slice av h.fs.length cv, .int .i64 ((h.fs.length : Nat) : Int), .int .i64 ((j : Nat) : Int), .bool true, u88, u89, y 0, y 1, y 2, y 3, y 4, y 5, y 6, y 7, y 8, y 9, y 10, u101, u102, u103, u104, u105, u106, u107, u108, u109, u110, u111, u112, u113, u114, u115, u116, u117, u118, u119, u120, u121, u122, u123, u124, u125, u126, u127, u128, u129, u130, u131, u132, u133, u134, u135, u136, u137, u138, u139, u140, u141, u142, u143, u144, u145, u146, u147, u148, u149, u150], defers := [] })
                (CTw 9 wr.heap.size w1 w10 B g M bg hq ve)
                (RAt [REq (.pointer (some ⟨bg, 3, none⟩)), REq ve, REq (.pointer (some ⟨bh, 3, none⟩)), REq (.slice av h.fs.length cv), REq (.int .i64 ((j : Nat) : Int)), REq (.int .i64 ((n : Nat) : Int)), RFdF g bg f, REq (.agg #[.string f.1, .string f.2]), RBoxQ wr.heap.size (fun s t => (s, t) = f), RAppQ bg (fun s t => (s, t) = f) hq.fs, REq (.pointer (some ⟨bg, 3, none⟩))])
                (LeP 9 g ve.ownBlock) (fun i => [u90, u91, u92, u93, u94, u95, u96, u97, u98, u99, u100].getD i undef) ⟨hG2.box, hG2.drawn.drew, fun _ => hG2.own, Nat.le_refl _, hKp2⟩ ?_ ?_ ?_
              · intro i jj x W W' hi' _ hij hR hle
                match i, hi' with
                | 0, _ => exact stay2_eq g _ _ x W W' hR (lep_two hle)
                | 1, _ => exact stay2_eq g _ _ x W W' hR (lep_two hle)
                | 2, _ => exact stay2_eq g _ _ x W W' hR (lep_two hle)
                | 3, _ => exact stay2_eq g _ _ x W W' hR (lep_two hle)
                | 4, _ => exact stay2_eq g _ _ x W W' hR (lep_two hle)
                | 5, _ => exact stay2_eq g _ _ x W W' hR (lep_two hle)
                | 6, _ => exact stay2_fd hrge x W W' hR (lep_two hle)
                | 7, _ => exact stay2_eq g _ _ x W W' hR (lep_two hle)
                | 8, _ => exact stay2_boxq hg6 hrow x W W' hR (lep_two hle)
                | 9, _ => exact stay_appq hgg x W W' hR (lep_not (by omega) hle)
                | 10, _ => exact stay2_eq g _ _ x W W' hR (lep_two hle)
              · intro i hi' L z W k hk hL hC hd'
                have hsz := hC.2.2.2.1
                match i, hi' with
                | 0, _ =>
                  refine wpOp_step rfl (fun K hK => ?_)
                  clear hd'
                  go_simp
                  exact hK _ _ ⟨_, rfl, rfl, lep_mk (by decide) (World.grownBy.refl _ _), hC.same⟩
                | 1, _ =>
                  have e0 : z 0 = .pointer (some ⟨bg, 3, none⟩) := hd' 0 (dep_of (by kernel_rfl))
                  have q3 : W.cell? ⟨bg, 3, none⟩ = some ve := by simp [World.cell?, hC.1]
                  refine wpOp_step rfl (fun K hK => ?_)
                  clear hd'
                  go_simp
                  exact hK _ _ ⟨_, by simp [upd, e0], rfl, lep_mk (by decide) (World.grownBy.refl _ _), hC.same⟩
                | 2, _ =>
                  refine wpOp_step rfl (fun K hK => ?_)
                  clear hd'
                  go_simp
                  exact hK _ _ ⟨_, rfl, rfl, lep_mk (by decide) (World.grownBy.refl _ _), hC.same⟩
                | 3, _ =>
                  have e2 : z 2 = .pointer (some ⟨bh, 3, none⟩) := hd' 2 (dep_of (by kernel_rfl))
                  obtain ⟨_, _, _, q3, _⟩ := five_facts (hH10.kept hC.2.2.2.2 hbl hrowl hC.2.1).box
                  refine wpOp_step rfl (fun K hK => ?_)
                  clear hd'
                  go_simp
                  exact hK _ _ ⟨_, by simp [upd, e2], rfl, lep_mk (by decide) (World.grownBy.refl _ _), hC.same⟩
                | 4, _ =>
                  refine wpOp_step rfl (fun K hK => ?_)
                  clear hd'
                  go_simp
                  exact hK _ _ ⟨_, rfl, rfl, lep_mk (by decide) (World.grownBy.refl _ _), hC.same⟩
                | 5, _ =>
                  have e4 : z 4 = .int .i64 ((j : Nat) : Int) := hd' 4 (dep_of (by kernel_rfl))
                  refine wpOp_step rfl (fun K hK => ?_)
                  clear hd'
                  go_simp
                  rw [show IntKind.i64.wrap ((j : Int) - 1) = (n : Int) from by rw [IntWalk.i64_in _ (by omega)]; exact HNJ.out]
                  exact hK _ _ ⟨_, by simp [upd, e4], rfl, lep_mk (by decide) (World.grownBy.refl _ _), hC.same⟩
                | 6, _ =>
                  have e3 : z 3 = .slice av h.fs.length cv := hd' 3 (dep_of (by kernel_rfl))
                  have e5 : z 5 = .int .i64 ((n : Nat) : Int) := hd' 5 (dep_of (by kernel_rfl))
                  obtain ⟨rb, cp, hvv, hlt9, hne9, c1, c2⟩ := (hH10.kept hC.2.2.2.2 hbl hrowl hC.2.1).field hrowl hf
                  have hav : av = some ⟨rb, 0, none⟩ := by injection hvv
                  have hni : (n : Int) < (h.fs.length : Int) := by omega
                  refine wpOp_step rfl (fun K hK => ?_)
                  clear hd'
                  go_simp
                  exact hK _ _ ⟨.pointer (some ⟨rb, n * 2, none⟩), by simp [upd, e3, e5, hav], ⟨rb, n * 2, rfl, hlt9, hne9, c1, c2⟩, lep_mk (by decide) (World.grownBy.refl _ _), hC.same⟩
                | 7, _ =>
                  obtain ⟨b, r, e6, hb1, hb2, c1, c2⟩ : RFdF g bg f (z 6) W := hd' 6 (dep_of (by kernel_rfl))
                  refine wpOp_step rfl (fun K hK => ?_)
                  clear hd'
                  go_simp
                  exact hK _ _ ⟨_, by simp [upd, e6], rfl, lep_mk (by decide) (World.grownBy.refl _ _), hC.same⟩
                | 8, _ =>
                  have e7 : z 7 = .agg #[.string f.1, .string f.2] := hd' 7 (dep_of (by kernel_rfl))
                  refine wpOp_step rfl (fun K hK => ?_)
                  clear hd'
                  go_simp
                  exact hK _ _ ⟨_, by simp [upd, e7], ⟨_, f.1, f.2, rfl, hsz, heap_alloc_new W _, rfl⟩, lep_mk (by decide) (World.grownBy_alloc _ _ _), hC.alloc hgg _⟩
                | 9, _ =>
                  have e1 : z 1 = ve := hd' 1 (dep_of (by kernel_rfl))
                  obtain ⟨c, s, t, e8, hcB, hcb, hst⟩ : RBoxQ wr.heap.size (fun s t => (s, t) = f) (z 8) W := hd' 8 (dep_of (by kernel_rfl))
                  have hown := hC.2.2.1 hL
                  have hbW := (Array.getElem?_eq_some_iff.1 hC.1).1
                  refine wpOp_step rfl (fun K hK => ?_)
                  clear hd'
                  refine wp_append_lies _ (.tmp 91) (.tmp 98) 25 (by rfl) (bg + 1) 39 i0 _ 2 32 Tryz.underlying25 hi hz0 hz1 hz2 (by rfl) (by decide) ve hq.fs.length (fcells hq.fs) (by exact e1) hown ⟨c, 0, none⟩ 1 1 [.string s, .string t] (by exact e8) (by rfl) (World.news_of_block hcb) (by intro x hx; simp at hx; rcases hx with rfl | rfl <;> rfl) (by omega) (by unfold maxLen; omega) (by omega) (by omega) W.heap.size rfl ?_
                  intro g3 cap w7 ho7 hg7 _ _
                  exact hK _ _ ⟨_, rfl, ⟨s, t, hst, ho7⟩, lep_at hg7, hC.app hL hgg hB hg7⟩
                | 10, _ =>
                  refine wpOp_step rfl (fun K hK => ?_)
                  clear hd'
                  go_simp
                  exact hK _ _ ⟨_, rfl, rfl, lep_mk (by decide) (World.grownBy.refl _ _), hC.same⟩
              · intro L z W k hk hC hd'
                have ha : RAppQ bg (fun s t => (s, t) = f) hq.fs (z 9) W := hd' 9 (by decide)
                have e12 : z 10 = .pointer (some ⟨bg, 3, none⟩) := hd' 10 (by decide)
                obtain ⟨x3, p3, s, t, hst, hG8, hKp8⟩ := CTw.out hC ha hG2.gw hgg hB
                have hMk : M + k ≤ 60 + 12 * (h.fs.length - (j - 1)) := by omega
                obtain ⟨v', e11⟩ : ∃ x, z 9 = x := ⟨_, rfl⟩
                rw [e11] at hG8 hKp8
                rw [hqf, hst, ← hnew] at hG8
                obtain ⟨a8, c8, hv8⟩ := own_len2 hG8.own
                have hv9 : v' = .slice a8 (ex ++ (h.fs.drop (j - 1)).reverse).length c8 := by rw [hv8]
                clear hv8
                have hN : (ex ++ (h.fs.drop (j - 1)).reverse).length ≤ 4 := by simp; omega
                generalize hfs3 : ex ++ (h.fs.drop (j - 1)).reverse = fs3 at hG8 hv9 hN
                subst hv9
                subst hhq
                have HF3 := Lib.hid hfs3
                have HG8 := Lib.hid (hG8.mono hMk)
                have HK8 := Lib.hid hKp8
                clear ha hC hd' hG2 hG8 hKp8 hi hz0 hz1 hz2 hk hMk hqf hmany hrow hrge hnew hfs3 hfs2 hst hf
                refine wpOp_step rfl (fun K hK => ?_)
                go_simp
                refine hK _ _ ?_
                clear hK K
                go_wp2_with fail
                go_roundw
                case rel =>
                  refine ⟨j - 1, by omega, by omega, ⟨Value.slice a8 fs3.length c8, ?_⟩, HK8.out⟩
                  rw [HF3.out]; exact HG8.out
                case measure => simp [intOf]; omega
            · have hj0 : j = 0 := by omega
              subst hj0
              rw [List.drop_zero] at hG2
              have hHr := hH10.kept hKp2 hbl hrowl hG2.drawn
              have hM9 : 60 + 12 * (h.fs.length - 0) ≤ 84 := by omega
              have hGr := hG2.mono hM9
              have HDr := Lib.hid hGr.drawn
              obtain ⟨q0, q1, q2, q3, q4, _⟩ := five_facts hGr.box
              obtain ⟨y0, y1, y2, y3, y4, _⟩ := five_facts hHr.box
              have hex2 : ex.length ≤ 2 := by omega
              have hrd2 := hGr.drawn.1
              have HG := Lib.hid hGr
              have HH := Lib.hid hHr
              have HX := Lib.hid hex
              obtain ⟨fg, hfg⟩ : ∃ fg : List Fd, fg = ex ++ h.fs.reverse := ⟨_, rfl⟩
              rw [← hfg] at HG
              obtain ⟨ae, ce, hve⟩ := own_len2 HG.out.own
              subst hve
              have hts := tl_size HO.out.target
              have hhs := hl_size hhst2
              have hhh := hl_size HO.out.host
              have hfok : FOk fg 40 := by rw [hfg]; exact ex_ok HO.out HX.out
              have hfok1 := HO.out.ok
              have hfgl : fg.length ≤ 4 := by rw [hfg]; simp; omega
              have HFG := Lib.hid hfg
              clear hfg
              clear hG2 hHr hGr hM9 hlt hex hKp2
              go_wp2_with fail
              refine (pick_lit g 2 2 rfl (by decide) B 84 _ (by omega) (by decide) hrd2).mono ?_
              rintro e wz ⟨r19, rfl, hr19, -, hd19⟩
              have HG9 := Lib.hid (HG.out.keep hd19)
              have HH9 := Lib.hid (HH.out.keep hd19)
              clear hd19 q0 q1 q2 q3 q4 y0 y1 y2 y3 y4
              by_cases hr0 : r19 = 0
              · subst hr0
                have hBW : Below w.heap.size w wz := by
                  have h := (HG9.out.drawn).below hg
                  rw [HB0.out] at h
                  exact hb1.trans (h.mono (Nat.le_refl _))
                have HBW := Lib.hid hBW
                have hTR : TwinR (wrB h) (wrB ⟨⟨#[103, 101, 116]⟩, h.target, hst2, fg, ⟨#[]⟩⟩) := by
                  refine ⟨h, hst2, ex, HO.out, hhst2, HX.out, hex2, rfl, .inl ?_⟩
                  show _ = wrB ⟨h.verb, h.target, hst2, ex ++ h.fs.reverse, h.body⟩
                  rw [HO.out.verb, HO.out.body, HFG.out]
                have HTR := Lib.hid hTR
                have hvb : h.verb.size ≤ 20 := by rw [HO.out.verb]; decide
                have hbb2 : h.body.size ≤ 20 := by rw [HO.out.body]; decide
                have hRH := fun W (hW : Below wz.heap.size wz W) => And.intro (five_facts ((hW.block bh HH9.out.lt).trans HH9.out.box)) (HH9.out.frow.below (Nat.le_refl _) hW)
                have hRG := fun W (hW : Below wz.heap.size wz W) => And.intro (five_facts ((hW.block bg HG9.out.lt).trans HG9.out.box)) (HG9.out.frow.below (Nat.le_refl _) hW)
                have HRH := Lib.hid hRH
                have HRG := Lib.hid hRG
                clear hBW hTR hRH hRG hrd2 hb1
                go_upto_region 20 with fail
                refine wp_region_all (by kernel_rfl) 6 (by kernel_rfl) (by kernel_rfl)
                  (fun y => { tmps := #[.slice a len cap, undef, y 4, y 5, .pointer (some ⟨g, 0, none⟩), .pointer (some ⟨bh, 0, none⟩), .pointer (some ⟨b6, 0, none⟩), .pointer (some ⟨b7, 0, none⟩), .pointer (some ⟨bg, 0, none⟩), .int .i64 ((0 : Nat) : Int), .int .i64 ((0 : Nat) : Int), .string (⟨#[71, 69, 84, 32]⟩ ++ h.target), undef, u13, u14, u15, u16, u17, u18, u19, u20, u21, u22, u23, u24, u25, u26, u27, u28, u29, u30, u31, u32, u33, u34, u35, u36, u37, u38, u39, u40, u41, u42, u43, u44, u45, u46, u47, u48, u49, u50, u51, u52, u53, u54, u55, z 0, z 1, z 2, z 3, z 4, z 5, z 6, .agg #[.string ⟨#[103, 101, 116]⟩, .string h.target, .string hst2, .slice none 0 0, .string ⟨#[]⟩], .pointer (some ⟨g, 0, none⟩), .int .i64 ((r10 : Nat) : Int), .int .i64 ((0 : Nat) : Int), .bool false, u68, u69, u70, u71, u72, u73, u74, u75, u76, u77, u78, u79, u80, u81, u82, .pointer (some ⟨bh, 3, none⟩), .slice av h.fs.length cv, .int .i64 ((h.fs.length : Nat) : Int), .int .i64 ((0 : Nat) : Int), .bool false, u88, u89, u90, u91, u92, u93, u94, u95, u96, u97, u98, u99, u100, .pointer (some ⟨bg, 1, none⟩), .string h.target, .string (⟨#[71, 69, 84, 32]⟩ ++ h.target), .pointer (some ⟨g, 0, none⟩), .int .i64 ((0 : Nat) : Int), .bool true, y 0, y 1, y 2, y 3, u111, u112, u113, u114, u115, u116, u117, u118, u119, u120, u121, u122, u123, u124, u125, u126, u127, u128, u129, u130, u131, u132, u133, u134, u135, u136, u137, u138, u139, u140, u141, u142, u143, u144, u145, u146, u147, u148, u149, u150], defers := [] })
                  (fun _ W => Below wz.heap.size wz W)
                  (fun i x _ => x = [.agg #[.string h.verb, .string h.target, .string h.host, .slice av h.fs.length cv, .string h.body], .string (wrB h), .agg #[.string ⟨#[103, 101, 116]⟩, .string h.target, .string hst2, .slice ae fg.length ce, .string ⟨#[]⟩], .string (wrB ⟨⟨#[103, 101, 116]⟩, h.target, hst2, fg, ⟨#[]⟩⟩), .string (wrB h), .string (wrB ⟨⟨#[103, 101, 116]⟩, h.target, hst2, fg, ⟨#[]⟩⟩)].getD i undef) (fun _ _ => True)
                  (fun i => [u107, u108, u109, u110, .string ⟨#[]⟩, .string ⟨#[]⟩].getD i undef) (Below.refl _ _).drew (fun _ _ _ _ _ h _ => h) ?_ ?_
                · intro i hi' z W k hk hC hd'
                  match i, hi' with
                  | 0, _ =>
                    obtain ⟨⟨q0, q1, q2, q3, q4, _⟩, _⟩ := HRH.out W hC
                    refine wpOp_step rfl (fun K hK => ?_)
                    clear hd'
                    go_simp
                    exact hK _ _ ⟨.agg #[.string h.verb, .string h.target, .string h.host, .slice av h.fs.length cv, .string h.body], rfl, rfl, trivial, hC⟩
                  | 1, _ =>
                    have e0 : z 0 = .agg #[.string h.verb, .string h.target, .string h.host, .slice av h.fs.length cv, .string h.body] := hd' 0 (dep_of (by kernel_rfl))
                    obtain ⟨_, hF⟩ := HRH.out W hC
                    refine wpOp_step rfl (fun K hK => ?_)
                    clear hd'
                    go_simp
                    refine (spec_hedwrite h _ W hF (by omega) (fun f hf => ⟨Nat.le_trans (hfok1 f hf).1 (by omega), Nat.le_trans (hfok1 f hf).2 (by omega)⟩) (by omega) (by omega) (by omega) (by omega)).mono ?_
                    rintro e w7 ⟨rfl, hb7⟩
                    exact hK _ _ ⟨.string (wrB h), by simp [upd, e0, wrB], rfl, trivial, hC.trans (hb7.mono hC.size)⟩
                  | 2, _ =>
                    obtain ⟨⟨q0, q1, q2, q3, q4, _⟩, _⟩ := HRG.out W hC
                    refine wpOp_step rfl (fun K hK => ?_)
                    clear hd'
                    go_simp
                    exact hK _ _ ⟨.agg #[.string ⟨#[103, 101, 116]⟩, .string h.target, .string hst2, .slice ae fg.length ce, .string ⟨#[]⟩], rfl, rfl, trivial, hC⟩
                  | 3, _ =>
                    have e2 : z 2 = .agg #[.string ⟨#[103, 101, 116]⟩, .string h.target, .string hst2, .slice ae fg.length ce, .string ⟨#[]⟩] := hd' 2 (dep_of (by kernel_rfl))
                    obtain ⟨_, hF⟩ := HRG.out W hC
                    refine wpOp_step rfl (fun K hK => ?_)
                    clear hd'
                    go_simp
                    refine (spec_hedwrite ⟨⟨#[103, 101, 116]⟩, h.target, hst2, fg, ⟨#[]⟩⟩ _ W hF (by exact Nat.le_trans hfgl (by omega)) (fun f hf => ⟨Nat.le_trans (hfok f hf).1 (by omega), Nat.le_trans (hfok f hf).2 (by omega)⟩) (by show (ByteArray.mk #[103, 101, 116]).size ≤ 1048576; decide) (by show h.target.size ≤ 1048576; omega) (by show hst2.size ≤ 1048576; omega) (by show (ByteArray.mk #[]).size ≤ 1048576; decide)).mono ?_
                    rintro e w7 ⟨rfl, hb7⟩
                    exact hK _ _ ⟨.string (wrB ⟨⟨#[103, 101, 116]⟩, h.target, hst2, fg, ⟨#[]⟩⟩), by simp [upd, e2, wrB], rfl, trivial, hC.trans (hb7.mono hC.size)⟩
                  | 4, _ =>
                    have e1 : z 1 = .string (wrB h) := hd' 1 (dep_of (by kernel_rfl))
                    refine wpOp_step rfl (fun K hK => ?_)
                    clear hd'
                    go_simp
                    exact hK _ _ ⟨.string (wrB h), by simp [upd, e1], rfl, trivial, hC⟩
                  | 5, _ =>
                    have e3 : z 3 = .string (wrB ⟨⟨#[103, 101, 116]⟩, h.target, hst2, fg, ⟨#[]⟩⟩) := hd' 3 (dep_of (by kernel_rfl))
                    refine wpOp_step rfl (fun K hK => ?_)
                    clear hd'
                    go_simp
                    exact hK _ _ ⟨.string (wrB ⟨⟨#[103, 101, 116]⟩, h.target, hst2, fg, ⟨#[]⟩⟩), by simp [upd, e3], rfl, trivial, hC⟩
                · intro z W k hk hC hd'
                  have e4 : z 4 = .string (wrB h) := hd' 4 (by decide)
                  have e5 : z 5 = .string (wrB ⟨⟨#[103, 101, 116]⟩, h.target, hst2, fg, ⟨#[]⟩⟩) := hd' 5 (by decide)
                  have HF := Lib.hid (HBW.out.trans (hC.mono HBW.out.size))
                  clear hd' hC
                  rw [e4, e5]
                  go_wp2
                  go_ret2
                  exact ⟨⟨_, _, rfl, HTR.out⟩, HF.out⟩
              · have hz : ((r19 : Int) == 0) = false := beq_eq_false_iff_ne.2 (by omega)
                have hBW : Below w.heap.size w wz := by
                  have h := (HG9.out.drawn).below hg
                  rw [HB0.out] at h
                  exact hb1.trans (h.mono (Nat.le_refl _))
                have HBW := Lib.hid hBW
                have hvb : h.verb.size ≤ 20 := by rw [HO.out.verb]; decide
                have hbb2 : h.body.size ≤ 20 := by rw [HO.out.body]; decide
                obtain ⟨q0, q1, q2, q3, q4, _⟩ := five_facts HG9.out.box
                obtain ⟨y0, y1, y2, y3, y4, _⟩ := five_facts HH9.out.box
                have hRG := HG9.out.frow
                have hRH := HH9.out.frow
                obtain ⟨ag, cg, hag, _, _, hcg⟩ := hRG
                obtain rfl : ae = ag := by injection hag
                have HCG := Lib.hid hcg
                have HRH := Lib.hid hRH
                dsimp only at q0 q1 q2 q3 q4
                clear hBW hag hRH hrd2 hb1 hcg
                go_wp2_with fail
                go_loopw [11, 12] (fun ss kk wr => ∃ (j : Nat) (s : ByteArray), ss = .string s ∧ kk = .int .i64 j ∧ j ≤ fg.length ∧ s.data.toList = twPre hst2.data.toList h.target.data.toList ++ (fg.take j).flatMap twLine ∧ s.size ≤ 120 + 90 * j ∧ ∃ n, wr = wz.drewN n) (fun _ kk _ => fg.length - (intOf kk).toNat)
                case atStart => exact ⟨0, _, rfl, rfl, Nat.zero_le _, by simp [twPre], by simp [ByteArray.size_append, mk_size]; omega, 0, rfl⟩
                case round =>
                  obtain ⟨j, s, rfl, rfl, hj, hs, hsz, n, rfl⟩ := hrel
                  have HS := Lib.hid hs
                  clear hs
                  by_cases hlt : j < fg.length
                  · obtain ⟨rb, ro, rfl, hrb, c1, d1⟩ := HCG.out j fg[j] (List.getElem?_eq_getElem hlt)
                    have hfj := hfok fg[j] (List.getElem_mem hlt)
                    have hstep : (fg.take (j + 1)).flatMap twLine = (fg.take j).flatMap twLine ++ twLine fg[j] := by
                      rw [List.take_succ_eq_append_getElem hlt, List.flatMap_append]; simp
                    have HST := Lib.hid hstep
                    clear hstep
                    generalize fg[j] = f at *
                    obtain ⟨f1, f2⟩ := f
                    simp only at c1 d1 hfj
                    obtain ⟨hf1, hf2⟩ := hfj
                    have i1 : (j : Int) < (fg.length : Int) := by omega
                    go_wp2_with fail
                    go_quiet (fail)
                    all_goals go_wp2
                    go_roundw
                    case rel => exact ⟨j + 1, _, rfl, by go_num, by omega, by rw [HST.out]; simp [HS.out, twLine], by simp [ByteArray.size_append, mk_size]; omega, _, rfl⟩
                    case measure => simp [intOf]; omega
                  · have hj0 : j = fg.length := by omega
                    subst hj0
                    have hTR : TwinR (wrB h) (s ++ ⟨#[10]⟩) := by
                      refine ⟨h, hst2, ex, HO.out, hhst2, HX.out, hex2, rfl, .inr ?_⟩
                      have hs' := HS.out
                      rw [List.take_length] at hs'
                      rw [← HFG.out, twin_text, ← hs']
                      simp
                    have HTR := Lib.hid hTR
                    clear hTR
                    go_wp2_with fail
                    refine (spec_wr h _ _ (HRH.out.drewN n) (by omega) (fun f hf => ⟨Nat.le_trans (hfok1 f hf).1 (by omega), Nat.le_trans (hfok1 f hf).2 (by omega)⟩) (by omega) (by omega) (by omega) (by omega)).mono ?_
                    rintro e w7 ⟨rfl, hb7⟩
                    have HF := Lib.hid (below_drewN (n := n) HBW.out |>.trans (hb7.mono HBW.out.size))
                    clear hb7
                    go_wp2
                    go_ret2
                    exact ⟨⟨_, _, rfl, HTR.out⟩, HF.out⟩
end Go.Proofs.YtabidoopodbknaaGreatDoor
