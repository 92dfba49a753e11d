import Derived.Test.YtfiggbhmpeffmaaGreatDoorGOdd
import Derived.Test.YtfiggbhmpeffmaaGreatDoorGimp
-- from XByt
/- Walks: the drawing of bytes that somebody asks by. -/
namespace Go.Proofs.YtfiggbhmpeffmaaGreatDoor
open Go.RowKit

theorem hedt_small (h : Hd) (e : hedB h = true) : (⟨(hedT h).toArray⟩ : ByteArray).size ≤ 320 := by
  have hk := hedB_iff.1 e
  have h1 : h.body.size ≤ 20 := by rw [size_len]; exact (body_len hk).1
  have h2 : (headT h).length ≤ 300 := hk.len
  rw [size_len]
  have : (hedT h).length = (headT h).length + h.body.size := by rw [size_len]; simp [hedT]
  simpa using (by omega : (hedT h).length ≤ 320)
theorem drawn_set5 {w0 w : World} {B g m b : Nat} (h : Drawn w0 w B g m) (hgb : g < b) (hB : w0.heap.size ≤ b) (x0 x1 x2 x3 x4 : Value) : Drawn w0 (set5 w b x0 x1 x2 x3 x4) B g m := by
  unfold set5
  exact drawn_set1 (drawn_set1 (drawn_set1 (drawn_set1 (drawn_set1 h hgb hB 0 x0) hgb hB 1 x1) hgb hB 2 x2) hgb hB 3 x3) hgb hB 4 x4
theorem fok_mono {fs : List Fd} {K K' : Nat} (h : FOk fs K) (hK : K ≤ K') : FOk fs K' := fun f hf => ⟨Nat.le_trans (h f hf).1 hK, Nat.le_trans (h f hf).2 hK⟩
theorem drawn_under2 {w0 w1 w2 : World} {B g m : Nat} (h : Drawn w0 w1 B g m) (hb : Below w1.heap.size w1 w2) (hg : g < w0.heap.size) : Drawn w0 w2 B g m :=
  drawn_grown (row := none) h ⟨hb.os, hb.tape, hb.output, hb.size, fun k hk _ => hb.block k hk⟩ hg (fun _ e => by cases e)

set_option maxRecDepth 100000 in
set_option maxHeartbeats 3200000 in
theorem bytes_any (g B m : Nat) (w : World) (hm : m ≤ 300000) (hR : RdAt w B g m) :
    Calls Tryz.prog 29 #[.pointer (some ⟨g, 0, none⟩)] w (DrawnStr 4100 w B g (m + 1200)) := by
  have hg := hR.lt
  go_enter Tryz.func29, Tryz.ntmps29
  go_wp2_with fail
  refine (head_any g B m 12 _ (by omega) (by omega) (by omega) hR).mono ?_
  rintro e w1 ⟨h, v, rfl, ho, hok, b1, b2, b3, b4, hn, hd1⟩
  obtain ⟨a, c, rfl⟩ := own_len2 ho
  have hF1 := frow_of_own ho hg
  have hg1 := hd1.1.lt
  obtain ⟨W0, hW0⟩ : ∃ W0, W0 = w1.alloc (.cells #[.string h.verb, .string h.target, .string h.host, .slice a h.fs.length c, .string h.body] 25) := ⟨_, rfl⟩
  have hb5 : W0.heap[w1.heap.size]? = some (.cells #[.string h.verb, .string h.target, .string h.host, .slice a h.fs.length c, .string h.body] 25 (0, 0)) := by rw [hW0]; exact heap_alloc_new w1 _
  have hd5 : Drawn w1 W0 B g (m + 1000) := by rw [hW0]; exact (Drawn.refl hd1.1).alloc _
  have hs5 : w1.heap.size < W0.heap.size := by rw [hW0]; simp
  have hF5 : FRowA g W0 (.slice a h.fs.length c) h.fs := hF1.keep hd5.2
  have hall : ∀ W M, Drawn W0 W B g M → W.heap[w1.heap.size]? = some (.cells #[.string h.verb, .string h.target, .string h.host, .slice a h.fs.length c, .string h.body] 25 (0, 0)) ∧ FRowA g W (.slice a h.fs.length c) h.fs := fun W M hD =>
    ⟨block_keep (by omega) hb5 hD.2, hF5.keep hD.2⟩
  have hfin : ∀ (W : World) (s : ByteArray) (M : Nat), Drawn W0 W B g M → M ≤ m + 1200 → s.size ≤ 4100 → DrawnStr 4100 w B g (m + 1200) (.returned (.string s)) W := fun W s M hD hM hs =>
    ⟨s, rfl, hs, ((hd1.trans hd5).trans hD).mono hM⟩
  have hgW : g < W0.heap.size := by omega
  have HA := Lib.hid hall
  have HFin := Lib.hid hfin
  obtain ⟨x0, x1, x2, x3, x4, _⟩ := five_facts hb5
  have HD0 := Lib.hid (Drawn.refl hd5.1)
  have HW0 := Lib.hid hW0
  rw [hW0] at x0 x1 x2 x3 x4
  clear hW0 hb5 hF5 hall hfin hF1 ho hd1 hd5 hR hg1
  go_wp2_with fail
  rw [← HW0.out]
  refine (oddtext_any g B (m + 1000) h (.slice a h.fs.length c) W0 (by omega) HD0.out.1 (HA.out W0 _ HD0.out).2 hok hn b1 b2 b3 b4).mono ?_
  rintro e w3 ⟨s, rfl, hs, hd3⟩
  have HD3 := Lib.hid (HD0.out.trans hd3)
  have hrd3 := hd3.1
  clear hd3 x0 x1 x2 x3 x4
  have hO := spec_hedok h (.slice a h.fs.length c)
  have hFO := fok_mono hok (show 40 ≤ 2000000 by decide)
  go_upto_region 3 with fail
  go_cut [16] (fun s16 wx => ∃ q : Bool, s16 = .bool q ∧ Drawn W0 wx B g (m + 1000 + 100 + 1) ∧ (q = true → hedB h = true))
  case first =>
    go_wp2_with fail
    refine (pick_any g 2 B (m + 1000 + 100) _ (by omega) (by omega) hrd3).mono ?_
    rintro e w4 ⟨r4, rfl, hr4, hd4⟩
    have HD4 := Lib.hid (HD3.out.trans hd4)
    clear hd4 hrd3
    obtain ⟨x0, x1, x2, x3, x4, _⟩ := five_facts (HA.out w4 _ HD4.out).1
    by_cases hr0 : r4 = 0
    · subst hr0
      go_wp2_with fail
      refine (hO _ (HA.out w4 _ HD4.out).2.row (by omega) hFO (by omega) (by omega) (by omega) (by omega)).mono ?_
      rintro e w5 ⟨rfl, hb5⟩
      have HD5 := Lib.hid (drawn_under2 HD4.out hb5 hgW)
      clear hO hb5 x0 x1 x2 x3 x4
      go_wp2_with fail
      go_meet
      exact ⟨_, rfl, HD5.out, id⟩
    · have n0 : ((r4 : Int) == 0) = false := by simp; omega
      clear hO
      go_wp2_with fail
      go_meet
      exact ⟨_, rfl, HD4.out, fun e => by cases e⟩
  case rest =>
    obtain ⟨q, rfl, hd4, hq⟩ := hcut
    have HD4 := Lib.hid hd4
    have hW := spec_hedwrite h (.slice a h.fs.length c)
    obtain ⟨x0, x1, x2, x3, x4, _⟩ := five_facts (HA.out wc _ hd4).1
    clear hd4 hrd3 HD3 hO
    go_upto_if 16 with fail
    go_cut [4] (fun s4 wx => ∃ t : ByteArray, s4 = .string t ∧ t.size ≤ 2000 ∧ Drawn W0 wx B g (m + 1000 + 100 + 1))
    case first =>
      cases q
      · clear hW
        go_wp2_with fail
        go_meet
        exact ⟨_, rfl, hs, HD4.out⟩
      · have hh := hq rfl
        have hsm := hedt_small h hh
        clear hq
        go_wp2_with fail
        refine (hW _ (HA.out wc _ HD4.out).2.row (by omega) hFO (by omega) (by omega) (by omega) (by omega)).mono ?_
        rintro e w5 ⟨rfl, hb5⟩
        have HD5 := Lib.hid (drawn_under2 HD4.out hb5 hgW)
        rw [if_pos hh]
        clear hW hb5 x0 x1 x2 x3 x4
        go_wp2_with fail
        go_meet
        exact ⟨_, rfl, by omega, HD5.out⟩
    case rest =>
      obtain ⟨t, rfl, ht, hd6⟩ := hcut
      have hrd6 := hd6.1
      have HD6 := Lib.hid hd6
      clear hd6 HD4 hW x0 x1 x2 x3 x4
      go_wp2_with fail
      refine (pick_any g 12 B (m + 1000 + 100 + 1) _ (by omega) (by omega) hrd6).mono ?_
      rintro e w7 ⟨r7, rfl, hr7, hd7⟩
      have HD7 := Lib.hid (HD6.out.trans hd7)
      have hrd7 := hd7.1
      clear hd7 hrd6
      by_cases e0 : r7 = 0
      · subst e0
        go_wp2_with fail
        refine (bent_any g B (m + 1000 + 100 + 1 + 1) t _ (by omega) (by omega) hrd7).mono ?_
        rintro e w8 ⟨t8, rfl, ht8, hd8⟩
        have HD8 := Lib.hid (HD7.out.trans hd8)
        go_wp2
        go_ret
        exact HFin.out _ _ _ HD8.out (by omega) (by omega)
      · have n0 : ((r7 : Int) == 0) = false := by simp; omega
        by_cases e1 : r7 = 1
        · subst e1
          go_wp2_with fail
          refine (pick_any g _ B (m + 1000 + 100 + 1 + 1) _ (by omega) (by omega) hrd7).mono ?_
          rintro e w8 ⟨r8, rfl, hr8, hd8⟩
          have HD8 := Lib.hid (HD7.out.trans hd8)
          have hr9 : (r8 : Int) ≤ (t.size : Int) := by omega
          have hr10 : r8 ≤ t.size := by omega
          clear hr8
          go_wp2
          go_ret
          exact HFin.out _ _ _ HD8.out (by omega) (by simp only [ByteArray.size_extract]; omega)
        · have n1 : ((r7 : Int) == 1) = false := by simp; omega
          by_cases e2 : r7 = 2
          · subst e2
            have hz : ¬ (9223372036854775807 < t.size + 6) := by omega
            go_wp2_with fail
            go_ret
            exact HFin.out _ _ _ HD7.out (by omega) (by simp only [ByteArray.size_append]; rw [show (ByteArray.mk #[103, 101, 116, 32, 47, 32]).size = 6 from rfl]; omega)
          · have n2 : ((r7 : Int) == 2) = false := by simp; omega
            by_cases e3 : r7 = 3
            · subst e3
              have hz : ¬ (9223372036854775807 < t.size + t.size) := by omega
              go_wp2_with fail
              go_ret
              exact HFin.out _ _ _ HD7.out (by omega) (by simp only [ByteArray.size_append]; omega)
            · have n3 : ((r7 : Int) == 3) = false := by simp; omega
              go_wp2_with fail
              go_ret
              exact HFin.out _ _ _ HD7.out (by omega) (by omega)
end Go.Proofs.YtfiggbhmpeffmaaGreatDoor

