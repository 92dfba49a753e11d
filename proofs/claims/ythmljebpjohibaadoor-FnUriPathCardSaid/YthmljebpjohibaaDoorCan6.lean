/- Places: the machine that writes a place in its plainest form: a code's end, written as a byte or as a code. -/
import Derived.Test.YthmljebpjohibaaDoorCan5
namespace Go.Proofs.YthmljebpjohibaaDoor
open Go.RowKit

set_option maxHeartbeats 1600000 in
theorem s_d2_free (b : Nat) (q : Bool) (R : Option (List UInt8)) (ys l : List UInt8) (a c : UInt8) (seg x y : Nat) (w : World) (h : CAt w b ys seg (bkV b q) x) (hcls : Cls w) (hg : 0 < b) (hn : ys.length ≤ 900) (ha : hexV a = some x) (hR : CBase q R ys seg (37 :: a :: c :: l)) (hc : hexV c = some y) (hd : doubtB (x * 16 + y) = false) (hf : freeB (UInt8.ofNat (x * 16 + y)) = true) :
    Calls Tryd.prog 92 #[.pointer (some ⟨b, 0, none⟩), .int .u8 c.toNat] w (CNext b R ys.length l w) := by
  have hb := cbase_code hR ha hc hd
  rw [show putC (x * 16 + y) = [UInt8.ofNat (x * 16 + y)] from if_pos hf] at hb
  have hfin : Hid (CInv R (bkS q) (ys ++ [UInt8.ofNat (x * 16 + y)]) seg x l) := Lib.hid (cinv_bk hb)
  have hx16 := hexV_lt ha
  have hy16 := hexV_lt hc
  have c1 := fun W => hex_value_some c y hc W
  have hnib := nib x y hx16 hy16
  have hnn : (UInt8.ofNat (x * 16 + y)).toNat = x * 16 + y := by simp; omega
  have c2 := fun W => idx ⟨#[46, 47, 63, 37, 38, 61]⟩ (UInt8.ofNat (x * 16 + y)) W
  rw [hnn] at c2
  have hI := doubt_idx (x * 16 + y) (by omega)
  rw [hd, decide_eq_false_iff_not] at hI
  have e0 : (ByteArray.mk #[46, 47, 63, 37, 38, 61]).data.toList = [46, 47, 63, 37, 38, 61] := rfl
  rw [e0] at c2
  generalize Lib.indexByte [46, 47, 63, 37, 38, 61] (UInt8.ofNat (x * 16 + y)) = I at *
  have c3 := impl_free (UInt8.ofNat (x * 16 + y)) (w.setCell ⟨b, 2, none⟩ .nilFunc) (hcls.belowB (below_set (Below.refl b w)) hg)
  rw [hnn, hf] at c3
  have c4 := fun nx => c_put b ys seg x .nilFunc nx (UInt8.ofNat (x * 16 + y)) (w.setCell ⟨b, 2, none⟩ .nilFunc) (h.set2 .nilFunc) (by omega)
  rw [hnn] at c4
  have hI' : I < 0 := by omega
  obtain ⟨v, hh, ho⟩ := h
  have k2 : w.cell? ⟨b, 2, none⟩ = some (bkV b q) := by simp [World.cell?, hh]
  have f2 : w.frozen? ⟨b, 2, none⟩ = false := by simp [World.frozen?, hh]
  have k3 : w.cell? ⟨b, 3, none⟩ = some (.int .u8 (x : Int)) := by simp [World.cell?, hh]
  have hn256 : x * 16 + y < 256 := by omega
  have hlen : (ys ++ [UInt8.ofNat (x * 16 + y)]).length ≤ ys.length + 3 := by simp
  have hlast : ∀ w2, CAt w2 b (ys ++ [UInt8.ofNat (x * 16 + y)]) seg .nilFunc x → Below b (w.setCell ⟨b, 2, none⟩ .nilFunc) w2 → CNext b R ys.length l w (.returned (bkV b q)) w2 := by
    intro w2 h1 h2
    rw [← cV_bk]
    exact next_of (by rw [res_bk]; exact h1) hfin hlen ((below_set (Below.refl b w)).trans h2) (bk_ne q)
  have HL := Lib.hid hlast
  clear hR hc ha hh ho hnn hd e0 hcls hb hfin hf hI hlen hlast
  generalize UInt8.ofNat (x * 16 + y) = z at *
  generalize x * 16 + y = n at *
  cases q
  · unfold bkV pathV at k2
    unfold bkV pathV at HL
    go_enter Tryd.func92, Tryd.ntmps92
    go_wp2_with fail
    refine (c1 _).mono ?_
    rintro e w' ⟨rfl, rfl⟩
    go_wp2_with fail
    refine (c2 _).mono ?_
    rintro e w' ⟨rfl, rfl⟩
    go_wp2_with fail
    refine c3.mono ?_
    rintro e w' ⟨rfl, rfl⟩
    go_wp2_with fail
    refine (c4 _).mono ?_
    rintro e w2 ⟨rfl, h1, h2⟩
    go_wp2
    go_ret
    exact HL.out w2 h1 h2
  · unfold bkV queryV at k2
    unfold bkV queryV at HL
    go_enter Tryd.func92, Tryd.ntmps92
    go_wp2_with fail
    refine (c1 _).mono ?_
    rintro e w' ⟨rfl, rfl⟩
    go_wp2_with fail
    refine (c2 _).mono ?_
    rintro e w' ⟨rfl, rfl⟩
    go_wp2_with fail
    refine c3.mono ?_
    rintro e w' ⟨rfl, rfl⟩
    go_wp2_with fail
    refine (c4 _).mono ?_
    rintro e w2 ⟨rfl, h1, h2⟩
    go_wp2
    go_ret
    exact HL.out w2 h1 h2
end Go.Proofs.YthmljebpjohibaaDoor
