/- Places: the machine that writes a place in its plainest form: dots, paths, what is asked. -/
import Derived.Test.YthmljebpjohibaaDoorCan
namespace Go.Proofs.YthmljebpjohibaaDoor
open Go.RowKit

set_option maxRecDepth 100000 in
set_option maxHeartbeats 1600000 in
theorem c_dotted (b : Nat) (ys : List UInt8) (seg high : Nat) (res : Value) (w : World) (h : CAt w b ys seg res high) (__hn : ys.length ≤ 1000) (h0 : 0 < ys.length) (hs : seg ≤ ys.length) :
    Calls Tryd.prog 52 #[.pointer (some ⟨b, 0, none⟩)] w fun e w' => e = .returned (.bool (dotL (ys.drop seg))) ∧ ∃ n, w' = w.drewN n := by
  obtain ⟨v, hh, hown⟩ := h
  obtain ⟨g, cap, rfl⟩ := own_form hown h0
  obtain ⟨hm1, hm2⟩ := own_max hown
  have k0 : w.cell? ⟨b, 0, none⟩ = some (.slice (some ⟨g, 0, none⟩) ys.length cap) := by simp [World.cell?, hh]
  have k1 : w.cell? ⟨b, 1, none⟩ = some (.int .i64 (seg : Int)) := by simp [World.cell?, hh]
  have hcv : ∀ W : World, (∀ a : Addr, W.cell? a = w.cell? a) → (convert 22 41 (.slice (if cap = seg then some ⟨g, 0, none⟩ else some ⟨g, seg, none⟩) (ys.length - seg) (cap - seg))).run Tryd.prog W = .ok (.string ⟨(ys.drop seg).toArray⟩) W := by
    intro W hW
    have hl : ys.length - seg = (ys.drop seg).length := by simp
    rw [hl]
    have key : ∀ o : Nat, (o = seg ∨ ys.length ≤ seg) → (convert 22 41 (.slice (some ⟨g, o, none⟩) (ys.drop seg).length (cap - seg))).run Tryd.prog W = .ok (.string ⟨(ys.drop seg).toArray⟩) W := by
      intro o ho
      refine run_convert_bytes_back (P := Tryd.prog) W 22 41 5 ⟨g, o, none⟩ (cap - seg) (ys.drop seg) Tryd.underlying22 Tryd.underlying5 Tryd.underlying41 (fun j hj => ?_)
      have hj2 : seg + j < ys.length := by simp at hj; omega
      obtain rfl : o = seg := by omega
      have hadd : (⟨g, o, none⟩ : Addr).add j = ⟨g, o + j, none⟩ := by unfold Addr.add; split <;> simp_all
      rw [hadd, hW, own_cell hown (u8s_at hj2), List.getElem_drop]
    by_cases hc : cap = seg
    · rw [if_pos hc]; exact key 0 (by omega)
    · rw [if_neg hc]; exact key seg (.inl rfl)
  have hcd := hcv w.drew (fun _ => rfl)
  have c1 := fun W => textcut ⟨(ys.drop seg).toArray⟩ 63 W (by rw [size_len]; unfold maxLen; simp; omega)
  simp only [UInt8.reduceToNat, Int.cast_ofNat_Int] at c1
  have hlen := (cutL_len (ys.drop seg) 63).1
  obtain ⟨R, hR⟩ : ∃ R, R = dotL (ys.drop seg) := ⟨_, rfl⟩
  rw [← hR]
  unfold dotL at hR
  clear hown hh hcv
  generalize cutL (ys.drop seg) 63 = r at *
  obtain ⟨p, r2, r3⟩ := r
  simp only at c1 hR
  generalize ByteArray.mk (ys.drop seg).toArray = os at *
  unfold isDots at hR
  rw [← toList_mk p] at hR
  generalize ByteArray.mk p.toArray = ps at *
  generalize hb1 : (ps.toList == [46]) = b1 at *
  generalize hb2 : (ps.toList == [46, 46]) = b2 at *
  have HR := Lib.hid hR; clear hR
  by_cases hcs : cap = seg
  · subst hcs
    rw [if_pos rfl, show ys.length - cap = 0 from by omega, show cap - cap = 0 from by omega] at hcd
    cases b1
    all_goals go_enter Tryd.func52, Tryd.ntmps52
    all_goals go_wp2_with fail
    all_goals go_region_with (go_at_call 40; refine (c1 _).mono ?_; rintro e w1 ⟨rfl, n1, rfl⟩)
    all_goals go_wp2
    all_goals go_ret
    all_goals exact ⟨by rw [HR.out]; rfl, 1 + n1, rfl⟩
  · rw [if_neg hcs] at hcd
    cases b1
    all_goals go_enter Tryd.func52, Tryd.ntmps52
    all_goals go_wp2_with fail
    all_goals go_region_with (go_at_call 40; refine (c1 _).mono ?_; rintro e w1 ⟨rfl, n1, rfl⟩)
    all_goals go_wp2
    all_goals go_ret
    all_goals exact ⟨by rw [HR.out]; rfl, 1 + n1, rfl⟩
end Go.Proofs.YthmljebpjohibaaDoor
