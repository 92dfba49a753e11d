/- Walks: the drawing of lists of fields, as rows of the call's own. -/
import Derived.Test.YtlfcamapjeldjaaGreatDoorDrawL
namespace Go.Proofs.YtlfcamapjeldjaaGreatDoor
open Go.RowKit

set_option maxRecDepth 100000 in
set_option maxHeartbeats 1600000 in
theorem fields_own (g B m : Nat) (q : Int) (w : World) (hm : m ≤ 600000) (hq : q ≤ 1000000) (hq0 : 0 ≤ q) (h : RdAt w B g m) :
    Calls Tryz.prog 17 #[.pointer (some ⟨g, 0, none⟩), .int .i64 q] w fun e w' => ∃ v fs, e = .returned v ∧ w'.ownsRow w.heap.size 27 2 v fs.length (fcells fs) ∧ v ≠ .slice none 0 0 ∧ FOk fs 40 ∧ fs.length ≤ 4 ∧ Drawn w w' B g (m + 300) := by
  obtain ⟨i0, hi, hz0, hz1, hz2⟩ := info_parts Tryz.infoFd
  have hg := h.lt
  go_enter Tryz.func17, Tryz.ntmps17
  go_wp2_with fail
  refine (pick_lit g 5 5 rfl (by decide) B m _ (by omega) (by decide) (h.alloc _)).mono ?_
  rintro e w1 ⟨r, rfl, hr, -, hd1⟩
  have hD1 := hd1.of_alloc
  have ho1 : w1.ownsRow w.heap.size 27 2 (.slice (some ⟨w.heap.size, 0, none⟩) 0 0) 0 (fcells []) := (World.ownsRow_made w #[] 0 (Nat.le_refl _) (by decide) rfl).kept hd1.2 (.inr (by simp [Value.ownBlock]; omega))
  clear hd1
  go_wp2
  go_loopw [5, 6] (fun o i wr => ∃ (k : Nat) (fs : List Fd), i = .int .i64 k ∧ k + fs.length ≤ 4 ∧ wr.ownsRow w.heap.size 27 2 o fs.length (fcells fs) ∧ o ≠ .slice none 0 0 ∧ FOk fs 40 ∧ Drawn w wr B g (m + 1 + 60 * fs.length)) (fun _ i _ => (intOf i).toNat)
  case atStart => exact ⟨r, [], rfl, by simp; omega, ho1, by simp, fun f hf => by simp at hf, hD1⟩
  case round =>
    obtain ⟨k, fs, rfl, hk, hown, hne, hok, hD⟩ := hrel
    by_cases hlt : 0 < k
    · have hrd := hD.1
      have hszr := hD.2.size
      go_wp2_with fail
      refine (field_any g B (m + 1 + 60 * fs.length) q _ (by omega) hq hq0 hrd).mono ?_
      rintro e w2 ⟨s, t, rfl, hs, ht, hd2⟩
      have hown2 := own_drawn hown hg hd2.2
      have hD2 := hD.trans hd2
      have hsz2 := hD2.2.size
      have hlen : fs.length ≤ 4 := by omega
      have hv2 := hown.lt
      have HK := Lib.hid hok
      clear hown hd2 hD hrd hok
      go_wp2_with (at_builtin; go_must (refine wpList_append_lies _ rfl _ _ 23 (by rfl) w.heap.size 27 i0 _ 2 32 Tryz.underlying23 hi hz0 hz1 hz2 (by rfl) (by decide) _ fs.length (fcells fs) (by rfl) (hown2.alloc _) ⟨w2.heap.size, 0, none⟩ 1 1 [.string s, .string t] (by rfl) (by rfl) (pair_new w2 s t _) (by intro x hx; simp at hx; rcases hx with rfl | rfl <;> rfl) (by omega) (by unfold maxLen; omega) (by omega) (by simp; omega) (w2.heap.size + 1) (by simp) ?_); intro g3 cap w3 ho3 hg3 hat3 hlt3)
      have hD3 := drawn_grown (hD2.alloc (.cells #[.string s, .string t] 27)) hg3 hg (fun r hr => (hv2 r hr).1)
      clear hg3 hD2 hown2
      go_roundw
      case rel =>
        refine ⟨k - 1, fs ++ [(s, t)], by go_num, by simp; omega, ?_, by simp, ?_, by rw [List.length_append]; exact hD3.mono (by simp; omega)⟩
        · rw [fcells_app, List.length_append]; exact ho3
        · intro f hf
          rcases List.mem_append.1 hf with hf | hf
          · exact HK.out f hf
          · have : f = (s, t) := by simpa using hf
            subst this; exact ⟨hs, ht⟩
      case measure => simp [intOf]; omega
    · have hk0 : k = 0 := by omega
      subst hk0
      go_wp2
      go_ret
      exact ⟨_, fs, rfl, hown, hne, hok, by omega, hD.mono (by omega)⟩
end Go.Proofs.YtlfcamapjeldjaaGreatDoor
