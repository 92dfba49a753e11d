/- Walks: whether a host is in its plainest form, by the program. -/
import Derived.Test.YtojmfcpkmknleaaDoorHstID
namespace Go.Proofs.YtojmfcpkmknleaaDoor
open Go.RowKit

theorem host_ps (t : ByteArray) : ∃ (T : ByteArray) (ok : Bool), hostR t.data.toList = (T, ok) ∧ ((ok = true ∧ T = t) ↔ hostB t.data.toList = true) := by
  obtain ⟨T, ok, hr⟩ : ∃ T ok, hostR t.data.toList = (T, ok) := ⟨_, _, rfl⟩
  refine ⟨T, ok, hr, ?_⟩
  constructor
  · rintro ⟨rfl, rfl⟩; exact (hostR_yes hr).1
  · intro h
    rw [host_again h] at hr
    obtain ⟨h1, h2⟩ := Prod.mk.inj hr
    exact ⟨h2.symm, by rw [← h1]⟩
theorem strh_same (a : ByteArray) : (a.toList == a.toList) = true := by simp
theorem strh_ne {a b : ByteArray} (h : a ≠ b) : (a.toList == b.toList) = false := by
  rw [Lib.toList_data, Lib.toList_data]
  simp only [beq_eq_false_iff_ne, ne_eq]
  intro e
  exact h (ByteArray.ext (Array.toList_inj.1 e))

set_option maxHeartbeats 800000 in
theorem impl_hok (t : ByteArray) (w : World) (ht : t.size ≤ 1048576) (hcls : Cls w) :
    Calls Tryd.prog 58 #[.string t] w fun e w' => e = .returned (.bool (hostB t.data.toList)) ∧ Below w.heap.size w w' := by
  have hU := fun W hW => impl_host t W (by omega) hW
  obtain ⟨T, okT, hT, hTT⟩ := host_ps t
  rw [hT] at hU
  dsimp only at hU
  have hdef : hostB t.data.toList = (okT && decide (T = t)) := by rw [Bool.eq_iff_iff]; simpa using hTT.symm
  rw [hdef]
  clear hdef hTT hT
  go_enter Tryd.func58, Tryd.ntmps58
  go_wp2_with fail
  refine (hU _ hcls).mono ?_
  rintro e w1 ⟨rfl, hb1⟩
  have HB := Lib.hid hb1
  clear hb1 hU hcls
  cases okT
  · go_wp2
    go_ret
    exact ⟨rfl, HB.out⟩
  · by_cases e1 : T = t
    · subst e1
      have se := strh_same T
      go_wp2
      go_ret
      exact ⟨by simp, HB.out⟩
    · have se := strh_ne e1
      have E := Lib.hid e1
      clear e1
      go_wp2
      go_ret
      exact ⟨by simp [E.out], HB.out⟩
end Go.Proofs.YtojmfcpkmknleaaDoor
