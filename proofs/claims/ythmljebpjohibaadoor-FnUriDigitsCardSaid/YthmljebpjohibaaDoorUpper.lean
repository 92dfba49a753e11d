/- Places: a code in great digits. -/
import Derived.Test.YthmljebpjohibaaDoorSCan
namespace Go.Proofs.YthmljebpjohibaaDoor
open Go.RowKit

/-- The digits of a code. -/
def digs : ByteArray := ⟨#[48, 49, 50, 51, 52, 53, 54, 55, 56, 57, 65, 66, 67, 68, 69, 70]⟩
theorem digs_at (k : Nat) (h : k < 16) (h2 : k < digs.size) : digs[k] = hexU k := by
  have e : ∀ k : Fin 16, digs.data[k.val]? = some (hexU k.val) := by decide
  have h3 := e ⟨k, h⟩
  have h4 : digs.data[k]? = some (digs.data[k]'h2) := Array.getElem?_eq_getElem h2
  rw [h4] at h3
  exact Option.some.inj h3

/-- 'string([]byte{x, y})': the two new bytes as a text. -/
theorem run_conv2 {P : Program} (src dst e e' : TypeId) (hs : P.underlying src = some (.slice e)) (he : P.underlying e = some (.int .u8)) (hd : P.underlying dst = some .string)
    (w : World) (x y : UInt8) :
    (convert src dst (.slice (some ⟨w.heap.size, 0, none⟩) 2 2)).run P (w.alloc (.cells #[.int .u8 (x.toNat : Int), .int .u8 (y.toNat : Int)] e')).drew = .ok (.string ⟨#[x, y]⟩) (w.alloc (.cells #[.int .u8 (x.toNat : Int), .int .u8 (y.toNat : Int)] e')).drew := by
  have := run_convert_bytes_back (P := P) (w.alloc (.cells #[.int .u8 (x.toNat : Int), .int .u8 (y.toNat : Int)] e')).drew src dst e ⟨w.heap.size, 0, none⟩ 2 [x, y] hs he hd (fun j hj => by
    have : j = 0 ∨ j = 1 := by simp at hj; omega
    rcases this with rfl | rfl
    · rw [show ((⟨w.heap.size, 0, none⟩ : Addr).add 0) = ⟨w.heap.size, 0, none⟩ from rfl]
      exact (World.cell?_alloc_at _ _ _ _ rfl).trans rfl
    · rw [show ((⟨w.heap.size, 0, none⟩ : Addr).add 1) = ⟨w.heap.size, 1, none⟩ from rfl]
      exact (World.cell?_alloc_at _ _ _ _ rfl).trans rfl)
  simpa using this

set_option maxRecDepth 100000 in
set_option maxHeartbeats 800000 in
theorem l2_upper (n : Nat) (hn : n < 256) (w : World) :
    Calls Tryd.prog 72 #[.int .i64 n] w fun e w' => e = .returned (strV (upperL n)) ∧ Below w.heap.size w w' := by
  have t1 : (n : Int).tmod 16 = (n : Int) % 16 := Int.tmod_eq_emod_of_nonneg (by omega)
  have z1 : (n : Int) / 16 < 16 := by omega
  have z2 : (n : Int) % 16 < 16 := by omega
  have z3 : IntKind.i64.wrap ((n : Int) / 16) = (n : Int) / 16 := by rw [IntKind.wrap_i64]; omega
  have z4 : IntKind.i64.wrap ((n : Int) % 16) = (n : Int) % 16 := by rw [IntKind.wrap_i64]; omega
  have hcv := fun W x y => run_conv2 (P := Tryd.prog) 22 9 5 5 Tryd.underlying22 Tryd.underlying5 Tryd.underlying9 W x y
  go_enter Tryd.func72, Tryd.ntmps72
  go_wp2_with fail
  go_region_with (fail)
  all_goals go_wp2
  all_goals go_ret
  all_goals (refine ⟨?_, below_drewN (n := 1) ((Below.refl w.heap.size w).alloc (Nat.le_refl _) _)⟩)
  all_goals (
    have q1 := digs_at (n / 16) (by omega) (by simp [digs, ByteArray.size]; omega)
    have q2 := digs_at (n % 16) (by omega) (by simp [digs, ByteArray.size]; omega)
    unfold strV upperL
    rw [← q1, ← q2]
    rfl)
end Go.Proofs.YthmljebpjohibaaDoor
