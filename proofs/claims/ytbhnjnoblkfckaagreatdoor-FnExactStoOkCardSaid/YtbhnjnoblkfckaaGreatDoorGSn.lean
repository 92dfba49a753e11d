import Derived.Test.YtbhnjnoblkfckaaGreatDoorGZ13
import Derived.Test.YtbhnjnoblkfckaaGreatDoorGZ14
import Derived.Test.YtbhnjnoblkfckaaGreatDoorGZ21
import Derived.Test.YtbhnjnoblkfckaaGreatDoorGZ12
import Derived.Test.YtbhnjnoblkfckaaGreatDoorGZ09
import Derived.Test.YtbhnjnoblkfckaaGreatDoorGZ01
import Derived.Test.YtbhnjnoblkfckaaGreatDoorGZ02
-- from XStN
/- Storage: how large an entry is, and all of them together. -/
namespace Go.Proofs.YtbhnjnoblkfckaaGreatDoor
open Go.RowKit Go.Maps

theorem size_lt {e : En} (he : EnOk 1048576 e) : sizeE e ≤ 3145728 := by
  have h1 := he.place; have h2 := he.tag; have h3 := he.body
  unfold sizeE; omega
set_option maxRecDepth 100000 in
set_option maxHeartbeats 1600000 in
theorem spec_size (e : En) (w : World) (he : EnOk 1048576 e) :
    Calls Tryz.prog 50 #[enV e] w fun e' w' => e' = .returned (.int .i64 ((sizeE e : Nat) : Int)) ∧ Below w.heap.size w w' := by
  have h1 := he.place; have h2 := he.tag; have h3 := he.body
  obtain ⟨p, m, ⟨c, x, hd, t, k, b⟩, a⟩ := e
  dsimp only at h1 h2 h3
  have HS : Hid (((sizeE ⟨p, m, ⟨c, x, hd, t, k, b⟩, a⟩ : Nat) : Int) = (p.size : Int) + (t.size : Int) + (b.size : Int)) := Lib.hid (by unfold sizeE; simp)
  unfold enV
  dsimp only
  go_enter Tryz.func50, Tryz.ntmps50
  go_wp2
  go_ret
  exact ⟨by rw [HS.out]; rfl, (Below.refl _ _).alloc (Nat.le_refl _) _⟩
set_option maxRecDepth 100000 in
set_option maxHeartbeats 1600000 in
theorem impl_size (e : En) (w : World) (he : EnOk 1048576 e) :
    Calls Tryz.prog 30 #[enV e] w fun e' w' => e' = .returned (.int .i64 ((sizeE e : Nat) : Int)) ∧ Below w.heap.size w w' := by
  have h1 := he.place; have h2 := he.tag; have h3 := he.body
  obtain ⟨p, m, ⟨c, x, hd, t, k, b⟩, a⟩ := e
  dsimp only at h1 h2 h3
  have HS : Hid (((sizeE ⟨p, m, ⟨c, x, hd, t, k, b⟩, a⟩ : Nat) : Int) = (p.size : Int) + (t.size : Int) + (b.size : Int)) := Lib.hid (by unfold sizeE; simp)
  unfold enV
  dsimp only
  go_enter Tryz.func30, Tryz.ntmps30
  go_wp2
  go_ret
  exact ⟨by rw [HS.out]; rfl, (Below.refl _ _).alloc (Nat.le_refl _) _⟩

theorem bytes_snoc {L : List En} {k : Nat} {e : En} (h : L[k]? = some e) : bytesE (L.take (k + 1)) = bytesE (L.take k) + sizeE e := by
  obtain ⟨hlt, rfl⟩ := List.getElem?_eq_some_iff.1 h
  rw [List.take_add_one, h, bytesE_append]
  simp [bytesE]
theorem bytes_le {L : List En} (h : EnsOk 1048576 L) : bytesE L ≤ L.length * 3145728 := by
  induction L with
  | nil => simp [bytesE]
  | cons e L ih =>
    have h1 := size_lt (h e (by simp))
    have h2 := ih fun x hx => h x (by simp [hx])
    rw [bytesE_cons, List.length_cons]; omega

set_option maxRecDepth 100000 in
set_option maxHeartbeats 1600000 in
theorem spec_bytes (v : Value) (L : List En) (w : World) (hR : ERow w v L) (hE : EnsOk 1048576 L) (hn : L.length ≤ 2000000) :
    Calls Tryz.prog 34 #[.agg #[v]] w fun e' w' => e' = .returned (.int .i64 ((bytesE L : Nat) : Int)) ∧ Below w.heap.size w w' := by
  obtain ⟨wA, hwA⟩ : ∃ wA, wA = w.alloc (.cells #[v] 35) := ⟨_, rfl⟩
  have hbA : Below w.heap.size w wA := by rw [hwA]; exact (Below.refl _ _).alloc (Nat.le_refl _) _
  have hsA : wA.heap.size = w.heap.size + 1 := by rw [hwA]; simp
  have h0 : wA.heap[w.heap.size]? = some (.cells #[v] 35 (0, 0)) := by rw [hwA]; exact heap_alloc_new w _
  obtain ⟨a, c, rfl, hl1, hl2, h3⟩ := hR
  unfold maxLen at hl2
  have HX : Hid (∀ W, Below wA.heap.size wA W → W.heap[w.heap.size]? = some (.cells #[.slice a L.length c] 35 (0, 0)) ∧ Below w.heap.size w W) := Lib.hid fun W hW =>
    ⟨(hW.block _ (by omega)).trans h0, hbA.trans (hW.mono (by omega))⟩
  have H3 := Lib.hid h3
  have HE := Lib.hid hE
  have HW := Lib.hid hwA
  clear hwA h0 hbA h3 hE
  go_enter Tryz.func34, Tryz.ntmps34
  go_wp2_with fail
  rw [← HW.out]
  go_loopw [3, 4] (fun n i wr => ∃ k : Nat, k ≤ L.length ∧ n = .int .i64 ((bytesE (L.take k) : Nat) : Int) ∧ i = .int .i64 k ∧ Below wA.heap.size wA wr) (fun _ i _ => L.length - (intOf i).toNat)
  case atStart => exact ⟨0, Nat.zero_le _, rfl, rfl, Below.refl _ _⟩
  case round =>
    obtain ⟨k, hk, rfl, rfl, hB⟩ := hrel
    obtain ⟨x0, x1⟩ := HX.out wr hB
    have t0 := (one_factE x0).1
    by_cases hlt : k < L.length
    · obtain ⟨e, hg⟩ : ∃ e, L[k]? = some e := ⟨_, List.getElem?_eq_getElem hlt⟩
      obtain ⟨b, o, rfl, hbl, he⟩ := H3.out k e hg
      have hee := HE.out e (List.mem_of_getElem? hg)
      obtain ⟨k0, k1, k2, k3, k4, k5, k6, k7, k8⟩ := he.keep (x1.block b hbl)
      have hS := spec_size e
      unfold enV at hS
      have hb1 := bytes_snoc hg
      have hb2 := bytes_le (fun x hx => HE.out x (List.mem_of_mem_take hx) : EnsOk 1048576 (L.take k))
      rw [List.length_take] at hb2
      have hs := size_lt hee
      have HS := Lib.hid hS
      have HEe := Lib.hid hee
      have HB1 := Lib.hid hb1
      have hb3 : bytesE (L.take k) ≤ 6500000000000 := by omega
      clear hS hg he hee x0 x1 hb1 hb2
      have hsz := hB.size
      have HBl := Lib.hid hB
      clear hB
      go_wp2_with fail
      refine (HS.out _ HEe.out).mono ?_
      rintro e' w1 ⟨rfl, hbx⟩
      have hbz := HBl.out.trans (hbx.mono hsz)
      go_wp2
      go_roundw
      case rel => exact ⟨k + 1, by omega, by rw [HB1.out]; simp, by go_num, hbz⟩
      case measure => simp [intOf]; omega
    · obtain rfl : k = L.length := by omega
      rw [List.take_length]
      have HF := Lib.hid x1
      clear x0 x1 hB
      go_wp2
      go_ret
      exact ⟨rfl, HF.out⟩

set_option maxRecDepth 100000 in
set_option maxHeartbeats 1600000 in
theorem impl_bytes (v : Value) (L : List En) (w : World) (hR : ERow w v L) (hE : EnsOk 1048576 L) (hn : L.length ≤ 2000000) :
    Calls Tryz.prog 32 #[.agg #[v]] w fun e' w' => e' = .returned (.int .i64 ((bytesE L : Nat) : Int)) ∧ Below w.heap.size w w' := by
  obtain ⟨wA, hwA⟩ : ∃ wA, wA = w.alloc (.cells #[v] 35) := ⟨_, rfl⟩
  have hbA : Below w.heap.size w wA := by rw [hwA]; exact (Below.refl _ _).alloc (Nat.le_refl _) _
  have hsA : wA.heap.size = w.heap.size + 1 := by rw [hwA]; simp
  have h0 : wA.heap[w.heap.size]? = some (.cells #[v] 35 (0, 0)) := by rw [hwA]; exact heap_alloc_new w _
  obtain ⟨a, c, rfl, hl1, hl2, h3⟩ := hR
  unfold maxLen at hl2
  have HX : Hid (∀ W, Below wA.heap.size wA W → W.heap[w.heap.size]? = some (.cells #[.slice a L.length c] 35 (0, 0)) ∧ Below w.heap.size w W) := Lib.hid fun W hW =>
    ⟨(hW.block _ (by omega)).trans h0, hbA.trans (hW.mono (by omega))⟩
  have H3 := Lib.hid h3
  have HE := Lib.hid hE
  have HW := Lib.hid hwA
  clear hwA h0 hbA h3 hE
  go_enter Tryz.func32, Tryz.ntmps32
  go_wp2_with fail
  rw [← HW.out]
  go_loopw [3, 9] (fun n i wr => ∃ k : Nat, k ≤ L.length ∧ n = .int .i64 ((bytesE (L.take k) : Nat) : Int) ∧ i = .int .i64 k ∧ Below wA.heap.size wA wr) (fun _ i _ => L.length - (intOf i).toNat)
  case atStart => exact ⟨0, Nat.zero_le _, rfl, rfl, Below.refl _ _⟩
  case round =>
    obtain ⟨k, hk, rfl, rfl, hB⟩ := hrel
    obtain ⟨x0, x1⟩ := HX.out wr hB
    have t0 := (one_factE x0).1
    by_cases hlt : k < L.length
    · obtain ⟨e, hg⟩ : ∃ e, L[k]? = some e := ⟨_, List.getElem?_eq_getElem hlt⟩
      obtain ⟨b, o, rfl, hbl, he⟩ := H3.out k e hg
      have hee := HE.out e (List.mem_of_getElem? hg)
      obtain ⟨k0, k1, k2, k3, k4, k5, k6, k7, k8⟩ := he.keep (x1.block b hbl)
      have hS := impl_size e
      unfold enV at hS
      have hb1 := bytes_snoc hg
      have hb2 := bytes_le (fun x hx => HE.out x (List.mem_of_mem_take hx) : EnsOk 1048576 (L.take k))
      rw [List.length_take] at hb2
      have hs := size_lt hee
      have HS := Lib.hid hS
      have HEe := Lib.hid hee
      have HB1 := Lib.hid hb1
      have hb3 : bytesE (L.take k) ≤ 6500000000000 := by omega
      clear hS hg he hee x0 x1 hb1 hb2
      have hsz := hB.size
      have HBl := Lib.hid hB
      clear hB
      go_wp2_with fail
      refine (HS.out _ HEe.out).mono ?_
      rintro e' w1 ⟨rfl, hbx⟩
      have hbz := HBl.out.trans ((Below.refl _ _).alloc (Nat.le_refl _) _ |>.trans (hbx.mono (by simp)) |>.mono hsz)
      go_wp2
      go_roundw
      case rel => exact ⟨k + 1, by omega, by rw [HB1.out]; simp, by go_num, hbz⟩
      case measure => simp [intOf]; omega
    · obtain rfl : k = L.length := by omega
      rw [List.take_length]
      have HF := Lib.hid x1
      clear x0 x1 hB
      go_wp2
      go_ret
      exact ⟨rfl, HF.out⟩
end Go.Proofs.YtbhnjnoblkfckaaGreatDoor

-- from XStQ
/- Storage: when it is ok, and what is put into it, as lists; no function of the program. -/
namespace Go.Proofs.YtbhnjnoblkfckaaGreatDoor
open Go.RowKit

def entryB (e : En) : Bool := decide (canonL e.place.data.toList = some e.place.data.toList) && (keepB e.rsp e.mask && decide (0 ≤ e.tm ∧ e.tm ≤ 999999))
def okE (h : Hs) (L : List En) : Bool := houseB h && (decide ((L.length : Int) ≤ h.maxN) && (decide ((bytesE L : Int) ≤ h.maxB) && (L.all entryB && decide (L.Pairwise fun a b => isK a.place a.mask b = false))))
/-- What has room: as long as there are fewer than n, and no more than b bytes, k and c being there already. -/
def roomE (n b : Int) : Nat → Nat → List En → List En
  | _, _, [] => []
  | k, c, e :: r => if (k : Int) < n ∧ ((c + sizeE e : Nat) : Int) ≤ b then e :: roomE n b (k + 1) (c + sizeE e) r else []
def putE (h : Hs) (L : List En) (e : En) : List En :=
  if okE h L = true ∧ entryB e = true then (if (sizeE e : Int) ≤ h.maxB then roomE h.maxN h.maxB 0 0 (e :: outE L e.place e.mask) else outE L e.place e.mask) else []
end Go.Proofs.YtbhnjnoblkfckaaGreatDoor

