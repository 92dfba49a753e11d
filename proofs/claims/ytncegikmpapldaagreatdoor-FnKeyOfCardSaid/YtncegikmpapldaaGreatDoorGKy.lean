import Derived.Test.YtncegikmpapldaaGreatDoorCfgP
import Derived.Test.YtncegikmpapldaaGreatDoorGCa
import Derived.Test.YtncegikmpapldaaGreatDoorGhed
import Derived.Test.YtncegikmpapldaaGreatDoorTag
import Derived.Test.YtncegikmpapldaaGreatDoorGhx
import Derived.Test.YtncegikmpapldaaGreatDoorNumR
import Derived.Test.YtncegikmpapldaaGreatDoorGCfa
import Derived.Test.YtncegikmpapldaaGreatDoorGimp
import Derived.Test.YtncegikmpapldaaGreatDoorGCs
import Derived.Test.YtncegikmpapldaaGreatDoorDrawL
import Derived.Test.YtncegikmpapldaaGreatDoorRegL
import Derived.Test.YtncegikmpapldaaGreatDoorRegR
import Derived.Deep.AppendLies
import Derived.BigQuiet
-- from XKyP
/- Keys of what is asked: what is said of them; no function of the program. -/
namespace Go.Proofs.YtncegikmpapldaaGreatDoor
open Go.RowKit

/-- A key: the house, the place, the codings. -/
structure Ky where
  house : Int
  place : ByteArray
  mask : Int
def noKy : Ky := ⟨0, ⟨#[]⟩, 0⟩
def placeB (l : List UInt8) : Bool := decide (canonL l = some l)
def keyB (hs : List Hs) (k : Ky) : Bool := cfgB hs && (decide (0 ≤ k.house ∧ k.house < hs.length) && (placeB k.place.data.toList && decide (0 ≤ k.mask ∧ k.mask < 8)))
def keyT (k : Ky) : List UInt8 := numT k.house ++ 32 :: (numT k.mask ++ 32 :: k.place.data.toList)
/-- Whether a request of a verb is for a house. -/
def askB (hs : List Hs) (h : Hd) (verb : List UInt8) : Bool := decide (0 ≤ routeI hs h.host) && (decide (h.verb.data.toList = verb) && hedB h)
/-- A key of its text, cut twice. -/
def keyR (hs : List Hs) (l : List UInt8) : Ky × Bool :=
  if (numR (cutL l 32).1).2 = true ∧ (numR (cutL (cutL l 32).2.1 32).1).2 = true ∧ keyB hs ⟨(numR (cutL l 32).1).1, ⟨(cutL (cutL l 32).2.1 32).2.1.toArray⟩, (numR (cutL (cutL l 32).2.1 32).1).1⟩ = true
  then (⟨(numR (cutL l 32).1).1, ⟨(cutL (cutL l 32).2.1 32).2.1.toArray⟩, (numR (cutL (cutL l 32).2.1 32).1).1⟩, true) else (noKy, false)
/-- .. in parts. -/
def keyS (hs : List Hs) (l : List UInt8) : Ky × Bool :=
  match partsL l 32 with
  | [a, b, c] => if (numR a).2 = true ∧ (numR b).2 = true ∧ keyB hs ⟨(numR a).1, ⟨c.toArray⟩, (numR b).1⟩ = true then (⟨(numR a).1, ⟨c.toArray⟩, (numR b).1⟩, true) else (noKy, false)
  | _ => (noKy, false)
def bAcc : ByteArray := ⟨#[97, 99, 99, 101, 112, 116]⟩
def bIfNone : ByteArray := ⟨#[105, 102, 45, 110, 111, 110, 101]⟩
def sGet : ByteArray := ⟨#[103, 101, 116]⟩
def sPut : ByteArray := ⟨#[112, 117, 116]⟩
/-- The first name of a house. -/
def name0 (hs : List Hs) (i : Int) : ByteArray := match hs[i.toNat]? with
  | some h => (h.names[0]?).getD ⟨#[]⟩
  | none => ⟨#[]⟩
def askFs (k : Ky) (tag : ByteArray) : List (ByteArray × ByteArray) := (bAcc, ⟨(codT k.mask).toArray⟩) :: (if tag.data.toList = [] then [] else [(bIfNone, tag)])
def keyAsk (hs : List Hs) (k : Ky) (tag : ByteArray) : Hd :=
  if keyB hs k = true ∧ tagB tag.data.toList = true then ⟨sGet, k.place, name0 hs k.house, askFs k tag, ⟨#[]⟩⟩ else noHd
def putAsk (hs : List Hs) (h : Hd) : Hd × Bool := if askB hs h bPut = true then (⟨sPut, h.target, name0 hs (routeI hs h.host), [], h.body⟩, true) else (noHd, false)

theorem keyB_iff {hs : List Hs} {k : Ky} : keyB hs k = true ↔ cfgB hs = true ∧ (0 ≤ k.house ∧ k.house < hs.length) ∧ canonL k.place.data.toList = some k.place.data.toList ∧ (0 ≤ k.mask ∧ k.mask < 8) := by
  simp only [keyB, placeB, Bool.and_eq_true, decide_eq_true_eq]
theorem numR_nil : (numR []).2 = false := rfl
theorem cut_false {l : List UInt8} {c : UInt8} (h : (cutL l c).2.2 = false) : (cutL l c).1 = l ∧ (cutL l c).2.1 = [] := by
  induction l with
  | nil => exact ⟨rfl, rfl⟩
  | cons b l ih =>
    rw [cutL] at h ⊢
    split at h
    · cases h
    · rename_i hb
      rw [if_neg hb]
      exact ⟨by rw [(ih h).1], (ih h).2⟩
theorem cut_notin (l : List UInt8) (c : UInt8) : c ∉ (cutL l c).1 := by
  induction l with
  | nil => simp [cutL]
  | cons b l ih =>
    rw [cutL]
    split
    · simp
    · rename_i hb
      intro h
      rcases List.mem_cons.1 h with h | h
      · exact hb h.symm
      · exact ih h
theorem cut_join {l : List UInt8} {c : UInt8} (h : (cutL l c).2.2 = true) : l = (cutL l c).1 ++ c :: (cutL l c).2.1 := by
  induction l with
  | nil => cases h
  | cons b l ih =>
    rw [cutL] at h ⊢
    split at h
    · rename_i hb
      rw [if_pos hb, hb]; rfl
    · rename_i hb
      rw [if_neg hb]
      exact congrArg (b :: ·) (ih h)
theorem canon_nil : canonL [] ≠ some [] := fun e => by
  obtain ⟨⟨r, hr⟩, _⟩ := canon_bytes e
  cases hr
theorem parts_one {l : List UInt8} {c : UInt8} (h : c ∉ l) : partsL l c = [l] := by
  rw [partsL_cut, cutL_no l c h]; simp
theorem keyS_eq (hs : List Hs) (l : List UInt8) : keyS hs l = keyR hs l := by
  unfold keyS keyR
  rw [partsL_cut l 32]
  rcases h1 : cutL l 32 with ⟨a, r, f1⟩
  dsimp only
  cases f1 with
  | false =>
    have e := (cut_false (l := l) (c := 32) (by rw [h1])).2
    rw [h1] at e
    dsimp only at e
    subst e
    rw [if_neg (by decide)]
    dsimp only
    rw [if_neg]
    rintro ⟨_, h, _⟩
    exact absurd h (by decide)
  | true =>
    rw [if_pos rfl, partsL_cut r 32]
    rcases h2 : cutL r 32 with ⟨b, c, f2⟩
    dsimp only
    cases f2 with
    | false =>
      have e := (cut_false (l := r) (c := 32) (by rw [h2])).2
      rw [h2] at e
      dsimp only at e
      subst e
      rw [if_neg (by decide)]
      dsimp only
      rw [if_neg]
      rintro ⟨_, _, h⟩
      exact canon_nil (keyB_iff.1 h).2.2.1
    | true =>
      rw [if_pos rfl]
      by_cases hc : (32 : UInt8) ∈ c
      · rw [if_neg (fun h => (canon_bytes (keyB_iff.1 h.2.2).2.2.1).2 32 hc |>.2 rfl)]
        split
        · rename_i a' b' c' he
          injection he with _ he
          injection he with _ he
          have : (partsL c 32).length = 1 := by rw [he]; rfl
          rw [partsL_cut] at this
          have hf : (cutL c 32).2.2 = true := by
            rcases h3 : (cutL c 32).2.2 with _ | _
            · exact absurd hc (by rw [← (cut_false h3).1]; exact cut_notin c 32)
            · rfl
          rw [if_pos hf, List.length_cons] at this
          exact absurd (List.eq_nil_of_length_eq_zero (by omega : (partsL (cutL c 32).2.1 32).length = 0)) (partsL_ne _ _)
        · rfl
      · rw [parts_one hc]
end Go.Proofs.YtncegikmpapldaaGreatDoor

-- from XKySz
/- The laws' own helpers over keys: sized, copied, equal; and over requests, sized with what is left. -/
namespace Go.Proofs.YtncegikmpapldaaGreatDoor
open Go.RowKit Go.Maps

def keyV (k : Ky) : Value := .agg #[.int .i64 k.house, .string k.place, .int .i64 k.mask]

end Go.Proofs.YtncegikmpapldaaGreatDoor

-- from XKyE
/- What the program's tables give, together; boxes of keys and requests in memory. -/
namespace Go.Proofs.YtncegikmpapldaaGreatDoor
open Go.RowKit

theorem three_facts {w' : World} {g : Nat} {x0 x1 x2 : Value} {T : TypeId} (h : w'.heap[g]? = some (.cells #[x0, x1, x2] T (0, 0))) :
    w'.cell? ⟨g, 0, none⟩ = some x0 ∧ w'.cell? ⟨g, 1, none⟩ = some x1 ∧ w'.cell? ⟨g, 2, none⟩ = some x2 ∧
    w'.frozen? ⟨g, 0, none⟩ = false ∧ w'.frozen? ⟨g, 1, none⟩ = false ∧ w'.frozen? ⟨g, 2, none⟩ = false := by
  refine ⟨?_, ?_, ?_, ?_, ?_, ?_⟩ <;> simp [World.cell?, World.frozen?, h]
/-- Two blocks made one behind the other. -/
theorem box2_new (w : World) (o1 o2 : Obj) : ((w.alloc o1).alloc o2).heap.size = w.heap.size + 2 ∧ Below w.heap.size w ((w.alloc o1).alloc o2) ∧ ((w.alloc o1).alloc o2).heap[w.heap.size]? = some o1 ∧ ((w.alloc o1).alloc o2).heap[w.heap.size + 1]? = some o2 := by
  refine ⟨by simp, ((Below.refl _ _).alloc (Nat.le_refl _) _).alloc (by simp) _, ?_, ?_⟩
  · rw [Below.heap_alloc _ _ _ (by simp)]; exact heap_alloc_new w _
  · have := heap_alloc_new (w.alloc o1) o2
    simpa using this
def headC (h : Hd) (u : Value) : Array Value := #[.string h.verb, .string h.target, .string h.host, u, .string h.body]
def keyC (k : Ky) : Array Value := #[.int .i64 k.house, .string k.place, .int .i64 k.mask]
structure HdSz (h : Hd) : Prop where
  verb : h.verb.size ≤ 1048576
  target : h.target.size ≤ 1048576
  host : h.host.size ≤ 1048576
  body : h.body.size ≤ 1048576
  fs : FOk h.fs 1048576
  len : h.fs.length ≤ 2000000
theorem numT_le (n : Int) : (numT n).length ≤ 6 := by
  unfold numT
  split
  · rename_i h; exact dec_len_le 5 _ (by omega)
  · simp
end Go.Proofs.YtncegikmpapldaaGreatDoor

-- from XKyI1
/- Walks: tags, keys, what a request is for, by the program. -/
namespace Go.Proofs.YtncegikmpapldaaGreatDoor
open Go.RowKit Go.Maps

set_option maxRecDepth 100000 in
set_option maxHeartbeats 1600000 in
theorem impl_keyok (hs : List Hs) (v : Value) (k : Ky) (w : World) (hH : HRow w v hs) (hN : HOks hs 1048576) (hk : k.place.size ≤ 1048576) (hcls : Cls w) :
    Calls Tryz.prog 14 #[.agg #[v], keyV k] w fun e w' => e = .returned (.bool (keyB hs k)) ∧ Below w.heap.size w w' := by
  obtain ⟨hz, hb2, hA0, hA1⟩ := box2_new w (.cells #[v] 25) (.cells #[.int .i64 k.house, .string k.place, .int .i64 k.mask] 27)
  obtain ⟨W2, hW2⟩ : ∃ W2, W2 = (w.alloc (.cells #[v] 25)).alloc (.cells #[.int .i64 k.house, .string k.place, .int .i64 k.mask] 27) := ⟨_, rfl⟩
  rw [← hW2] at hz hb2 hA0 hA1
  have hC := impl_cfgok hs v W2 (hH.below (Nat.le_refl _) hb2) hN (hcls.below hb2 (Nat.le_refl _))
  have HX : Hid (∀ W, Below W2.heap.size W2 W → Cls W ∧ Below w.heap.size w W ∧ W.heap[w.heap.size]? = some (.cells #[v] 25 (0, 0)) ∧ W.heap[w.heap.size + 1]? = some (.cells #[.int .i64 k.house, .string k.place, .int .i64 k.mask] 27 (0, 0))) := Lib.hid fun W hW => by
    have hb := hb2.trans (hW.mono (by omega))
    exact ⟨hcls.below hb (Nat.le_refl _), hb, (hW.block _ (by omega)).trans hA0, (hW.block _ (by omega)).trans hA1⟩
  have HP : Hid (∀ W, Cls W → Calls Tryz.prog 43 #[.string k.place] W fun e w' => e = .returned (.bool (placeB k.place.data.toList)) ∧ Below W.heap.size W w') := Lib.hid fun W hW => impl_target k.place W hk hW
  have hdef : keyB hs k = (cfgB hs && (decide (0 ≤ k.house ∧ k.house < hs.length) && (placeB k.place.data.toList && decide (0 ≤ k.mask ∧ k.mask < 8)))) := rfl
  rw [hdef]
  obtain ⟨va, vc, rfl, hcap, hmx, _⟩ := hH
  unfold maxLen at hmx
  obtain ⟨house, place, mask⟩ := k
  unfold keyV
  dsimp only at *
  have HM : Hid (∀ W, Calls Tryz.prog 44 #[.int .i64 mask] W fun e w' => e = .returned (.bool (decide (0 ≤ mask ∧ mask < 8))) ∧ W = w') := Lib.hid fun W => set_ok mask W
  obtain ⟨t0, u0⟩ := one_fact hA0
  obtain ⟨t1, t2, t3, u1, u2, u3⟩ := three_facts hA1
  rw [hW2] at t0 t1 t2 t3 u0 u1 u2 u3
  have HW := Lib.hid hW2
  clear hW2 hb2 hA0 hA1 hdef hN hcls hk
  generalize cfgB hs = R1 at *
  generalize hD : decide (0 ≤ house ∧ house < (hs.length : Int)) = R2 at *
  have HD := Lib.hid hD
  clear hD
  generalize placeB place.data.toList = R3 at *
  generalize decide (0 ≤ mask ∧ mask < 8) = R4 at *
  go_enter Tryz.func14, Tryz.ntmps14
  go_wp2_with fail
  rw [← HW.out]
  refine hC.mono ?_
  rintro e w1 ⟨rfl, hb1⟩
  have HB1 := Lib.hid hb1
  obtain ⟨k1, k2, k3, k4⟩ := HX.out _ hb1
  have hz1 := hb1.size
  clear hC hb1 t0 t1 t2 t3 u0 u1 u2 u3
  cases R1
  · have HB := Lib.hid k2
    clear k1 k2 k3 k4
    go_wp2
    go_ret
    exact ⟨rfl, HB.out⟩
  obtain ⟨t0, _⟩ := one_fact k3
  obtain ⟨t1, t2, t3, _⟩ := three_facts k4
  have HB := Lib.hid k2
  have HK1 := Lib.hid k1
  clear k1 k2 k3 k4
  have dt : 0 ≤ house → house < (hs.length : Int) → R2 = true := fun a b => by rw [← HD.out]; exact decide_eq_true ⟨a, b⟩
  have df : ¬ (0 ≤ house ∧ house < (hs.length : Int)) → R2 = false := fun a => by rw [← HD.out]; exact decide_eq_false a
  have DT := Lib.hid (And.intro dt df)
  clear dt df
  by_cases c1 : 0 ≤ house
  · by_cases c2 : house < (hs.length : Int)
    · obtain rfl := DT.out.1 c1 c2
      go_wp2_with fail
      refine (HP.out _ HK1.out).mono ?_
      rintro e w3 ⟨rfl, hb3⟩
      obtain ⟨k1, k2, k3, k4⟩ := HX.out _ (HB1.out.trans (hb3.mono hz1))
      have HB3 := Lib.hid k2
      clear t0 t1 t2 t3 hb3
      obtain ⟨t1, t2, t3, _⟩ := three_facts k4
      clear k1 k2 k3 k4
      cases R3
      · go_wp2
        go_ret
        exact ⟨rfl, HB3.out⟩
      · go_wp2_with fail
        refine (HM.out _).mono ?_
        rintro e w5 ⟨rfl, rfl⟩
        go_wp2
        go_ret
        exact ⟨rfl, HB3.out⟩
    · obtain rfl := DT.out.2 (fun e => c2 e.2)
      go_wp2
      go_ret
      exact ⟨rfl, HB.out⟩
  · obtain rfl := DT.out.2 (fun e => c1 e.1)
    go_wp2
    go_ret
    exact ⟨rfl, HB.out⟩
end Go.Proofs.YtncegikmpapldaaGreatDoor

-- from XKyI2
/- Walks: the house that a request is for, and its key, by the program. -/
namespace Go.Proofs.YtncegikmpapldaaGreatDoor
open Go.RowKit Go.Maps

def askR (hs : List Hs) (h : Hd) (verb : List UInt8) : Int := if askB hs h verb = true then routeI hs h.host else 0
set_option maxRecDepth 100000 in
set_option maxHeartbeats 1600000 in
theorem impl_routed (hs : List Hs) (v : Value) (h : Hd) (u : Value) (verb : ByteArray) (w : World) (hH : HRow w v hs) (hN : HOks hs 1048576) (hF : FRow w u h.fs) (hz : HdSz h) (hcls : Cls w) (htab : Tab w) :
    Calls Tryz.prog 50 #[.agg #[v], headV h u, .string verb] w fun e w' => e = .returned (.tuple #[.int .i64 (askR hs h verb.data.toList), .bool (askB hs h verb.data.toList)]) ∧ Below w.heap.size w w' := by
  obtain ⟨hz2, hb2, hA0, hA1⟩ := box2_new w (.cells #[v] 25) (.cells #[.string h.verb, .string h.target, .string h.host, u, .string h.body] 40)
  obtain ⟨W2, hW2⟩ : ∃ W2, W2 = (w.alloc (.cells #[v] 25)).alloc (.cells #[.string h.verb, .string h.target, .string h.host, u, .string h.body] 40) := ⟨_, rfl⟩
  rw [← hW2] at hz2 hb2 hA0 hA1
  have hC := impl_route hs v h.host W2 (hH.below (Nat.le_refl _) hb2) hN (by have := hz.host; unfold maxLen; omega) (hcls.below hb2 (Nat.le_refl _))
  have HX : Hid (∀ W, Below W2.heap.size W2 W → Below w.heap.size w W ∧ W.heap[w.heap.size + 1]? = some (.cells #[.string h.verb, .string h.target, .string h.host, u, .string h.body] 40 (0, 0)) ∧
      Calls Tryz.prog 22 #[.agg #[.string h.verb, .string h.target, .string h.host, u, .string h.body]] W fun e w' => e = .returned (.bool (hedB h)) ∧ Below W.heap.size W w') := Lib.hid fun W hW => by
    have hb := hb2.trans (hW.mono (by omega))
    exact ⟨hb, (hW.block _ (by omega)).trans hA1, impl_hedok h u W (hF.below (Nat.le_refl _) hb) (fun f hf => ⟨by have := (hz.fs f hf).1; omega, by have := (hz.fs f hf).2; omega⟩) hz.verb hz.target hz.host hz.body (hcls.below hb (Nat.le_refl _)) (htab.below hb (Nat.le_refl _))⟩
  have hdef : askB hs h verb.data.toList = (decide (0 ≤ routeI hs h.host) && (decide (h.verb.data.toList = verb.data.toList) && hedB h)) := rfl
  unfold askR
  rw [hdef]
  obtain ⟨va, vc, rfl, _⟩ := hH
  obtain ⟨ua, uc, rfl, _⟩ := hF
  obtain ⟨hverb, target, host, fs, body⟩ := h
  unfold headV
  dsimp only at *
  generalize hedB ⟨hverb, target, host, fs, body⟩ = R3 at *
  generalize routeI hs host = r at *
  generalize hD1 : decide (0 ≤ r) = d0 at *
  generalize hD2 : decide (hverb.data.toList = verb.data.toList) = d2 at *
  have dt : 0 ≤ r → d0 = true := fun a => by rw [← hD1]; exact decide_eq_true a
  have df : r < 0 → d0 = false := fun a => by rw [← hD1]; exact decide_eq_false (by omega)
  have ds : hverb = verb → d2 = true := fun a => by rw [← hD2, a]; exact decide_eq_true rfl
  have dn : hverb ≠ verb → d2 = false := fun a => by rw [← hD2]; exact decide_eq_false fun e => a (str_inj e)
  have DT := Lib.hid (And.intro dt (And.intro df (And.intro ds dn)))
  clear dt df ds dn hD1 hD2
  obtain ⟨t0, u0⟩ := one_fact hA0
  obtain ⟨t1, t2, t3, t4, t5, _⟩ := five_facts hA1
  rw [hW2] at t0 t1 t2 t3 t4 t5 u0
  have HW := Lib.hid hW2
  clear hW2 hb2 hA0 hA1 hdef hN hcls htab hz
  go_enter Tryz.func50, Tryz.ntmps50
  go_wp2_with fail
  rw [← HW.out]
  refine hC.mono ?_
  rintro e w1 ⟨rfl, hb1⟩
  obtain ⟨k1, k2, k3⟩ := HX.out _ hb1
  have HB := Lib.hid k1
  have hz1 := hb1.size
  have HB1 := Lib.hid hb1
  clear hC hb1 t0 t1 t2 t3 t4 t5 u0 k1
  obtain ⟨t1, t2, t3, t4, t5, _⟩ := five_facts k2
  clear k2
  by_cases c1 : r < 0
  · obtain rfl := DT.out.2.1 c1
    clear k3
    go_wp2
    go_ret2
    exact ⟨rfl, HB.out⟩
  obtain rfl := DT.out.1 (by omega)
  by_cases c2 : hverb = verb
  · obtain rfl := DT.out.2.2.1 c2
    subst c2
    have se := str_refl hverb
    go_wp2_with fail
    refine k3.mono ?_
    rintro e w3 ⟨rfl, hb3⟩
    obtain ⟨k1, _⟩ := HX.out _ (HB1.out.trans (hb3.mono hz1))
    have HB3 := Lib.hid k1
    clear k3 hb3 k1
    cases R3
    · go_wp2
      go_ret2
      exact ⟨rfl, HB3.out⟩
    · go_wp2
      go_ret2
      exact ⟨rfl, HB3.out⟩
  · obtain rfl := DT.out.2.2.2 c2
    have se := str_ne c2
    clear k3 c2
    go_wp2
    go_ret2
    exact ⟨rfl, HB.out⟩

end Go.Proofs.YtncegikmpapldaaGreatDoor

-- from XKyO
/- A request that is put together in a box: what stands of the box, and of what lay before. -/
namespace Go.Proofs.YtncegikmpapldaaGreatDoor
open Go.RowKit

/-- All blocks below B, but b, are as they were. -/
def KB (B b : Nat) (w w' : World) : Prop := w'.os = w.os ∧ w'.tape = w.tape ∧ w'.output = w.output ∧ w.heap.size ≤ w'.heap.size ∧ ∀ k, k < B → k ≠ b → w'.heap[k]? = w.heap[k]?
theorem KB.refl (B b : Nat) (w : World) : KB B b w w := ⟨rfl, rfl, rfl, Nat.le_refl _, fun _ _ _ => rfl⟩
theorem KB.trans {B b : Nat} {w1 w2 w3 : World} (h : KB B b w1 w2) (k : KB B b w2 w3) : KB B b w1 w3 :=
  ⟨k.1.trans h.1, k.2.1.trans h.2.1, k.2.2.1.trans h.2.2.1, Nat.le_trans h.2.2.2.1 k.2.2.2.1, fun j hj hn => (k.2.2.2.2 j hj hn).trans (h.2.2.2.2 j hj hn)⟩
theorem KB.of_below {B b C : Nat} {w w' : World} (h : Below C w w') (hB : B ≤ C) (__hC : C ≤ w.heap.size) : KB B b w w' := ⟨h.os, h.tape, h.output, h.size, fun j hj _ => h.block j (by omega)⟩
theorem KB.of_grown {B b : Nat} {w w' : World} {row : Option Nat} (h : w.grownBy w' row) (hB : B ≤ w.heap.size) (hr : ∀ r, row = some r → B ≤ r) : KB B b w w' :=
  ⟨h.os, h.tape, h.output, h.size, fun j hj _ => h.block j (by omega) (fun e => by have := hr j e.symm; omega)⟩
theorem KB.set (B b : Nat) (w : World) (j : Nat) (x : Value) : KB B b w (w.setCell ⟨b, j, none⟩ x) := ⟨rfl, rfl, rfl, by simp, fun k _ hn => heap_setCell_other w ⟨b, j, none⟩ k _ (by simpa using hn)⟩
theorem KB.below {B b C : Nat} {w w' : World} (h : KB B b w w') (hb : C ≤ b) (hB : C ≤ B) : Below C w w' := ⟨h.1, h.2.1, h.2.2.1, h.2.2.2.1, fun j hj => h.2.2.2.2 j (by omega) (by omega)⟩
theorem KB.at {B b k : Nat} {w w' : World} {o : Obj} (h : KB B b w w') (hk : k < B) (hn : k ≠ b) (ho : w.heap[k]? = some o) : w'.heap[k]? = some o := (h.2.2.2.2 k hk hn).trans ho

/-- The box b holds a request whose fields lie in a row of its own, from B on. -/
structure BoxAt (W : World) (B b : Nat) (h : Hd) (v : Value) : Prop where
  box : W.heap[b]? = some (.cells #[.string h.verb, .string h.target, .string h.host, v, .string h.body] 40 (0, 0))
  own : W.ownsRow B 50 2 v h.fs.length (fcells h.fs)
theorem BoxAt.lt {W : World} {B b : Nat} {h : Hd} {v : Value} (k : BoxAt W B b h v) : b < W.heap.size := (Array.getElem?_eq_some_iff.1 k.box).1
theorem BoxAt.below {W W' : World} {B b : Nat} {h : Hd} {v : Value} (k : BoxAt W B b h v) (hb : Below W.heap.size W W') : BoxAt W' B b h v :=
  ⟨(hb.block b k.lt).trans k.box, own_below k.own hb⟩
/-- The box is told another value in one of its places. -/
theorem BoxAt.setRow {W W' : World} {B b : Nat} {h : Hd} {v v' : Value} (k : BoxAt W B b h v) (hbB : b < B) (s t : ByteArray) (hg : W.grownBy W' v.ownBlock)
    (ho : W'.ownsRow B 50 2 v' (h.fs.length + 1) (fcells h.fs ++ [.string s, .string t])) : BoxAt (W'.setCell ⟨b, 3, none⟩ v') B b { h with fs := h.fs ++ [(s, t)] } v' := by
  have hne : some b ≠ v.ownBlock := fun e => by have := (k.own.lt b e.symm).1; omega
  have hb := (hg.block b k.lt hne).trans k.box
  refine ⟨heap_setCell_same W' b 3 _ _ v' hb, ?_⟩
  dsimp only
  rw [fcells_app, List.length_append]
  exact own_setk ho hbB _
theorem BoxAt.setBody {W : World} {B b : Nat} {h : Hd} {v : Value} (k : BoxAt W B b h v) (hbB : b < B) (s : ByteArray) : BoxAt (W.setCell ⟨b, 4, none⟩ (.string s)) B b { h with body := s } v :=
  ⟨heap_setCell_same W b 4 _ _ (.string s) k.box, own_setk k.own hbB _⟩
end Go.Proofs.YtncegikmpapldaaGreatDoor

-- from XKyC
/- Walks: what is added to a request that goes on: a field, or a body. -/
namespace Go.Proofs.YtncegikmpapldaaGreatDoor
open Go.RowKit Go.Maps

def LeK (p : Nat) (row : Option Nat) (j : Nat) (w w' : World) : Prop := if j = p then w.grownBy w' row else Below w.heap.size w w'
theorem lek_not {p : Nat} {row : Option Nat} {j : Nat} {w w' : World} (hj : j ≠ p) (h : LeK p row j w w') : Below w.heap.size w w' := by
  unfold LeK at h; rw [if_neg hj] at h; exact h
theorem lek_mk {p : Nat} {row : Option Nat} {j : Nat} {w w' : World} (hj : j ≠ p) (h : Below w.heap.size w w') : LeK p row j w w' := by
  unfold LeK; rw [if_neg hj]; exact h
theorem lek_at {p : Nat} {row : Option Nat} {w w' : World} (h : w.grownBy w' row) : LeK p row p w w' := by
  unfold LeK; rw [if_pos rfl]; exact h
theorem lek_grown {p : Nat} {row : Option Nat} {j : Nat} {w w' : World} (h : LeK p row j w w') : w.grownBy w' none ∨ w.grownBy w' row := by
  unfold LeK at h
  split at h
  · exact .inr h
  · exact .inl (grown_of_below h none)

/-- What an operation of the field's region leaves. -/
def RFw (B0 B : Nat) (s t : ByteArray) (fs : List Fd) (E : Nat → Value) (i : Nat) (v : Value) (w : World) : Prop :=
  if i = 9 then ∃ c, v = .slice (some ⟨c, 0, none⟩) 1 1 ∧ B0 ≤ c ∧ w.heap[c]? = some (.cells #[.string s, .string t] 50 (0, 0))
  else if i = 10 then w.ownsRow B 50 2 v (fs.length + 1) (fcells fs ++ [.string s, .string t])
  else v = E i
theorem rfw_eq {B0 B : Nat} {s t : ByteArray} {fs : List Fd} {E : Nat → Value} {i : Nat} {v : Value} {w : World} (h9 : i ≠ 9) (h10 : i ≠ 10) : RFw B0 B s t fs E i v w ↔ v = E i := by
  unfold RFw; rw [if_neg h9, if_neg h10]
theorem rfw_9 {B0 B : Nat} {s t : ByteArray} {fs : List Fd} {E : Nat → Value} {v : Value} {w : World} : RFw B0 B s t fs E 9 v w ↔ ∃ c, v = .slice (some ⟨c, 0, none⟩) 1 1 ∧ B0 ≤ c ∧ w.heap[c]? = some (.cells #[.string s, .string t] 50 (0, 0)) := by
  unfold RFw; rw [if_pos rfl]
theorem rfw_10 {B0 B : Nat} {s t : ByteArray} {fs : List Fd} {E : Nat → Value} {v : Value} {w : World} : RFw B0 B s t fs E 10 v w ↔ w.ownsRow B 50 2 v (fs.length + 1) (fcells fs ++ [.string s, .string t]) := by
  unfold RFw; rw [if_neg (by decide), if_pos rfl]
theorem rfw_stay {B0 B : Nat} {s t : ByteArray} {fs : List Fd} {E : Nat → Value} {row : Option Nat} (hr : ∀ r, row = some r → r < B0) {i j : Nat} {v : Value} {w w' : World} (hij : i ≠ j) (hR : RFw B0 B s t fs E i v w) (hle : LeK 10 row j w w') : RFw B0 B s t fs E i v w' := by
  by_cases h9 : i = 9
  · subst h9
    rw [rfw_9] at hR ⊢
    obtain ⟨c, h1, h2, h3⟩ := hR
    refine ⟨c, h1, h2, ?_⟩
    have hlt := (Array.getElem?_eq_some_iff.1 h3).1
    rcases lek_grown hle with h | h
    · exact (h.block c hlt (fun e => by cases e)).trans h3
    · exact (h.block c hlt (fun e => by have := hr c e.symm; omega)).trans h3
  · by_cases h10 : i = 10
    · subst h10
      rw [rfw_10] at hR ⊢
      exact own_below hR (lek_not (Ne.symm hij) hle)
    · rw [rfw_eq h9 h10] at hR ⊢
      exact hR

/-- What stands while the field's region runs. -/
structure CFw (B0 B b bn bv : Nat) (s t : ByteArray) (h : Hd) (v : Value) (w0 : World) (L : Nat → Prop) (k : Nat) (W : World) : Prop where
  box : W.heap[b]? = some (.cells #[.string h.verb, .string h.target, .string h.host, v, .string h.body] 40 (0, 0))
  nm : W.heap[bn]? = some (.cells #[.string s] 9 (0, 0))
  vl : W.heap[bv]? = some (.cells #[.string t] 9 (0, 0))
  own : ¬ L 10 → W.ownsRow B 50 2 v h.fs.length (fcells h.fs)
  kb : KB B b w0 W
  size : B0 ≤ W.heap.size
theorem CFw.keep {B0 B b bn bv k i : Nat} {s t : ByteArray} {h : Hd} {v : Value} {w0 W W' : World} {L : Nat → Prop} (hC : CFw B0 B b bn bv s t h v w0 L k W) (hB : B ≤ B0) (hb : Below W.heap.size W W') : CFw B0 B b bn bv s t h v w0 (fun j => j = i ∨ L j) (k + 1) W' := by
  refine ⟨?_, ?_, ?_, fun hn => own_below (hC.own fun h => hn (.inr h)) hb, hC.kb.trans (KB.of_below hb (Nat.le_trans hB hC.size) (Nat.le_refl _)), Nat.le_trans hC.size hb.size⟩
  · exact (hb.block b (Array.getElem?_eq_some_iff.1 hC.box).1).trans hC.box
  · exact (hb.block bn (Array.getElem?_eq_some_iff.1 hC.nm).1).trans hC.nm
  · exact (hb.block bv (Array.getElem?_eq_some_iff.1 hC.vl).1).trans hC.vl
theorem CFw.same {B0 B b bn bv k i : Nat} {s t : ByteArray} {h : Hd} {v : Value} {w0 W : World} {L : Nat → Prop} (hC : CFw B0 B b bn bv s t h v w0 L k W) : CFw B0 B b bn bv s t h v w0 (fun j => j = i ∨ L j) (k + 1) W :=
  ⟨hC.box, hC.nm, hC.vl, fun hn => hC.own fun h => hn (.inr h), hC.kb, hC.size⟩
theorem CFw.app {B0 B b bn bv k : Nat} {s t : ByteArray} {h : Hd} {v : Value} {w0 W W' : World} {L : Nat → Prop} (hC : CFw B0 B b bn bv s t h v w0 L k W) (hL : ¬ L 10) (hB : B ≤ B0) (hbB : b < B) (hn : bn < B) (hv : bv < B) (hg : W.grownBy W' v.ownBlock) : CFw B0 B b bn bv s t h v w0 (fun j => j = 10 ∨ L j) (k + 1) W' := by
  have ho := hC.own hL
  have hne : ∀ j, j < B → some j ≠ v.ownBlock := fun j hj e => by have := (ho.lt j e.symm).1; omega
  refine ⟨?_, ?_, ?_, fun h => absurd (.inl rfl) h, hC.kb.trans (KB.of_grown hg (Nat.le_trans hB hC.size) fun r hr => (ho.lt r hr).1), Nat.le_trans hC.size hg.size⟩
  · exact (hg.block b (Array.getElem?_eq_some_iff.1 hC.box).1 (hne b hbB)).trans hC.box
  · exact (hg.block bn (Array.getElem?_eq_some_iff.1 hC.nm).1 (hne bn hn)).trans hC.nm
  · exact (hg.block bv (Array.getElem?_eq_some_iff.1 hC.vl).1 (hne bv hv)).trans hC.vl

theorem infoFdK : (Tryz.prog.info? 50).map (fun i => (i.zero, i.size, i.bytes)) = some (some (.agg #[.string ⟨#[]⟩, .string ⟨#[]⟩]), 2, 32) := by kernel_rfl

def fieldE (b __bn _bv : Nat) (s t : ByteArray) (v : Value) (i : Nat) : Value :=
  [Value.pointer (some ⟨b, 0, none⟩), .pointer (some ⟨b, 0, none⟩), .pointer (some ⟨b, 0, none⟩), .pointer (some ⟨b, 3, none⟩), v, .string s, .string t, .string t, .agg #[.string s, .string t], undef, undef, .pointer (some ⟨b, 0, none⟩), .pointer (some ⟨b, 3, none⟩)].getD i undef

set_option maxRecDepth 100000 in
set_option maxHeartbeats 3200000 in
theorem add_field (b bn bv B : Nat) (s t : ByteArray) (h : Hd) (v : Value) (w : World) (hx : BoxAt w B b h v) (hn : w.heap[bn]? = some (.cells #[.string s] 9 (0, 0))) (hv : w.heap[bv]? = some (.cells #[.string t] 9 (0, 0)))
    (hbB : b < B) (hnB : bn < B) (hvB : bv < B) (hB : B ≤ w.heap.size) (hlen : h.fs.length ≤ 100) (ht : t.size ≤ 281474976710656) :
    Calls Tryz.prog 114 #[.pointer (some ⟨b, 0, none⟩), .pointer (some ⟨bn, 0, none⟩), .pointer (some ⟨bv, 0, none⟩)] w fun e w' => e = .returned (.tuple #[]) ∧ (∃ v', BoxAt w' B b { h with fs := h.fs ++ [(s, t)] } v') ∧ KB B b w w' := by
  obtain ⟨i0, hi, hz0, hz1, hz2⟩ := info_parts infoFdK
  have hrow : ∀ r, v.ownBlock = some r → r < w.heap.size := fun r hr => (hx.own.lt r hr).2
  obtain ⟨va, vc, hvf⟩ := own_len2 hx.own
  have HF : Hid (∀ W, Calls Tryz.prog 51 #[.string t] W fun e w' => e = .returned (.string t) ∧ Below W.heap.size W w') := Lib.hid fun W => fresh t W ht
  have HV := Lib.hid hvf
  clear hvf
  go_enter Tryz.func114, Tryz.ntmps114
  go_wp2_with fail
  refine wp_region_lastL (by kernel_rfl) 13 (by kernel_rfl) (by kernel_rfl) (by kernel_rfl)
    (fun u => { tmps := #[.pointer (some ⟨b, 0, none⟩), .pointer (some ⟨bn, 0, none⟩), .pointer (some ⟨bv, 0, none⟩), undef, u 0, u 1, u 2, u 3, u 4, u 5, u 6, u 7, u 8, u 9, u 10, u 11, u 12], defers := [] })
    (fun L k W => CFw w.heap.size B b bn bv s t h v w L k W)
    (fun i v' W => RFw w.heap.size B s t h.fs (fieldE b bn bv s t v) i v' W)
    (LeK 10 v.ownBlock) (fun _ => undef) ⟨hx.box, hn, hv, fun _ => hx.own, KB.refl _ _ _, Nat.le_refl _⟩
    (fun i j v' w1 w2 _ _ hij hR hle => rfw_stay hrow hij hR hle) ?_ ?_
  · intro i hi2 L u W k hk hL hC hd
    match i, hi2 with
    | 0, _ =>
      refine wpOp_step rfl (fun K hK => ?_)
      clear hd
      go_simp
      exact hK _ _ ⟨_, rfl, (rfw_eq (by decide) (by decide)).2 rfl, lek_mk (by decide) (Below.refl _ _), hC.same⟩
    | 1, _ =>
      refine wpOp_step rfl (fun K hK => ?_)
      clear hd
      go_simp
      exact hK _ _ ⟨_, rfl, (rfw_eq (by decide) (by decide)).2 rfl, lek_mk (by decide) (Below.refl _ _), hC.same⟩
    | 2, _ =>
      have e1 : u 1 = .pointer (some ⟨b, 0, none⟩) := (rfw_eq (by decide) (by decide)).1 (hd 1 (dep_of (by kernel_rfl)))
      refine wpOp_step rfl (fun K hK => ?_)
      clear hd
      go_simp
      exact hK _ _ ⟨_, by simp [upd, e1, fieldE], (rfw_eq (by decide) (by decide)).2 rfl, lek_mk (by decide) (Below.refl _ _), hC.same⟩
    | 3, _ =>
      have e2 : u 2 = .pointer (some ⟨b, 0, none⟩) := (rfw_eq (by decide) (by decide)).1 (hd 2 (dep_of (by kernel_rfl)))
      refine wpOp_step rfl (fun K hK => ?_)
      clear hd
      go_simp
      exact hK _ _ ⟨_, by simp [upd, e2, fieldE], (rfw_eq (by decide) (by decide)).2 rfl, lek_mk (by decide) (Below.refl _ _), hC.same⟩
    | 4, _ =>
      have e3 : u 3 = .pointer (some ⟨b, 3, none⟩) := (rfw_eq (by decide) (by decide)).1 (hd 3 (dep_of (by kernel_rfl)))
      obtain ⟨_, _, _, x3, _⟩ := five_facts hC.box
      refine wpOp_step rfl (fun K hK => ?_)
      clear hd
      go_simp
      exact hK _ _ ⟨_, by simp [upd, e3, fieldE], (rfw_eq (by decide) (by decide)).2 rfl, lek_mk (by decide) (Below.refl _ _), hC.same⟩
    | 5, _ =>
      obtain ⟨x0, _⟩ := one_fact hC.nm
      refine wpOp_step rfl (fun K hK => ?_)
      clear hd
      go_simp
      exact hK _ _ ⟨_, rfl, (rfw_eq (by decide) (by decide)).2 rfl, lek_mk (by decide) (Below.refl _ _), hC.same⟩
    | 6, _ =>
      obtain ⟨x0, _⟩ := one_fact hC.vl
      refine wpOp_step rfl (fun K hK => ?_)
      clear hd
      go_simp
      exact hK _ _ ⟨_, rfl, (rfw_eq (by decide) (by decide)).2 rfl, lek_mk (by decide) (Below.refl _ _), hC.same⟩
    | 7, _ =>
      have e6 : u 6 = .string t := (rfw_eq (by decide) (by decide)).1 (hd 6 (dep_of (by kernel_rfl)))
      refine wpOp_step rfl (fun K hK => ?_)
      clear hd
      go_simp
      refine (HF.out _).mono ?_
      rintro e w1 ⟨rfl, hb1⟩
      exact hK _ _ ⟨_, by simp [upd, e6, fieldE], (rfw_eq (by decide) (by decide)).2 rfl, lek_mk (by decide) hb1, hC.keep hB hb1⟩
    | 8, _ =>
      have e5 : u 5 = .string s := (rfw_eq (by decide) (by decide)).1 (hd 5 (dep_of (by kernel_rfl)))
      have e7 : u 7 = .string t := (rfw_eq (by decide) (by decide)).1 (hd 7 (dep_of (by kernel_rfl)))
      refine wpOp_step rfl (fun K hK => ?_)
      clear hd
      go_simp
      exact hK _ _ ⟨_, by simp [upd, e5, e7, fieldE], (rfw_eq (by decide) (by decide)).2 rfl, lek_mk (by decide) (Below.refl _ _), hC.same⟩
    | 9, _ =>
      have e8 : u 8 = .agg #[.string s, .string t] := (rfw_eq (by decide) (by decide)).1 (hd 8 (dep_of (by kernel_rfl)))
      have hsz := hC.size
      refine wpOp_step rfl (fun K hK => ?_)
      clear hd
      go_simp
      exact hK _ _ ⟨_, by simp [upd, e8], rfw_9.2 ⟨_, rfl, hsz, heap_alloc_new W _⟩, lek_mk (by decide) ((Below.refl _ _).alloc (Nat.le_refl _) _), hC.keep hB ((Below.refl _ _).alloc (Nat.le_refl _) _)⟩
    | 10, _ =>
      have e4 : u 4 = v := (rfw_eq (by decide) (by decide)).1 (hd 4 (dep_of (by kernel_rfl)))
      obtain ⟨c, e9, hcB, hcb⟩ := rfw_9.1 (hd 9 (dep_of (by kernel_rfl)))
      have hown := hC.own hL
      have hsz := hC.size
      refine wpOp_step rfl (fun K hK => ?_)
      clear hd
      refine wp_append_lies _ (.tmp 8) (.tmp 13) 38 (by rfl) B 50 i0 _ 2 32 Tryz.underlying38 hi hz0 hz1 hz2 (by rfl) (by decide) v h.fs.length (fcells h.fs) (by exact e4) hown ⟨c, 0, none⟩ 1 1 [.string s, .string t] (by exact e9) (by rfl) (World.news_of_block hcb) (by intro x hx; simp at hx; rcases hx with rfl | rfl <;> rfl) (by omega) (by unfold maxLen; omega) (by omega) (by omega) W.heap.size rfl ?_
      intro g3 cap w7 ho7 hg7 _ _
      exact hK _ _ ⟨_, rfl, rfw_10.2 ho7, lek_at hg7, hC.app hL hB hbB hnB hvB hg7⟩
    | 11, _ =>
      have e0 : u 0 = .pointer (some ⟨b, 0, none⟩) := (rfw_eq (by decide) (by decide)).1 (hd 0 (dep_of (by kernel_rfl)))
      refine wpOp_step rfl (fun K hK => ?_)
      clear hd
      go_simp
      exact hK _ _ ⟨_, by simp [upd, e0, fieldE], (rfw_eq (by decide) (by decide)).2 rfl, lek_mk (by decide) (Below.refl _ _), hC.same⟩
    | 12, _ =>
      have e11 : u 11 = .pointer (some ⟨b, 0, none⟩) := (rfw_eq (by decide) (by decide)).1 (hd 11 (dep_of (by kernel_rfl)))
      refine wpOp_step rfl (fun K hK => ?_)
      clear hd
      go_simp
      exact hK _ _ ⟨_, by simp [upd, e11, fieldE], (rfw_eq (by decide) (by decide)).2 rfl, lek_mk (by decide) (Below.refl _ _), hC.same⟩
  · intro L u W k hk hC hd
    have e12 : u 12 = .pointer (some ⟨b, 3, none⟩) := (rfw_eq (by decide) (by decide)).1 (hd 12 (by decide))
    have ho := rfw_10.1 (hd 10 (by decide))
    obtain ⟨_, _, _, x3, _, _, _, _, f3, _⟩ := five_facts hC.box
    have hfin : BoxAt (W.setCell ⟨b, 3, none⟩ (u 10)) B b { h with fs := h.fs ++ [(s, t)] } (u 10) := by
      refine ⟨heap_setCell_same W b 3 _ _ (u 10) hC.box, ?_⟩
      dsimp only
      rw [fcells_app, List.length_append]
      exact own_setk ho hbB _
    have HFin := Lib.hid (And.intro hfin (hC.kb.trans (KB.set B b W 3 (u 10))))
    obtain ⟨v', e10⟩ : ∃ x, u 10 = x := ⟨_, rfl⟩
    rw [e10] at ho HFin
    obtain ⟨a8, c8, hv8⟩ := own_len2 ho
    clear hfin hC hd ho
    subst hv8
    refine wpOp_step rfl (fun K hK => ?_)
    go_simp
    refine hK _ _ ?_
    clear hK K
    go_wp2_with fail
    go_end0
    exact ⟨rfl, ⟨_, HFin.out.1⟩, HFin.out.2⟩

end Go.Proofs.YtncegikmpapldaaGreatDoor

-- from XKyW
/- What stands while a key, or a request, is told into its box at the end of a region. -/
namespace Go.Proofs.YtncegikmpapldaaGreatDoor
open Go.RowKit

def set3k (w : World) (g : Nat) (a b c : Value) : World := ((w.setCell ⟨g, 0, none⟩ a).setCell ⟨g, 1, none⟩ b).setCell ⟨g, 2, none⟩ c
theorem three_set {w' : World} {g : Nat} {x0 x1 x2 : Value} {T : TypeId} (h : w'.heap[g]? = some (.cells #[x0, x1, x2] T (0, 0))) (a b c : Value) :
    (set3k w' g a b c).heap[g]? = some (.cells #[a, b, c] T (0, 0)) := by
  have h1 := heap_setCell_same w' g 0 _ _ a h
  have h2 := heap_setCell_same _ g 1 _ _ b h1
  have h3 := heap_setCell_same _ g 2 _ _ c h2
  unfold set3k
  rw [h3]; rfl
theorem grown_setk {w w3 : World} {b k : Nat} {x : Value} (h : w.grownBy w3 (some b)) : w.grownBy (w3.setCell ⟨b, k, none⟩ x) (some b) :=
  ⟨h.os, h.tape, h.output, by simpa using h.size, fun j hj hn => (heap_setCell_other w3 ⟨b, k, none⟩ j _ (fun e => hn (by rw [e]))).trans (h.block j hj hn)⟩
theorem grown_set3 (w : World) (g : Nat) (a b c : Value) : w.grownBy (set3k w g a b c) (some g) := grown_setk (grown_setk (grown_setk (World.grownBy.refl _ _)))
theorem grown_set5 (w : World) (g : Nat) (a b c d e : Value) : w.grownBy (set5 w g a b c d e) (some g) := grown_setk (grown_setk (grown_setk (grown_setk (grown_setk (World.grownBy.refl _ _)))))

/-- What stands while the region runs: all that lay before, two boxes, and the result's box, till it is told. -/
structure CTell (w0 : World) (b0 b1 : Nat) (o0 o1 : Obj) (res : Nat) (zs : Array Value) (T : TypeId) (p : Nat) (L : Nat → Prop) (W : World) : Prop where
  bel : Below w0.heap.size w0 W
  c0 : W.heap[b0]? = some o0
  c1 : W.heap[b1]? = some o1
  cell : ¬ L p → W.heap[res]? = some (.cells zs T (0, 0))
  lt : res < W.heap.size
theorem CTell.keep {w0 W W' : World} {b0 b1 res p i : Nat} {o0 o1 : Obj} {zs : Array Value} {T : TypeId} {L : Nat → Prop} (h : CTell w0 b0 b1 o0 o1 res zs T p L W) (hb : Below W.heap.size W W') : CTell w0 b0 b1 o0 o1 res zs T p (fun j => j = i ∨ L j) W' :=
  ⟨h.bel.trans (hb.mono h.bel.size), (hb.block b0 (Array.getElem?_eq_some_iff.1 h.c0).1).trans h.c0, (hb.block b1 (Array.getElem?_eq_some_iff.1 h.c1).1).trans h.c1, fun hn => (hb.block res h.lt).trans (h.cell fun hl => hn (.inr hl)), Nat.lt_of_lt_of_le h.lt hb.size⟩
theorem CTell.same {w0 W : World} {b0 b1 res p i : Nat} {o0 o1 : Obj} {zs : Array Value} {T : TypeId} {L : Nat → Prop} (h : CTell w0 b0 b1 o0 o1 res zs T p L W) : CTell w0 b0 b1 o0 o1 res zs T p (fun j => j = i ∨ L j) W :=
  h.keep (Below.refl _ _)
theorem CTell.tell {w0 W W' : World} {b0 b1 res p : Nat} {o0 o1 : Obj} {zs : Array Value} {T : TypeId} {L : Nat → Prop} (h : CTell w0 b0 b1 o0 o1 res zs T p L W) (hg : W.grownBy W' (some res)) (hr : w0.heap.size ≤ res) (h0 : b0 ≠ res) (h1 : b1 ≠ res) : CTell w0 b0 b1 o0 o1 res zs T p (fun j => j = p ∨ L j) W' :=
  ⟨h.bel.grown hg h.bel.size (fun k hk => by cases hk; exact hr), (hg.block b0 (Array.getElem?_eq_some_iff.1 h.c0).1 (fun e => by cases e; exact h0 rfl)).trans h.c0, (hg.block b1 (Array.getElem?_eq_some_iff.1 h.c1).1 (fun e => by cases e; exact h1 rfl)).trans h.c1, fun hn => absurd (.inl rfl) hn, Nat.lt_of_lt_of_le h.lt hg.size⟩
theorem CTell.drew {w0 W : World} {b0 b1 res p : Nat} {o0 o1 : Obj} {zs : Array Value} {T : TypeId} {L : Nat → Prop} (h : CTell w0 b0 b1 o0 o1 res zs T p L W) : CTell w0 b0 b1 o0 o1 res zs T p L W.drew :=
  ⟨h.bel.drew, h.c0, h.c1, h.cell, h.lt⟩
def RTell (res : Nat) (ys : Array Value) (T : TypeId) (p : Nat) (E : List Value) (i : Nat) (v : Value) (w : World) : Prop :=
  if i = p then w.heap[res]? = some (.cells ys T (0, 0)) else v = E.getD i undef
theorem rtell_eq {res : Nat} {ys : Array Value} {T : TypeId} {p : Nat} {E : List Value} {i : Nat} {v : Value} {w : World} (h : i ≠ p) : RTell res ys T p E i v w ↔ v = E.getD i undef := by unfold RTell; rw [if_neg h]
theorem rtell_at {res : Nat} {ys : Array Value} {T : TypeId} {p : Nat} {E : List Value} {v : Value} {w : World} : RTell res ys T p E p v w ↔ w.heap[res]? = some (.cells ys T (0, 0)) := by unfold RTell; rw [if_pos rfl]
theorem rtell_stay {res : Nat} {ys : Array Value} {T : TypeId} {p : Nat} {E : List Value} {i j : Nat} {v : Value} {w w' : World} (hij : i ≠ j) (hR : RTell res ys T p E i v w) (hle : LeK p (some res) j w w') : RTell res ys T p E i v w' := by
  by_cases h : i = p
  · subst h
    rw [rtell_at] at hR ⊢
    exact ((lek_not (Ne.symm hij) hle).block res (Array.getElem?_eq_some_iff.1 hR).1).trans hR
  · rw [rtell_eq h] at hR ⊢
    exact hR
theorem box3_new (w : World) (o1 o2 o3 : Obj) : (((w.alloc o1).alloc o2).alloc o3).heap.size = w.heap.size + 3 ∧ Below w.heap.size w (((w.alloc o1).alloc o2).alloc o3) ∧ (((w.alloc o1).alloc o2).alloc o3).heap[w.heap.size]? = some o1 ∧ (((w.alloc o1).alloc o2).alloc o3).heap[w.heap.size + 1]? = some o2 ∧ (((w.alloc o1).alloc o2).alloc o3).heap[w.heap.size + 2]? = some o3 := by
  obtain ⟨h1, h2, h3, h4⟩ := box2_new w o1 o2
  refine ⟨by simp, h2.alloc (by simp; omega) _, ?_, ?_, ?_⟩
  · rw [Below.heap_alloc _ _ _ (by omega)]; exact h3
  · rw [Below.heap_alloc _ _ _ (by omega)]; exact h4
  · have := heap_alloc_new ((w.alloc o1).alloc o2) o3
    rw [h1] at this
    exact this
end Go.Proofs.YtncegikmpapldaaGreatDoor

-- from XKyF
/- Walks: a request that goes on, put together by what is added to it. -/
namespace Go.Proofs.YtncegikmpapldaaGreatDoor
open Go.RowKit Go.Maps

/-- What is added to a request: a field, or a body. -/
inductive FOpt where
  | field (n v : ByteArray)
  | body (b : ByteArray)
def optTo (h : Hd) : FOpt → Hd
  | .field n v => { h with fs := h.fs ++ [(n, v)] }
  | .body b => { h with body := b }
def optAt (w : World) (y : Value) : FOpt → Prop
  | .field n v => ∃ bn bv, y = .func (.func 114) #[] #[.pointer (some ⟨bn, 0, none⟩), .pointer (some ⟨bv, 0, none⟩)] ∧ w.heap[bn]? = some (.cells #[.string n] 9 (0, 0)) ∧ w.heap[bv]? = some (.cells #[.string v] 9 (0, 0)) ∧ v.size ≤ 281474976710656
  | .body _ => False
def ORow (w : World) (v : Value) (L : List FOpt) : Prop :=
  ∃ b o c, v = .slice (some ⟨b, o, none⟩) L.length c ∧ L.length ≤ c ∧ c ≤ maxLen ∧ b < w.heap.size ∧ ∀ j x, L[j]? = some x → ∃ y, w.cell? ⟨b, o + j, none⟩ = some y ∧ optAt w y x
theorem optAt.keep {w w' : World} {y : Value} {x : FOpt} (h : optAt w y x) (hk : ∀ (b : Nat) (o : Obj), w.heap[b]? = some o → w'.heap[b]? = some o) : optAt w' y x := by
  cases x with
  | field n v =>
    obtain ⟨bn, bv, h1, h2, h3, h4⟩ := h
    exact ⟨bn, bv, h1, hk _ _ h2, hk _ _ h3, h4⟩
  | body b => exact h
theorem heap_keep {C : Nat} {w w' : World} (h : Below C w w') (hC : w.heap.size ≤ C) : ∀ (b : Nat) (o : Obj), w.heap[b]? = some o → w'.heap[b]? = some o := fun b _ ho => (h.block b (Nat.lt_of_lt_of_le (Array.getElem?_eq_some_iff.1 ho).1 hC)).trans ho
theorem ORow.below {w w' : World} {v : Value} {L : List FOpt} (h : ORow w v L) {C : Nat} (hb : Below C w w') (hC : w.heap.size ≤ C) : ORow w' v L := by
  obtain ⟨b, o, c, h1, h2, h3, h4, h5⟩ := h
  refine ⟨b, o, c, h1, h2, h3, Nat.lt_of_lt_of_le h4 hb.size, fun j x hj => ?_⟩
  obtain ⟨y, h6, h7⟩ := h5 j x hj
  exact ⟨y, (hb.cell (p := ⟨b, o + j, none⟩) (Nat.lt_of_lt_of_le h4 hC)).trans h6, optAt.keep h7 (heap_keep hb hC)⟩
def optAll (h : Hd) (L : List FOpt) : Hd := L.foldl optTo h
theorem optAll_snoc (h : Hd) {L : List FOpt} {j : Nat} {x : FOpt} (hj : L[j]? = some x) : optAll h (L.take (j + 1)) = optTo (optAll h (L.take j)) x := by
  unfold optAll
  rw [List.take_add_one, hj]
  simp
theorem optAll_len (h : Hd) : ∀ (L : List FOpt), (optAll h L).fs.length ≤ h.fs.length + L.length
  | [] => by simp [optAll]
  | x :: L => by
    have := optAll_len (optTo h x) L
    have h2 : (optTo h x).fs.length ≤ h.fs.length + 1 := by cases x <;> simp [optTo]
    show (optAll (optTo h x) L).fs.length ≤ _
    simp only [List.length_cons]; omega

/-- What an operation leaves of the request's first parts. -/
def RBx (B0 : Nat) (zs : Array Value) (T : TypeId) : Value → World → Prop := fun v w => ∃ c, v = .pointer (some ⟨c, 0, none⟩) ∧ B0 ≤ c ∧ w.heap[c]? = some (.cells zs T (0, 0))
def RFor (B0 : Nat) (E : List Value) (p : Nat) (zs : Array Value) (T : TypeId) (i : Nat) (v : Value) (w : World) : Prop := if i = p then RBx B0 zs T v w else v = E.getD i undef
theorem rfor_eq {B0 : Nat} {E : List Value} {p : Nat} {zs : Array Value} {T : TypeId} {i : Nat} {v : Value} {w : World} (h : i ≠ p) : RFor B0 E p zs T i v w ↔ v = E.getD i undef := by unfold RFor; rw [if_neg h]
theorem rfor_at {B0 : Nat} {E : List Value} {p : Nat} {zs : Array Value} {T : TypeId} {v : Value} {w : World} : RFor B0 E p zs T p v w ↔ RBx B0 zs T v w := by unfold RFor; rw [if_pos rfl]
theorem rfor_stay {B0 : Nat} {E : List Value} {p : Nat} {zs : Array Value} {T : TypeId} {i : Nat} {v : Value} {w w' : World} (hR : RFor B0 E p zs T i v w) (hb : Below w.heap.size w w') : RFor B0 E p zs T i v w' := by
  by_cases h : i = p
  · subst h
    rw [rfor_at] at hR ⊢
    obtain ⟨c, h1, h2, h3⟩ := hR
    exact ⟨c, h1, h2, (hb.block c (Array.getElem?_eq_some_iff.1 h3).1).trans h3⟩
  · rw [rfor_eq h] at hR ⊢; exact hR

set_option maxRecDepth 100000 in
set_option maxHeartbeats 3200000 in
theorem impl_forwarded (u : Value) (key maxN maxB : Int) (names : List ByteArray) (name verb target : ByteArray) (ov : Value) (opts : List FOpt) (w : World) (hS : NRow w u names) (hn : names[0]? = some name) (hO : ORow w ov opts)
    (hlen : opts.length ≤ 50) (hname : name.size ≤ 281474976710656) (htarget : target.size ≤ 281474976710656) :
    Calls Tryz.prog 66 #[.agg #[u, .int .i64 key, .int .i64 maxN, .int .i64 maxB], .string verb, .string target, ov] w fun e w' => (∃ v, e = .returned (headV (optAll ⟨verb, target, name, [], ⟨#[]⟩⟩ opts) v) ∧ w'.ownsRow w.heap.size 50 2 v (optAll ⟨verb, target, name, [], ⟨#[]⟩⟩ opts).fs.length (fcells (optAll ⟨verb, target, name, [], ⟨#[]⟩⟩ opts).fs)) ∧ Below w.heap.size w w' := by
  obtain ⟨hq, hhq⟩ : ∃ hq, hq = optAll ⟨verb, target, name, [], ⟨#[]⟩⟩ opts := ⟨_, rfl⟩
  rw [← hhq]
  obtain ⟨qv, qt, qh, qf, qb⟩ := hq
  unfold headV
  dsimp only
  have HQ := Lib.hid hhq
  clear hhq
  obtain ⟨hz2, hb2, hA0, hA1⟩ := box2_new w (.cells #[u, .int .i64 key, .int .i64 maxN, .int .i64 maxB] 48) (.cells #[.string ⟨#[]⟩, .string ⟨#[]⟩, .string ⟨#[]⟩, .slice none 0 0, .string ⟨#[]⟩] 40)
  obtain ⟨W2, hW2⟩ : ∃ W2, W2 = (w.alloc (.cells #[u, .int .i64 key, .int .i64 maxN, .int .i64 maxB] 48)).alloc (.cells #[.string ⟨#[]⟩, .string ⟨#[]⟩, .string ⟨#[]⟩, .slice none 0 0, .string ⟨#[]⟩] 40) := ⟨_, rfl⟩
  rw [← hW2] at hz2 hb2 hA0 hA1
  have hn0 : 0 < names.length := (List.getElem?_eq_some_iff.1 hn).1
  have hS2 := hS.below (Nat.le_refl _) hb2
  have hO2 := hO.below hb2 (Nat.le_refl _)
  obtain ⟨ua, uc, rfl, hu1, hu2, hu3⟩ := hS
  obtain ⟨nb, no, rfl, hnb, hcn⟩ := hu3 0 name hn
  obtain ⟨ob, oo, oc, rfl, ho1, ho2, ho3, ho4⟩ := hO
  have HX : Hid (∀ W, Below W2.heap.size W2 W → Below w.heap.size w W ∧ W.cell? ⟨w.heap.size, 0, none⟩ = some (.slice (some ⟨nb, no, none⟩) names.length uc) ∧ W.cell? ⟨nb, no, none⟩ = some (.string name) ∧ W.heap[w.heap.size + 1]? = some (.cells #[.string ⟨#[]⟩, .string ⟨#[]⟩, .string ⟨#[]⟩, .slice none 0 0, .string ⟨#[]⟩] 40 (0, 0)) ∧ ORow W (.slice (some ⟨ob, oo, none⟩) opts.length oc) opts) := Lib.hid fun W hW => by
    have hb := hb2.trans (hW.mono (by omega))
    refine ⟨hb, ?_, (hb.cell (p := ⟨nb, no, none⟩) hnb).trans hcn, (hW.block _ (by omega)).trans hA1, hO2.below hW (Nat.le_refl _)⟩
    have := (hW.block w.heap.size (by omega)).trans hA0
    simp [World.cell?, this]
  have HF1 : Hid (∀ W, Calls Tryz.prog 51 #[.string target] W fun e w' => e = .returned (.string target) ∧ Below W.heap.size W w') := Lib.hid fun W => fresh target W htarget
  have HF2 : Hid (∀ W, Calls Tryz.prog 51 #[.string name] W fun e w' => e = .returned (.string name) ∧ Below W.heap.size W w') := Lib.hid fun W => fresh name W hname
  have hb0 : Below W2.heap.size W2 W2 := Below.refl _ _
  have HW := Lib.hid hW2
  clear hW2 hb2 hA0 hA1 hS2 hO2 hn hu3 hcn ho4
  go_enter Tryz.func66, Tryz.ntmps66
  go_wp2_with fail
  rw [← HW.out]
  refine wp_region_last (by kernel_rfl) 10 (by kernel_rfl) (by kernel_rfl) (by kernel_rfl)
    (fun z => { tmps := #[.agg #[.slice (some ⟨nb, no, none⟩) names.length uc, .int .i64 key, .int .i64 maxN, .int .i64 maxB], .string verb, .string target, .slice (some ⟨ob, oo, none⟩) opts.length oc, .pointer (some ⟨w.heap.size, 0, none⟩), undef, undef, undef, .pointer (some ⟨w.heap.size + 1, 0, none⟩), z 9, undef, undef, z 0, z 1, z 2, z 3, z 4, z 5, z 6, z 7, z 8, undef, undef, undef, undef, undef, undef, undef, undef, undef, undef], defers := [] })
    (fun _ W => Below W2.heap.size W2 W)
    (RFor W2.heap.size [.string verb, .string target, .string target, .pointer (some ⟨w.heap.size, 0, none⟩), .slice (some ⟨nb, no, none⟩) names.length uc, .pointer (some ⟨nb, no, none⟩), .string name, .string name, .agg #[.string verb, .string target, .string name, .slice none 0 0, .string ⟨#[]⟩]] 9 #[.string ⟨#[]⟩, .string ⟨#[]⟩, .string ⟨#[]⟩, .slice none 0 0, .string ⟨#[]⟩] 40)
    (fun w1 w2 => Below w1.heap.size w1 w2) (fun _ => undef) hb0.drew
    (fun i v w1 w2 _ hR hle => rfor_stay hR hle) ?_ ?_
  · intro i hi z W kk hkk hC hd
    obtain ⟨_, x0, x1, _, _⟩ := HX.out _ hC
    match i, hi with
    | 0, _ =>
      refine wpOp_step rfl (fun K hK => ?_)
      clear hd
      go_simp
      exact hK _ _ ⟨_, rfl, (rfor_eq (by decide)).2 rfl, Below.refl _ _, hC⟩
    | 1, _ =>
      refine wpOp_step rfl (fun K hK => ?_)
      clear hd
      go_simp
      exact hK _ _ ⟨_, rfl, (rfor_eq (by decide)).2 rfl, Below.refl _ _, hC⟩
    | 2, _ =>
      have e1 : z 1 = .string target := (rfor_eq (by decide)).1 (hd 1 (dep_of (by kernel_rfl)))
      refine wpOp_step rfl (fun K hK => ?_)
      clear hd
      go_simp
      refine (HF1.out _).mono ?_
      rintro e w3 ⟨rfl, hb3⟩
      exact hK _ _ ⟨_, by simp [upd, e1], (rfor_eq (by decide)).2 rfl, hb3, hC.trans (hb3.mono hC.size)⟩
    | 3, _ =>
      refine wpOp_step rfl (fun K hK => ?_)
      clear hd
      go_simp
      exact hK _ _ ⟨_, rfl, (rfor_eq (by decide)).2 rfl, Below.refl _ _, hC⟩
    | 4, _ =>
      have e3 : z 3 = .pointer (some ⟨w.heap.size, 0, none⟩) := (rfor_eq (by decide)).1 (hd 3 (dep_of (by kernel_rfl)))
      refine wpOp_step rfl (fun K hK => ?_)
      clear hd
      go_simp
      exact hK _ _ ⟨_, by simp [upd, e3], (rfor_eq (by decide)).2 rfl, Below.refl _ _, hC⟩
    | 5, _ =>
      have e4 : z 4 = .slice (some ⟨nb, no, none⟩) names.length uc := (rfor_eq (by decide)).1 (hd 4 (dep_of (by kernel_rfl)))
      have i0 : (0 : Int) < (names.length : Int) := by omega
      refine wpOp_step rfl (fun K hK => ?_)
      clear hd
      go_simp
      exact hK _ _ ⟨_, by simp [upd, e4], (rfor_eq (by decide)).2 rfl, Below.refl _ _, hC⟩
    | 6, _ =>
      have e5 : z 5 = .pointer (some ⟨nb, no, none⟩) := (rfor_eq (by decide)).1 (hd 5 (dep_of (by kernel_rfl)))
      refine wpOp_step rfl (fun K hK => ?_)
      clear hd
      go_simp
      exact hK _ _ ⟨_, by simp [upd, e5], (rfor_eq (by decide)).2 rfl, Below.refl _ _, hC⟩
    | 7, _ =>
      have e6 : z 6 = .string name := (rfor_eq (by decide)).1 (hd 6 (dep_of (by kernel_rfl)))
      refine wpOp_step rfl (fun K hK => ?_)
      clear hd
      go_simp
      refine (HF2.out _).mono ?_
      rintro e w3 ⟨rfl, hb3⟩
      exact hK _ _ ⟨_, by simp [upd, e6], (rfor_eq (by decide)).2 rfl, hb3, hC.trans (hb3.mono hC.size)⟩
    | 8, _ =>
      have e0 : z 0 = .string verb := (rfor_eq (by decide)).1 (hd 0 (dep_of (by kernel_rfl)))
      have e2 : z 2 = .string target := (rfor_eq (by decide)).1 (hd 2 (dep_of (by kernel_rfl)))
      have e7 : z 7 = .string name := (rfor_eq (by decide)).1 (hd 7 (dep_of (by kernel_rfl)))
      refine wpOp_step rfl (fun K hK => ?_)
      clear hd
      go_simp
      exact hK _ _ ⟨_, by simp [upd, e0, e2, e7], (rfor_eq (by decide)).2 rfl, Below.refl _ _, hC⟩
    | 9, _ =>
      refine wpOp_step rfl (fun K hK => ?_)
      clear hd
      go_simp
      exact hK _ _ ⟨_, rfl, rfor_at.2 ⟨_, rfl, hC.size, heap_alloc_new W _⟩, (Below.refl _ _).alloc (Nat.le_refl _) _, hC.alloc hC.size _⟩
  · intro z W kk hkk hC hd
    have e8 : z 8 = .agg #[.string verb, .string target, .string name, .slice none 0 0, .string ⟨#[]⟩] := (rfor_eq (by decide)).1 (hd 8 (by decide))
    obtain ⟨c, e9, hcB, hc⟩ := rfor_at.1 (hd 9 (by decide))
    obtain ⟨x0, x1, x2, x3, x4, f0, f1, f2, f3, f4⟩ := five_facts hc
    have hclt := (Array.getElem?_eq_some_iff.1 hc).1
    obtain ⟨W1, hW1⟩ : ∃ W1, W1 = set5 W c (.string verb) (.string target) (.string name) (.slice none 0 0) (.string ⟨#[]⟩) := ⟨_, rfl⟩
    have hz1 : W1.heap.size = W.heap.size := by rw [hW1]; simp [set5]
    have hbx : BoxAt W1 W1.heap.size c ⟨verb, target, name, [], ⟨#[]⟩⟩ (.slice none 0 0) := ⟨by rw [hW1]; exact five_set hc _ _ _ _ _, World.ownsRow_nil _ _ _ _⟩
    have hb1 : Below W2.heap.size W2 W1 := by rw [hW1]; exact hC.grown (grown_set5 _ _ _ _ _ _ _) hC.size (fun k hk => by cases hk; exact hcB)
    obtain ⟨k1, _, _, k4, hOr⟩ := HX.out _ hb1
    obtain ⟨ob', oo', oc', he, _, _, ho5, ho6⟩ := hOr
    cases he
    unfold set5 at hW1
    have HB1 := Lib.hid hb1; have HBX := Lib.hid hbx; have HK1 := Lib.hid k1; have HK4 := Lib.hid k4; have HO6 := Lib.hid ho6; have HW1 := Lib.hid hW1
    have hcne : w.heap.size + 1 ≠ c := by omega
    have hcw : w.heap.size ≤ c := by omega
    clear hC hd hc hW1 hbx hb1 k1 k4 ho6 hb0
    refine wpOp_step rfl (fun K hK => ?_)
    go_simp
    rw [← HW1.out]
    refine hK _ _ ?_
    clear hK K x0 x1 x2 x3 x4 f0 f1 f2 f3 f4 e8 e9
    go_wp2_with fail
    go_loopw [23] (fun i wr => ∃ j : Nat, j ≤ opts.length ∧ i = .int .i64 j ∧ (∃ v, BoxAt wr W1.heap.size c (optAll ⟨verb, target, name, [], ⟨#[]⟩⟩ (opts.take j)) v) ∧ KB W1.heap.size c W1 wr) (fun i _ => opts.length - (intOf i).toNat)
    case atStart => exact ⟨0, Nat.zero_le _, rfl, ⟨_, HBX.out⟩, KB.refl _ _ _⟩
    case round =>
      obtain ⟨j, hj, rfl, ⟨v, hbj⟩, hkb⟩ := hrel
      by_cases hlt : j < opts.length
      · have hg : opts[j]? = some opts[j] := List.getElem?_eq_getElem hlt
        obtain ⟨y, hy, hopt⟩ := HO6.out j _ hg
        have hstep := optAll_snoc ⟨verb, target, name, [], ⟨#[]⟩⟩ hg
        have hln := optAll_len ⟨verb, target, name, [], ⟨#[]⟩⟩ (opts.take j)
        have hln2 : (opts.take j).length ≤ 50 := Nat.le_trans (List.length_take_le' _ _) hlen
        have hln3 : (optAll ⟨verb, target, name, [], ⟨#[]⟩⟩ (opts.take j)).fs.length ≤ 100 := by simp only [List.length_nil] at hln; omega
        have hobc : ob ≠ c := by omega
        have hcell : wr.cell? ⟨ob, oo + j, none⟩ = some y := (World.cell?_of_block (w := W1) (hkb.2.2.2.2 ob (by omega) hobc)).trans hy
        have hWr : W1.heap.size ≤ wr.heap.size := hkb.2.2.2.1
        have HS := Lib.hid hstep; have HBJ := Lib.hid hbj; have HKB := Lib.hid hkb
        have i1 : (j : Int) < (opts.length : Int) := by omega
        generalize optAll ⟨verb, target, name, [], ⟨#[]⟩⟩ (opts.take j) = hj0 at *
        generalize opts[j] = x at *
        clear hstep hbj hkb hg hy hln hln2
        cases x with
        | field n t =>
          obtain ⟨bn, bv, rfl, hbn, hbv, htz⟩ := hopt
          have hbn1 := (Array.getElem?_eq_some_iff.1 hbn).1
          have hbv1 := (Array.getElem?_eq_some_iff.1 hbv).1
          have hbnc : bn ≠ c := fun e => by subst e; rw [HBX.out.box] at hbn; cases hbn
          have hbvc : bv ≠ c := fun e => by subst e; rw [HBX.out.box] at hbv; cases hbv
          have hcall := add_field c bn bv W1.heap.size n t hj0 v wr HBJ.out (HKB.out.at hbn1 hbnc hbn) (HKB.out.at hbv1 hbvc hbv) (by omega) hbn1 hbv1 hWr hln3 htz
          clear hbn hbv hbnc hbvc
          go_wp2_with fail
          refine hcall.mono ?_
          rintro e w5 ⟨rfl, ⟨v', hv'⟩, hk5⟩
          have HV := Lib.hid hv'; have HK5 := Lib.hid (HKB.out.trans hk5)
          clear hcall hv' hk5 hcell
          go_wp2_with fail
          go_roundw
          case rel => exact ⟨j + 1, by omega, by go_num, ⟨_, by rw [HS.out]; exact HV.out⟩, HK5.out⟩
          case measure => simp [intOf]; omega
        | body t => exact hopt.elim
      · have hjl : j = opts.length := by omega
        subst hjl
        rw [List.take_length, ← HQ.out] at hbj
        have hres : wr.heap[w.heap.size + 1]? = some (.cells #[.string ⟨#[]⟩, .string ⟨#[]⟩, .string ⟨#[]⟩, .slice none 0 0, .string ⟨#[]⟩] 40 (0, 0)) := hkb.at (by omega) hcne HK4.out
        obtain ⟨x0, x1, x2, x3, x4, _⟩ := five_facts hbj.box
        obtain ⟨y0, y1, y2, y3, y4, f0, f1, f2, f3, f4⟩ := five_facts hres
        have z := five_set hres (.string qv) (.string qt) (.string qh) v (.string qb)
        have hbw : Below w.heap.size w (set5 wr (w.heap.size + 1) (.string qv) (.string qt) (.string qh) v (.string qb)) :=
          (HK1.out.trans (hkb.below hcw (by omega))).grown (grown_set5 _ _ _ _ _ _ _) (by have := HK1.out.size; have := hkb.2.2.2.1; omega) (fun k hk => by cases hk; omega)
        have hown : (set5 wr (w.heap.size + 1) (.string qv) (.string qt) (.string qh) v (.string qb)).ownsRow w.heap.size 50 2 v qf.length (fcells qf) := by
          have hlt1 : w.heap.size + 1 < W1.heap.size := by omega
          exact own_base (own_setk (own_setk (own_setk (own_setk (own_setk hbj.own hlt1 _) hlt1 _) hlt1 _) hlt1 _) hlt1 _) (by omega)
        obtain ⟨a8, c8, hv8⟩ := own_len2 hbj.own
        subst hv8
        unfold set5 at z hbw hown
        obtain ⟨z0, z1, z2, z3, z4, _⟩ := five_facts z
        have HZ := Lib.hid (And.intro z0 (And.intro z1 (And.intro z2 (And.intro z3 (And.intro z4 (And.intro hown hbw))))))
        clear z z0 z1 z2 z3 z4 hown hbw hbj hkb hres
        go_wp2_with fail
        obtain ⟨z0, z1, z2, z3, z4, hown, hbw⟩ := HZ.out
        refine bodyPost_ret (v := .agg #[.string qv, .string qt, .string qh, .slice a8 qf.length c8, .string qb]) (by simp [results, Tryz.results66, go_sem, z0, z1, z2, z3, z4]) rfl ?_
        exact ⟨⟨_, rfl, hown⟩, hbw⟩
end Go.Proofs.YtncegikmpapldaaGreatDoor

