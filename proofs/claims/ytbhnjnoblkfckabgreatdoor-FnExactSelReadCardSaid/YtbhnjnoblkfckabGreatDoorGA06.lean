import Derived.Test.YtbhnjnoblkfckabGreatDoorGA05
import Derived.Deep.RegionHeld3
import Derived.Test.YtbhnjnoblkfckabGreatDoorGA02
import Derived.Test.YtbhnjnoblkfckabGreatDoorGA04
import Derived.Laws.EntriesVeiled
import Derived.Deep.RegionWith
-- from XHedO
/- Walks: whether a request is ok, by the specification. -/
namespace Go.Proofs.YtbhnjnoblkfckabGreatDoor
open Go.RowKit

theorem hed_no {h : Hd} (hk : ¬ HOk h) : hedB h = false := by
  rw [Bool.eq_false_iff]; exact fun e => hk (hedB_iff.1 e)

theorem can_parts (t : ByteArray) : ∃ (T : ByteArray) (ok : Bool), canV (canonL t.data.toList) = .tuple #[.string T, .bool ok] ∧ ((ok = true ∧ T = t) ↔ canonL t.data.toList = some t.data.toList) := by
  cases hc : canonL t.data.toList with
  | none => exact ⟨⟨#[]⟩, false, rfl, by simp⟩
  | some c =>
    refine ⟨⟨c.toArray⟩, true, rfl, ?_⟩
    constructor
    · rintro ⟨_, h⟩; rw [← h]
    · intro h; refine ⟨rfl, ?_⟩; rw [Option.some.inj h]
theorem host_parts (t : ByteArray) : ∃ (T : ByteArray) (ok : Bool), hostR t.data.toList = (T, ok) ∧ ((ok = true ∧ T = t) ↔ hostB t.data.toList = true) := by
  obtain ⟨T, ok, hr⟩ : ∃ T ok, hostR t.data.toList = (T, ok) := ⟨_, _, rfl⟩
  refine ⟨T, ok, hr, ?_⟩
  constructor
  · rintro ⟨rfl, rfl⟩; exact (hostR_yes hr).1
  · intro h
    rw [host_again h] at hr
    obtain ⟨h1, h2⟩ := Prod.mk.inj hr
    exact ⟨h2.symm, by rw [← h1]⟩

def fldsB (fs : List Fd) : Bool := fs.all fun f => fdB f && !ownB f.1.data.toList
theorem flds_at {fs : List Fd} {f : Fd} (hf : f ∈ fs) (h : fdB f = false ∨ ownB f.1.data.toList = true) : fldsB fs = false := by
  rw [Bool.eq_false_iff]; intro e
  unfold fldsB at e
  rw [List.all_eq_true] at e
  have := e f hf
  rcases h with h | h <;> simp [h] at this
theorem flds_snoc {fs : List Fd} {f : Fd} (h0 : fldsB fs = true) (h1 : fdB f = true) (h2 : ownB f.1.data.toList = false) : fldsB (fs ++ [f]) = true := by
  unfold fldsB at *
  rw [List.all_append, h0]
  simp [h1, h2]

set_option maxRecDepth 100000 in
set_option maxHeartbeats 6400000 in
theorem spec_hedok (h : Hd) (v : Value) (w : World) (hv : FRow w v h.fs) (hn : h.fs.length ≤ 2000000) (hok : FOk h.fs 2000000)
    (b1 : h.verb.size ≤ 1048576) (b2 : h.target.size ≤ 1048576) (b3 : h.host.size ≤ 1048576) (b4 : h.body.size ≤ 1048576) :
    Calls Tryz.prog 35 #[.agg #[.string h.verb, .string h.target, .string h.host, v, .string h.body]] w fun e w' => e = .returned (.bool (hedB h)) ∧ Below w.heap.size w w' := by
  have hW := fun W hV => spec_write h v W hV hn (fun f hf => ⟨Nat.le_trans (hok f hf).1 (by decide), Nat.le_trans (hok f hf).2 (by decide)⟩) (by omega) (by omega) (by omega) (by omega)
  have hno : ∀ P : Prop, (HOk h → P) → ¬ P → hedB h = false := fun P hp hn => hed_no fun hk => hn (hp hk)
  have hyes : ∀ H : HOk h, hedB h = true := fun H => hedB_iff.2 H
  have hlen : (hedT h).length = (headT h).length + h.body.size := by rw [size_len]; simp [hedT]
  have hU := fun W => spec_canon h.target W b2
  have hH := fun W => spec_host h.host W b3
  have hV := fun W => l4_verb h.verb W
  have hB := fun W => l4_body h.body W (by unfold maxLen; omega)
  obtain ⟨T, okT, hT, hTT⟩ := can_parts h.target
  obtain ⟨S, okS, hS, hSS⟩ := host_parts h.host
  rw [hT] at hU
  rw [hS] at hH
  clear hT hS
  dsimp only at hH
  have hv2 := hv
  obtain ⟨a, c, rfl, h1, h2, h3⟩ := hv
  unfold maxLen at h2
  have H3 := Lib.hid h3; clear h3
  have HNo := Lib.hid hno; clear hno
  have HYes := Lib.hid hyes; clear hyes
  have HW := Lib.hid hW; clear hW
  have HV2 := Lib.hid hv2; clear hv2
  have HTT := Lib.hid hTT; clear hTT
  have HSS := Lib.hid hSS; clear hSS
  have HFOk := Lib.hid hok; clear hok
  go_enter Tryz.func35, Tryz.ntmps35
  go_wp2_with fail
  generalize hO : Obj.cells #[.string h.verb, .string h.target, .string h.host, .slice a h.fs.length c, .string h.body] 32 = O
  have q0 : (w.alloc O).cell? ⟨w.heap.size, 0, none⟩ = some (.string h.verb) := by rw [← hO, World.cell?_alloc_at _ _ _ _ rfl]; rfl
  have q1 : (w.alloc O).cell? ⟨w.heap.size, 1, none⟩ = some (.string h.target) := by rw [← hO, World.cell?_alloc_at _ _ _ _ rfl]; rfl
  have q2 : (w.alloc O).cell? ⟨w.heap.size, 2, none⟩ = some (.string h.host) := by rw [← hO, World.cell?_alloc_at _ _ _ _ rfl]; rfl
  have q3 : (w.alloc O).cell? ⟨w.heap.size, 3, none⟩ = some (.slice a h.fs.length c) := by rw [← hO, World.cell?_alloc_at _ _ _ _ rfl]; rfl
  have q4 : (w.alloc O).cell? ⟨w.heap.size, 4, none⟩ = some (.string h.body) := by rw [← hO, World.cell?_alloc_at _ _ _ _ rfl]; rfl
  have hsz : (w.alloc O).heap.size = w.heap.size + 1 := by simp
  have hbA : Below w.heap.size w (w.alloc O) := (Below.refl _ _).alloc (Nat.le_refl _) O
  clear hO
  generalize (w.alloc O) = wA at *
  have hbr : Below (w.heap.size + 1) wA wA := Below.refl _ _
  refine (hU _).mono ?_
  rintro e w1 ⟨rfl, hb1⟩
  replace hbr := hbr.trans (hb1.mono (by omega))
  have r2 := (hbr.cell (p := ⟨w.heap.size, 2, none⟩) (by simp)).trans q2
  go_wp2_with fail
  refine (hH _).mono ?_
  rintro e w2 ⟨rfl, hb2⟩
  replace hbr := hbr.trans (hb2.mono (by have := hbr.size; omega))
  have s0 := (hbr.cell (p := ⟨w.heap.size, 0, none⟩) (by simp)).trans q0
  have s1 := (hbr.cell (p := ⟨w.heap.size, 1, none⟩) (by simp)).trans q1
  have s2 := (hbr.cell (p := ⟨w.heap.size, 2, none⟩) (by simp)).trans q2
  have s3 := (hbr.cell (p := ⟨w.heap.size, 3, none⟩) (by simp)).trans q3
  have s4 := (hbr.cell (p := ⟨w.heap.size, 4, none⟩) (by simp)).trans q4
  have hbw := hbA.trans (hbr.mono (Nat.le_succ _))
  have hw2 : w.heap.size + 1 ≤ w2.heap.size := by have := hbr.size; omega
  have HQ0 := Lib.hid q0; have HQ1 := Lib.hid q1; have HQ2 := Lib.hid q2
  clear q0 q1 q2 r2 hb1 hb2 hU hH
  have HR := Lib.hid hbr; clear hbr
  have HBW := Lib.hid hbw; clear hbw
  go_wp2_with fail
  refine (hV _).mono ?_
  rintro e w3 ⟨rfl, rfl⟩
  cases hvb : verbB h.verb.data.toList
  · have HF := Lib.hid (HNo.out _ (fun hk => hk.verb) (by rw [hvb]; decide))
    clear hvb
    go_wp2
    go_ret
    rw [HF.out]; exact ⟨rfl, HBW.out⟩
  have HVb := Lib.hid hvb; clear hvb
  cases okT
  · have HF := Lib.hid (HNo.out _ (fun hk => HTT.out.2 hk.target) (by simp))
    go_wp2
    go_ret
    rw [HF.out]; exact ⟨rfl, HBW.out⟩
  by_cases ht : ¬ T = h.target
  · have se := str_ne ht
    have HF := Lib.hid (HNo.out _ (fun hk => HTT.out.2 hk.target) (fun e => ht e.2))
    clear ht
    go_wp2
    go_ret
    rw [HF.out]; exact ⟨rfl, HBW.out⟩
  rw [Classical.not_not] at ht
  have HTg := HTT.out.1 ⟨rfl, ht⟩
  have se1 := str_same h.target
  subst ht
  clear HTT
  have HTg := Lib.hid HTg
  cases okS
  · have HF := Lib.hid (HNo.out _ (fun hk => HSS.out.2 hk.host) (by simp))
    go_wp2
    go_ret
    rw [HF.out]; exact ⟨rfl, HBW.out⟩
  by_cases hs : ¬ S = h.host
  · have se := str_ne hs
    have HF := Lib.hid (HNo.out _ (fun hk => HSS.out.2 hk.host) (fun e => hs e.2))
    clear hs
    go_wp2
    go_ret
    rw [HF.out]; exact ⟨rfl, HBW.out⟩
  rw [Classical.not_not] at hs
  have HHt := HSS.out.1 ⟨rfl, hs⟩
  have se2 := str_same h.host
  subst hs
  clear HSS
  have HHt := Lib.hid HHt
  by_cases hm : ¬ h.fs.length ≤ 6
  · have HF := Lib.hid (HNo.out _ (fun hk => hk.many) hm)
    go_wp2
    go_ret
    rw [HF.out]; exact ⟨rfl, HBW.out⟩
  rw [Classical.not_not] at hm
  clear se1 se2
  have se1 := str_same h.target
  have se2 := str_same h.host
  go_wp2_with fail
  refine (hB _).mono ?_
  rintro e w3 ⟨rfl, rfl⟩
  cases hbb : bodyB h.body.data.toList
  · have HF := Lib.hid (HNo.out _ (fun hk => hk.body) (by rw [hbb]; decide))
    clear hbb
    go_wp2
    go_ret
    rw [HF.out]; exact ⟨rfl, HBW.out⟩
  have HBb := Lib.hid hbb; clear hbb
  by_cases hb0 : h.body.data.toList = []
  · have he : (h.body.toList == []) = true := by rw [Lib.toList_data, hb0]; rfl
    have HPut : Hid (h.body.data.toList = [] ∨ h.verb.data.toList = bPut) := Lib.hid (.inl hb0)
    clear hb0
    go_wp2_with fail
    go_loopw [7] (fun i wr => ∃ k : Nat, k ≤ h.fs.length ∧ i = .int .i64 k ∧ fldsB (h.fs.take k) = true ∧ Below (w.heap.size + 1) wA wr) (fun i _ => h.fs.length - (intOf i).toNat)
    case atStart => exact ⟨0, Nat.zero_le _, rfl, rfl, HR.out⟩
    case round =>
      obtain ⟨k, hk, rfl, hall, hbr⟩ := hrel
      have q0' := HQ0.out; have q1' := HQ1.out; have q2' := HQ2.out
      have t0 := (hbr.cell (p := ⟨w.heap.size, 0, none⟩) (by simp)).trans q0'
      have t1 := (hbr.cell (p := ⟨w.heap.size, 1, none⟩) (by simp)).trans q1'
      have t2 := (hbr.cell (p := ⟨w.heap.size, 2, none⟩) (by simp)).trans q2'
      have t3 := (hbr.cell (p := ⟨w.heap.size, 3, none⟩) (by simp)).trans q3
      have t4 := (hbr.cell (p := ⟨w.heap.size, 4, none⟩) (by simp)).trans q4
      clear q0' q1' q2'
      have hbw := hbA.trans (hbr.mono (Nat.le_succ _))
      have hwr : w.heap.size + 1 ≤ wr.heap.size := by have := hbr.size; omega
      have HA := Lib.hid hall; clear hall
      by_cases hlt : k < h.fs.length
      · obtain ⟨b1, o1, rfl, hb1, c1, c2⟩ := H3.out k h.fs[k] (List.getElem?_eq_getElem hlt)
        have k1 := (hbw.cell (p := ⟨b1, o1 + k * 2, none⟩) hb1).trans c1
        have k2 := (hbw.cell (p := ⟨b1, o1 + k * 2 + 1, none⟩) hb1).trans c2
        have hmem : h.fs[k] ∈ h.fs := List.getElem_mem hlt
        have hok := HFOk.out h.fs[k] hmem
        have hsn : h.fs.take (k + 1) = h.fs.take k ++ [h.fs[k]] := by rw [List.take_add_one, List.getElem?_eq_getElem hlt]; rfl
        have HSn := Lib.hid hsn; clear hsn
        clear c1 c2
        generalize h.fs[k] = f at *
        have HMem := Lib.hid hmem; clear hmem
        obtain ⟨nm, vl⟩ := f
        dsimp only at k1 k2 hok
        have hF := fun W => spec_ok nm vl W (by unfold maxLen; omega) (by unfold maxLen; omega)
        have hOwn := fun W => l4_own nm W
        cases hfd : fdB (nm, vl)
        · have HF := Lib.hid (HNo.out _ (fun hk => (hk.fs _ HMem.out).1) (by rw [hfd]; decide))
          rw [hfd] at hF
          clear hfd
          go_wp2_with fail
          refine (hF _).mono ?_
          rintro e w3 ⟨rfl, hb3⟩
          go_wp2
          go_ret
          rw [HF.out]; exact ⟨rfl, hbw.trans (hb3.mono (by omega))⟩
        · rw [hfd] at hF
          have HFd := Lib.hid hfd; clear hfd
          go_wp2_with fail
          refine (hF _).mono ?_
          rintro e w3 ⟨rfl, hb3⟩
          have m1 := (hb3.cell (p := ⟨b1, o1 + k * 2, none⟩) (by show b1 < wr.heap.size; omega)).trans k1
          have u3 := (hb3.cell (p := ⟨w.heap.size, 3, none⟩) (by simp; omega)).trans t3
          go_wp2_with fail
          refine (hOwn _).mono ?_
          rintro e w4 ⟨rfl, rfl⟩
          cases how : ownB nm.data.toList
          · have HO := Lib.hid (flds_snoc HA.out HFd.out how)
            rw [← HSn.out] at HO
            clear how
            go_wp2
            go_roundw
            case rel => exact ⟨k + 1, by omega, by go_num, HO.out, hbr.trans (hb3.mono (by omega))⟩
            case measure => simp [intOf]; omega
          · have HF := Lib.hid (HNo.out _ (fun hk => (hk.fs _ HMem.out).2) (by rw [how]; decide))
            clear how
            go_wp2
            go_ret
            rw [HF.out]; exact ⟨rfl, hbw.trans (hb3.mono (by omega))⟩
      · have hkn : k = h.fs.length := by omega
        subst hkn
        have hfl := HA.out
        rw [List.take_length] at hfl
        have hFR := HV2.out.below (Nat.le_refl _) hbw
        have hWr := HW.out wr hFR
        have hTs : (ByteArray.mk (hedT h).toArray).size = (headT h).length + h.body.size := by rw [← hlen, size_len]
        have hbase : hedB h = decide ((headT h).length ≤ 300) := by
          by_cases h3 : (headT h).length ≤ 300
          · rw [decide_eq_true h3]
            refine HYes.out ⟨HVb.out, HTg.out, HHt.out, hm, HBb.out, HPut.out, fun f hf => ?_, h3⟩
            unfold fldsB at hfl
            rw [List.all_eq_true] at hfl
            have := hfl f hf
            simpa using this
          · rw [decide_eq_false h3]
            exact HNo.out _ (fun hk => hk.len) h3
        have HBs := Lib.hid hbase
        clear hbase hfl
        generalize ByteArray.mk (hedT h).toArray = full at *
        have hS0 : wr.cell? ⟨w.heap.size, 0, none⟩ = some (.string h.verb) ∧ wr.cell? ⟨w.heap.size, 1, none⟩ = some (.string h.target) ∧ wr.cell? ⟨w.heap.size, 2, none⟩ = some (.string h.host) ∧ wr.cell? ⟨w.heap.size, 3, none⟩ = some (.slice a h.fs.length c) ∧ wr.cell? ⟨w.heap.size, 4, none⟩ = some (.string h.body) ∧ HedS w h.fs (.slice a h.fs.length c) wr := ⟨t0, t1, t2, t3, t4, hFR, below_toH hbw, by omega⟩
        have hC : ∀ W, (W.cell? ⟨w.heap.size, 0, none⟩ = some (.string h.verb) ∧ W.cell? ⟨w.heap.size, 1, none⟩ = some (.string h.target) ∧ W.cell? ⟨w.heap.size, 2, none⟩ = some (.string h.host) ∧ W.cell? ⟨w.heap.size, 3, none⟩ = some (.slice a h.fs.length c) ∧ W.cell? ⟨w.heap.size, 4, none⟩ = some (.string h.body) ∧ HedS w h.fs (.slice a h.fs.length c) W) →
            Calls Tryz.prog 91 #[.agg #[.string h.verb, .string h.target, .string h.host, .slice a h.fs.length c, .string h.body]] W fun e w' => e = .returned (.string full) ∧
              (w'.cell? ⟨w.heap.size, 0, none⟩ = some (.string h.verb) ∧ w'.cell? ⟨w.heap.size, 1, none⟩ = some (.string h.target) ∧ w'.cell? ⟨w.heap.size, 2, none⟩ = some (.string h.host) ∧ w'.cell? ⟨w.heap.size, 3, none⟩ = some (.slice a h.fs.length c) ∧ w'.cell? ⟨w.heap.size, 4, none⟩ = some (.string h.body) ∧ HedS w h.fs (.slice a h.fs.length c) w') := fun W hS =>
          (HW.out W hS.2.2.2.2.2.1).mono fun e w' he => ⟨he.1, (he.2.cell (p := ⟨w.heap.size, 0, none⟩) hS.2.2.2.2.2.2.2).trans hS.1, (he.2.cell (p := ⟨w.heap.size, 1, none⟩) hS.2.2.2.2.2.2.2).trans hS.2.1, (he.2.cell (p := ⟨w.heap.size, 2, none⟩) hS.2.2.2.2.2.2.2).trans hS.2.2.1, (he.2.cell (p := ⟨w.heap.size, 3, none⟩) hS.2.2.2.2.2.2.2).trans hS.2.2.2.1, (he.2.cell (p := ⟨w.heap.size, 4, none⟩) hS.2.2.2.2.2.2.2).trans hS.2.2.2.2.1, hS.2.2.2.2.2.next he.2⟩
        clear t0 t1 t2 t3 t4 hFR
        clear hWr
        have hd64 : (headT h).length ≤ 4000000 := by have := head_len h b4; omega
        have e64 : IntKind.i64.wrap ((full.size : Int) - (h.body.size : Int)) = ((headT h).length : Int) := by
          have e : (full.size : Int) - (h.body.size : Int) = ((headT h).length : Int) := by rw [hTs]; omega
          rw [e, IntKind.wrap_i64]; omega
        have E64 := Lib.hid e64; clear e64
        go_wp2_with fail
        clear hV hB hm se1 se2 he hlen hTs HW HV2 HFOk H3 HNo HYes hbA hbr hbw HA q3 q4 s0 s1 s2 s3 s4 HQ0 HQ1 HQ2 HR HBW HVb HTg HHt HBb HPut b1 b2 b3 b4 h1 h2 hn hd64
        go_region_held3 (fun W => W.cell? ⟨w.heap.size, 0, none⟩ = some (.string h.verb) ∧ W.cell? ⟨w.heap.size, 1, none⟩ = some (.string h.target) ∧ W.cell? ⟨w.heap.size, 2, none⟩ = some (.string h.host) ∧ W.cell? ⟨w.heap.size, 3, none⟩ = some (.slice a h.fs.length c) ∧ W.cell? ⟨w.heap.size, 4, none⟩ = some (.string h.body) ∧ HedS w h.fs (.slice a h.fs.length c) W)
          (first | exact hS1 | exact hS0) (first | (go_at_call 91; refine (hC _ ?_).mono ?_; (first | exact hS1 | exact hS0); rintro e w3 ⟨rfl, hS1⟩))
        have hend := hS1.2.2.2.2.2.2.1.out
        clear hC hS0 hS1
        go_wp2
        go_ret
        rw [HBs.out, E64.out]
        have e3 : decide (((headT h).length : Int) ≤ 300) = decide ((headT h).length ≤ 300) := by rw [decide_eq_decide]; omega
        exact ⟨congrArg (fun b => Ending.returned (Value.bool b)) e3, hend⟩
  · have he : (h.body.toList == []) = false := by rw [Lib.toList_data]; simpa using hb0
    by_cases hp : h.verb.data.toList = bPut
    · have hx : (h.verb.toList == [112, 117, 116]) = true := by rw [Lib.toList_data, hp]; rfl
      have HPut : Hid (h.body.data.toList = [] ∨ h.verb.data.toList = bPut) := Lib.hid (.inr hp)
      clear hb0 hp
      go_wp2_with fail
      go_loopw [7] (fun i wr => ∃ k : Nat, k ≤ h.fs.length ∧ i = .int .i64 k ∧ fldsB (h.fs.take k) = true ∧ Below (w.heap.size + 1) wA wr) (fun i _ => h.fs.length - (intOf i).toNat)
      case atStart => exact ⟨0, Nat.zero_le _, rfl, rfl, HR.out⟩
      case round =>
        obtain ⟨k, hk, rfl, hall, hbr⟩ := hrel
        have q0' := HQ0.out; have q1' := HQ1.out; have q2' := HQ2.out
        have t0 := (hbr.cell (p := ⟨w.heap.size, 0, none⟩) (by simp)).trans q0'
        have t1 := (hbr.cell (p := ⟨w.heap.size, 1, none⟩) (by simp)).trans q1'
        have t2 := (hbr.cell (p := ⟨w.heap.size, 2, none⟩) (by simp)).trans q2'
        have t3 := (hbr.cell (p := ⟨w.heap.size, 3, none⟩) (by simp)).trans q3
        have t4 := (hbr.cell (p := ⟨w.heap.size, 4, none⟩) (by simp)).trans q4
        clear q0' q1' q2'
        have hbw := hbA.trans (hbr.mono (Nat.le_succ _))
        have hwr : w.heap.size + 1 ≤ wr.heap.size := by have := hbr.size; omega
        have HA := Lib.hid hall; clear hall
        by_cases hlt : k < h.fs.length
        · obtain ⟨b1, o1, rfl, hb1, c1, c2⟩ := H3.out k h.fs[k] (List.getElem?_eq_getElem hlt)
          have k1 := (hbw.cell (p := ⟨b1, o1 + k * 2, none⟩) hb1).trans c1
          have k2 := (hbw.cell (p := ⟨b1, o1 + k * 2 + 1, none⟩) hb1).trans c2
          have hmem : h.fs[k] ∈ h.fs := List.getElem_mem hlt
          have hok := HFOk.out h.fs[k] hmem
          have hsn : h.fs.take (k + 1) = h.fs.take k ++ [h.fs[k]] := by rw [List.take_add_one, List.getElem?_eq_getElem hlt]; rfl
          have HSn := Lib.hid hsn; clear hsn
          clear c1 c2
          generalize h.fs[k] = f at *
          have HMem := Lib.hid hmem; clear hmem
          obtain ⟨nm, vl⟩ := f
          dsimp only at k1 k2 hok
          have hF := fun W => spec_ok nm vl W (by unfold maxLen; omega) (by unfold maxLen; omega)
          have hOwn := fun W => l4_own nm W
          cases hfd : fdB (nm, vl)
          · have HF := Lib.hid (HNo.out _ (fun hk => (hk.fs _ HMem.out).1) (by rw [hfd]; decide))
            rw [hfd] at hF
            clear hfd
            go_wp2_with fail
            refine (hF _).mono ?_
            rintro e w3 ⟨rfl, hb3⟩
            go_wp2
            go_ret
            rw [HF.out]; exact ⟨rfl, hbw.trans (hb3.mono (by omega))⟩
          · rw [hfd] at hF
            have HFd := Lib.hid hfd; clear hfd
            go_wp2_with fail
            refine (hF _).mono ?_
            rintro e w3 ⟨rfl, hb3⟩
            have m1 := (hb3.cell (p := ⟨b1, o1 + k * 2, none⟩) (by show b1 < wr.heap.size; omega)).trans k1
            have u3 := (hb3.cell (p := ⟨w.heap.size, 3, none⟩) (by simp; omega)).trans t3
            go_wp2_with fail
            refine (hOwn _).mono ?_
            rintro e w4 ⟨rfl, rfl⟩
            cases how : ownB nm.data.toList
            · have HO := Lib.hid (flds_snoc HA.out HFd.out how)
              rw [← HSn.out] at HO
              clear how
              go_wp2
              go_roundw
              case rel => exact ⟨k + 1, by omega, by go_num, HO.out, hbr.trans (hb3.mono (by omega))⟩
              case measure => simp [intOf]; omega
            · have HF := Lib.hid (HNo.out _ (fun hk => (hk.fs _ HMem.out).2) (by rw [how]; decide))
              clear how
              go_wp2
              go_ret
              rw [HF.out]; exact ⟨rfl, hbw.trans (hb3.mono (by omega))⟩
        · have hkn : k = h.fs.length := by omega
          subst hkn
          have hfl := HA.out
          rw [List.take_length] at hfl
          have hFR := HV2.out.below (Nat.le_refl _) hbw
          have hWr := HW.out wr hFR
          have hTs : (ByteArray.mk (hedT h).toArray).size = (headT h).length + h.body.size := by rw [← hlen, size_len]
          have hbase : hedB h = decide ((headT h).length ≤ 300) := by
            by_cases h3 : (headT h).length ≤ 300
            · rw [decide_eq_true h3]
              refine HYes.out ⟨HVb.out, HTg.out, HHt.out, hm, HBb.out, HPut.out, fun f hf => ?_, h3⟩
              unfold fldsB at hfl
              rw [List.all_eq_true] at hfl
              have := hfl f hf
              simpa using this
            · rw [decide_eq_false h3]
              exact HNo.out _ (fun hk => hk.len) h3
          have HBs := Lib.hid hbase
          clear hbase hfl
          generalize ByteArray.mk (hedT h).toArray = full at *
          have hS0 : wr.cell? ⟨w.heap.size, 0, none⟩ = some (.string h.verb) ∧ wr.cell? ⟨w.heap.size, 1, none⟩ = some (.string h.target) ∧ wr.cell? ⟨w.heap.size, 2, none⟩ = some (.string h.host) ∧ wr.cell? ⟨w.heap.size, 3, none⟩ = some (.slice a h.fs.length c) ∧ wr.cell? ⟨w.heap.size, 4, none⟩ = some (.string h.body) ∧ HedS w h.fs (.slice a h.fs.length c) wr := ⟨t0, t1, t2, t3, t4, hFR, below_toH hbw, by omega⟩
          have hC : ∀ W, (W.cell? ⟨w.heap.size, 0, none⟩ = some (.string h.verb) ∧ W.cell? ⟨w.heap.size, 1, none⟩ = some (.string h.target) ∧ W.cell? ⟨w.heap.size, 2, none⟩ = some (.string h.host) ∧ W.cell? ⟨w.heap.size, 3, none⟩ = some (.slice a h.fs.length c) ∧ W.cell? ⟨w.heap.size, 4, none⟩ = some (.string h.body) ∧ HedS w h.fs (.slice a h.fs.length c) W) →
              Calls Tryz.prog 91 #[.agg #[.string h.verb, .string h.target, .string h.host, .slice a h.fs.length c, .string h.body]] W fun e w' => e = .returned (.string full) ∧
                (w'.cell? ⟨w.heap.size, 0, none⟩ = some (.string h.verb) ∧ w'.cell? ⟨w.heap.size, 1, none⟩ = some (.string h.target) ∧ w'.cell? ⟨w.heap.size, 2, none⟩ = some (.string h.host) ∧ w'.cell? ⟨w.heap.size, 3, none⟩ = some (.slice a h.fs.length c) ∧ w'.cell? ⟨w.heap.size, 4, none⟩ = some (.string h.body) ∧ HedS w h.fs (.slice a h.fs.length c) w') := fun W hS =>
            (HW.out W hS.2.2.2.2.2.1).mono fun e w' he => ⟨he.1, (he.2.cell (p := ⟨w.heap.size, 0, none⟩) hS.2.2.2.2.2.2.2).trans hS.1, (he.2.cell (p := ⟨w.heap.size, 1, none⟩) hS.2.2.2.2.2.2.2).trans hS.2.1, (he.2.cell (p := ⟨w.heap.size, 2, none⟩) hS.2.2.2.2.2.2.2).trans hS.2.2.1, (he.2.cell (p := ⟨w.heap.size, 3, none⟩) hS.2.2.2.2.2.2.2).trans hS.2.2.2.1, (he.2.cell (p := ⟨w.heap.size, 4, none⟩) hS.2.2.2.2.2.2.2).trans hS.2.2.2.2.1, hS.2.2.2.2.2.next he.2⟩
          clear t0 t1 t2 t3 t4 hFR
          clear hWr
          have hd64 : (headT h).length ≤ 4000000 := by have := head_len h b4; omega
          have e64 : IntKind.i64.wrap ((full.size : Int) - (h.body.size : Int)) = ((headT h).length : Int) := by
            have e : (full.size : Int) - (h.body.size : Int) = ((headT h).length : Int) := by rw [hTs]; omega
            rw [e, IntKind.wrap_i64]; omega
          have E64 := Lib.hid e64; clear e64
          go_wp2_with fail
          clear hV hB hm se1 se2 he hlen hTs HW HV2 HFOk H3 HNo HYes hbA hbr hbw HA q3 q4 s0 s1 s2 s3 s4 HQ0 HQ1 HQ2 HR HBW HVb HTg HHt HBb HPut b1 b2 b3 b4 h1 h2 hn hd64
          go_region_held3 (fun W => W.cell? ⟨w.heap.size, 0, none⟩ = some (.string h.verb) ∧ W.cell? ⟨w.heap.size, 1, none⟩ = some (.string h.target) ∧ W.cell? ⟨w.heap.size, 2, none⟩ = some (.string h.host) ∧ W.cell? ⟨w.heap.size, 3, none⟩ = some (.slice a h.fs.length c) ∧ W.cell? ⟨w.heap.size, 4, none⟩ = some (.string h.body) ∧ HedS w h.fs (.slice a h.fs.length c) W)
            (first | exact hS1 | exact hS0) (first | (go_at_call 91; refine (hC _ ?_).mono ?_; (first | exact hS1 | exact hS0); rintro e w3 ⟨rfl, hS1⟩))
          have hend := hS1.2.2.2.2.2.2.1.out
          clear hC hS0 hS1
          go_wp2
          go_ret
          rw [HBs.out, E64.out]
          have e3 : decide (((headT h).length : Int) ≤ 300) = decide ((headT h).length ≤ 300) := by rw [decide_eq_decide]; omega
          exact ⟨congrArg (fun b => Ending.returned (Value.bool b)) e3, hend⟩
    · have hx : (h.verb.toList == [112, 117, 116]) = false := by rw [Lib.toList_data]; simpa [bPut] using hp
      have HF := Lib.hid (HNo.out _ (fun hk => hk.put) (fun e => e.elim hb0 hp))
      clear hb0 hp
      go_wp2
      go_ret
      rw [HF.out]; exact ⟨rfl, HBW.out⟩
end Go.Proofs.YtbhnjnoblkfckabGreatDoor

-- from XMach
/- Places: the machine that takes a place byte by byte for what it means. -/
namespace Go.Proofs.YtbhnjnoblkfckabGreatDoor
open Go.RowKit

def u8s (l : List UInt8) : List Value := l.map fun c => .int .u8 (c.toNat : Int)
theorem u8s_len (l : List UInt8) : (u8s l).length = l.length := by simp [u8s]
theorem u8s_at {l : List UInt8} {j : Nat} (hj : j < l.length) : (u8s l)[j]? = some (.int .u8 ((l[j]).toNat : Int)) := by simp [u8s, hj]
theorem u8s_app (l : List UInt8) (c : UInt8) : u8s (l ++ [c]) = u8s l ++ [.int .u8 (c.toNat : Int)] := by simp [u8s]

theorem Tryz.info5 : (Tryz.prog.info? 5).map (fun i => (i.zero, i.size, i.bytes)) = some (some (.int .u8 0), 1, 1) := by kernel_rfl

theorem set_at {w3 : World} {b n : Nat} {v v' : Value} {xs : List Value} {T e : TypeId} (hh : w3.heap[b]? = some (.cells #[v] T (0, 0))) (ho : w3.ownsRow (b + 1) e 1 v' n xs) :
    (w3.setCell ⟨b, 0, none⟩ v').heap[b]? = some (.cells #[v'] T (0, 0)) ∧ (w3.setCell ⟨b, 0, none⟩ v').ownsRow (b + 1) e 1 v' n xs := by
  have hg : w3.grownBy (w3.setCell ⟨b, 0, none⟩ v') (some b) := ⟨rfl, rfl, rfl, by simp, fun k _ hk => heap_setCell_other w3 ⟨b, 0, none⟩ k _ (fun e => hk (by simp [e]))⟩
  refine ⟨?_, ho.kept hg (.inr fun e => ?_)⟩
  · rw [heap_setCell_same w3 b 0 _ _ _ hh]; simp
  · have := (ho.lt b e).1; omega
theorem set_below {w w3 : World} {b : Nat} {v' : Value} (h : Below b w w3) : Below b w (w3.setCell ⟨b, 0, none⟩ v') :=
  ⟨h.os, h.tape, h.output, by simpa using h.size, fun k hk => (heap_setCell_other w3 ⟨b, 0, none⟩ k _ (by simp; omega)).trans (h.block k hk)⟩


inductive MS where | p | f | s
theorem u8_eq37 {c : UInt8} (h : c = 37) : ((c.toNat : Int) == 37) = true := by rw [h]; rfl
theorem u8_ne37 {c : UInt8} (h : c ≠ 37) : ((c.toNat : Int) == 37) = false := by
  rw [beq_eq_false_iff_ne]; intro h2
  exact h (UInt8.toNat_inj.mp (by have e : (37 : UInt8).toNat = 37 := rfl; omega))

def nextP (c : UInt8) : MS := if c = 37 then .f else .p

/-- What the machine holds: in its first state the bytes of what is read; ahead of an open code these, then the code's bytes. -/
def MInv (R : List UInt8) (st : MS) (ys l : List UInt8) : Prop :=
  match st with
  | .p => R = ys ++ meansL l
  | .f => ∃ xs, ys = xs ++ [37] ∧ R = xs ++ meansL (37 :: l)
  | .s => ∃ xs a x, hexV a = some x ∧ ys = xs ++ [37, a] ∧ R = xs ++ meansL (37 :: a :: l)

theorem minv_plain {R ys l : List UInt8} {c : UInt8} (h : R = ys ++ meansL (c :: l)) : MInv R (nextP c) (ys ++ [c]) l := by
  unfold nextP
  by_cases hc : c = 37
  · subst hc; rw [if_pos rfl]; exact ⟨ys, rfl, h⟩
  · rw [if_neg hc]
    show R = ys ++ [c] ++ meansL l
    rw [h, meansL_none (codeL_ne hc)]; simp
theorem minv_end {R ys : List UInt8} {st : MS} (h : MInv R st ys []) : R = ys := by
  cases st with
  | p => have h' : R = ys ++ meansL [] := h; rw [meansL_nil, List.append_nil] at h'; exact h'
  | f =>
    obtain ⟨xs, rfl, h⟩ := h
    rw [meansL_none rfl, meansL_nil] at h; exact h
  | s =>
    obtain ⟨xs, a, x, hx, rfl, h⟩ := h
    rw [meansL_none rfl, meansL_none (codeL_ne (hex_ne_37 hx)), meansL_nil] at h; exact h

theorem nib (x y : Nat) (hx : x < 16) (hy : y < 16) : bits .or .u8 ((x : Int) * 16) (y : Int) = ((x * 16 + y : Nat) : Int) := by
  have h : ∀ x y : Fin 16, bits .or .u8 ((x.val : Int) * 16) (y.val : Int) = ((x.val * 16 + y.val : Nat) : Int) := by decide +kernel
  exact h ⟨x, hx⟩ ⟨y, hy⟩

theorem u8s_two (xs : List UInt8) (a : UInt8) (k : Nat) (hk : k = xs.length) : (u8s (xs ++ [37, a]))[k + 1]? = some (.int .u8 (a.toNat : Int)) ∧ (u8s (xs ++ [37, a])).take k = u8s xs := by
  subst hk
  constructor
  · simp [u8s]
  · simp [u8s]

end Go.Proofs.YtbhnjnoblkfckabGreatDoor

-- from XCan
/- Places: the machine that writes a place in its plainest form: its steps. -/
namespace Go.Proofs.YtbhnjnoblkfckabGreatDoor
open Go.RowKit

/-- The form so far lies in the block b, its bytes in a row of the call's own behind it. -/
def CAt (w : World) (b : Nat) (ys : List UInt8) (seg : Nat) (res : Value) (high : Nat) : Prop :=
  ∃ v, w.heap[b]? = some (.cells #[v, .int .i64 (seg : Int), res, .int .u8 (high : Int)] 170 (0, 0)) ∧ w.ownsRow (b + 1) 5 1 v ys.length (u8s ys)

theorem CAt.lt {w : World} {b : Nat} {ys : List UInt8} {seg : Nat} {res : Value} {high : Nat} (h : CAt w b ys seg res high) : b < w.heap.size := by
  obtain ⟨v, hh, _⟩ := h; exact (Array.getElem?_eq_some_iff.1 hh).1

def pathV (b : Nat) : Value := .func (.func 203) #[.pointer (some ⟨b, 0, none⟩)] #[]
def queryV (b : Nat) : Value := .func (.func 221) #[.pointer (some ⟨b, 0, none⟩)] #[]

theorem grown_setC (w : World) (b k : Nat) (x : Value) : w.grownBy (w.setCell ⟨b, k, none⟩ x) (some b) := ⟨rfl, rfl, rfl, by simp, fun j _ hj => heap_setCell_other w ⟨b, k, none⟩ j _ (fun e => hj (by simp [e]))⟩
theorem below_setC {w w3 : World} {b k : Nat} {x : Value} (h : Below b w w3) : Below b w (w3.setCell ⟨b, k, none⟩ x) :=
  ⟨h.os, h.tape, h.output, by simpa using h.size, fun j hj => (heap_setCell_other w3 ⟨b, k, none⟩ j _ (by simp; omega)).trans (h.block j hj)⟩
theorem own_set {w : World} {b k n : Nat} {v x : Value} {e : TypeId} {xs : List Value} (h : w.ownsRow (b + 1) e 1 v n xs) : (w.setCell ⟨b, k, none⟩ x).ownsRow (b + 1) e 1 v n xs :=
  h.kept (grown_setC w b k x) (.inr fun e => by have := (h.lt b e).1; omega)

theorem CAt.set0 {w : World} {b n seg high : Nat} {v v' res : Value} {ys : List UInt8} (hh : w.heap[b]? = some (.cells #[v, .int .i64 (seg : Int), res, .int .u8 (high : Int)] 170 (0, 0))) (ho : w.ownsRow (b + 1) 5 1 v' n (u8s ys)) (hn : n = ys.length) : CAt (w.setCell ⟨b, 0, none⟩ v') b ys seg res high := by
  refine ⟨v', ?_, hn ▸ own_set ho⟩
  rw [heap_setCell_same w b 0 _ _ _ hh]; simp
theorem CAt.set1 {w : World} {b seg high : Nat} {res : Value} {ys : List UInt8} (h : CAt w b ys seg res high) (n : Nat) : CAt (w.setCell ⟨b, 1, none⟩ (.int .i64 (n : Int))) b ys n res high := by
  obtain ⟨v, hh, ho⟩ := h
  refine ⟨v, ?_, own_set ho⟩
  rw [heap_setCell_same w b 1 _ _ _ hh]; simp
theorem CAt.set2 {w : World} {b seg high : Nat} {res : Value} {ys : List UInt8} (h : CAt w b ys seg res high) (r : Value) : CAt (w.setCell ⟨b, 2, none⟩ r) b ys seg r high := by
  obtain ⟨v, hh, ho⟩ := h
  refine ⟨v, ?_, own_set ho⟩
  rw [heap_setCell_same w b 2 _ _ _ hh]; simp
theorem CAt.set3 {w : World} {b seg high : Nat} {res : Value} {ys : List UInt8} (h : CAt w b ys seg res high) (n : Nat) : CAt (w.setCell ⟨b, 3, none⟩ (.int .u8 (n : Int))) b ys seg res n := by
  obtain ⟨v, hh, ho⟩ := h
  refine ⟨v, ?_, own_set ho⟩
  rw [heap_setCell_same w b 3 _ _ _ hh]; simp

set_option maxHeartbeats 800000 in
theorem c_put (b : Nat) (ys : List UInt8) (seg high : Nat) (res next : Value) (c : UInt8) (w : World) (h : CAt w b ys seg res high) (hn : ys.length ≤ 1000) :
    Calls Tryz.prog 202 #[.pointer (some ⟨b, 0, none⟩), .int .u8 c.toNat, next] w fun e w' => e = .returned next ∧ CAt w' b (ys ++ [c]) seg res high ∧ Below b w w' := by
  obtain ⟨i0, hi, hz0, hz1, hz2⟩ := info_parts Tryz.info5
  have hlt := h.lt
  obtain ⟨v, hh, hown⟩ := h
  have c0 : w.cell? ⟨b, 0, none⟩ = some v := by simp [World.cell?, hh]
  have fin : ∀ (w3 : World) (v' : Value), w3.ownsRow (b + 1) 5 1 v' (ys.length + 1) (u8s ys ++ [.int .u8 (c.toNat : Int)]) → w3.heap[b]? = w.heap[b]? → Below b w w3 → CAt (w3.setCell ⟨b, 0, none⟩ v') b (ys ++ [c]) seg res high ∧ Below b w (w3.setCell ⟨b, 0, none⟩ v') := by
    intro w3 v' ho hh3 hb3
    rw [← u8s_app] at ho
    exact ⟨CAt.set0 (hh3.trans hh) ho (by simp), below_setC hb3⟩
  have hfz : w.frozen? ⟨b, 0, none⟩ = false := by simp [World.frozen?, hh]
  have HH := Lib.hid hh; clear hh
  go_enter Tryz.func202, Tryz.ntmps202
  go_wp2_with (at_builtin; go_must (refine wpList_append1 w rfl _ _ 37 rfl (b + 1) 5 i0 _ 1 Tryz.underlying37 hi hz0 hz1 hz2 rfl _ _ _ (by rfl) hown _ rfl _ (by rfl) (by unfold maxLen; omega) (by omega) hlt ?_); intro v' w3 ho3 hb3 hlt3; obtain ⟨g', cap', rfl⟩ := own_form ho3 (by omega); have hh3 := hb3.block b (by omega); have c3 : w3.cell? ⟨b, 0, none⟩ = some v := ((World.cell?_of_block (a := ⟨b, 0, none⟩) hh3).trans c0); have f3 : w3.frozen? ⟨b, 0, none⟩ = false := ((World.frozen?_of_block (a := ⟨b, 0, none⟩) hh3).trans hfz))
  go_ret
  obtain ⟨q1, q2⟩ := fin w3 _ ho3 hh3 (hb3.mono (by omega))
  exact ⟨rfl, q1, q2⟩

set_option maxHeartbeats 800000 in
theorem c_slash (b : Nat) (ys : List UInt8) (seg high : Nat) (res : Value) (w : World) (h : CAt w b ys seg res high) (hn : ys.length ≤ 1000) :
    Calls Tryz.prog 176 #[.pointer (some ⟨b, 0, none⟩)] w fun e w' => e = .returned (pathV b) ∧ CAt w' b (ys ++ [47]) (ys.length + 1) res high ∧ Below b w w' := by
  have c1 := c_put b ys seg high res (pathV b) 47 w h hn
  have hmf : ∀ (fn : Fn) (first cap : Array Value) (w : World), (Instr.makeFunc fn first cap).run Tryz.prog w = .ok (.func fn first cap) w := fun _ _ _ _ => rfl
  unfold pathV at *
  clear h
  go_enter Tryz.func176, Tryz.ntmps176
  go_wp2_with fail
  refine c1.mono ?_
  rintro e w1 ⟨rfl, hc, hb⟩
  clear c1
  have hc2 := hc
  obtain ⟨v, hh, ho⟩ := hc2
  have hlen : (ys ++ [47]).length = ys.length + 1 := by simp
  rw [hlen] at ho
  obtain ⟨g', cap', rfl⟩ := own_form ho (by omega)
  have k0 : w1.cell? ⟨b, 0, none⟩ = some (.slice (some ⟨g', 0, none⟩) (ys.length + 1) cap') := by simp [World.cell?, hh]
  have k1 : w1.cell? ⟨b, 1, none⟩ = some (.int .i64 (seg : Int)) := by simp [World.cell?, hh]
  have f1 : w1.frozen? ⟨b, 1, none⟩ = false := by simp [World.frozen?, hh]
  clear hh ho
  go_wp2
  go_ret
  exact ⟨rfl, hc.set1 (ys.length + 1), below_setC hb⟩

theorem c_escape (b : Nat) (ys : List UInt8) (seg high : Nat) (res : Value) (q : Bool) (w : World) (h : CAt w b ys seg res high) :
    Calls Tryz.prog 222 #[.pointer (some ⟨b, 0, none⟩), (if q then queryV b else pathV b)] w fun e w' => e = .returned (.func (.func 229) #[.pointer (some ⟨b, 0, none⟩)] #[]) ∧ CAt w' b ys seg (if q then queryV b else pathV b) high ∧ Below b w w' := by
  have hfin := fun r => h.set2 r
  obtain ⟨v, hh, ho⟩ := h
  have k2 : w.cell? ⟨b, 2, none⟩ = some res := by simp [World.cell?, hh]
  have f2 : w.frozen? ⟨b, 2, none⟩ = false := by simp [World.frozen?, hh]
  have hmf : ∀ (fn : Fn) (first cap : Array Value) (w : World), (Instr.makeFunc fn first cap).run Tryz.prog w = .ok (.func fn first cap) w := fun _ _ _ _ => rfl
  clear hh ho
  unfold pathV queryV at *
  cases q
  · simp only [Bool.false_eq_true, if_false]
    go_enter Tryz.func222, Tryz.ntmps222
    go_wp2
    go_ret
    exact ⟨rfl, hfin _, below_setC (Below.refl _ _)⟩
  · simp only [if_true]
    go_enter Tryz.func222, Tryz.ntmps222
    go_wp2
    go_ret
    exact ⟨rfl, hfin _, below_setC (Below.refl _ _)⟩
end Go.Proofs.YtbhnjnoblkfckabGreatDoor

-- from XCan2
/- Places: the machine that writes a place in its plainest form: dots, paths, what is asked. -/
namespace Go.Proofs.YtbhnjnoblkfckabGreatDoor
open Go.RowKit

set_option maxRecDepth 100000 in
set_option maxHeartbeats 1600000 in
theorem c_dotted (b : Nat) (ys : List UInt8) (seg high : Nat) (res : Value) (w : World) (h : CAt w b ys seg res high) (__hn : ys.length ≤ 1000) (h0 : 0 < ys.length) (hs : seg ≤ ys.length) :
    Calls Tryz.prog 177 #[.pointer (some ⟨b, 0, none⟩)] w fun e w' => e = .returned (.bool (dotL (ys.drop seg))) ∧ ∃ n, w' = w.drewN n := by
  obtain ⟨v, hh, hown⟩ := h
  obtain ⟨g, cap, rfl⟩ := own_form hown h0
  obtain ⟨hm1, hm2⟩ := own_max hown
  have k0 : w.cell? ⟨b, 0, none⟩ = some (.slice (some ⟨g, 0, none⟩) ys.length cap) := by simp [World.cell?, hh]
  have k1 : w.cell? ⟨b, 1, none⟩ = some (.int .i64 (seg : Int)) := by simp [World.cell?, hh]
  have hcv : ∀ W : World, (∀ a : Addr, W.cell? a = w.cell? a) → (convert 37 76 (.slice (if cap = seg then some ⟨g, 0, none⟩ else some ⟨g, seg, none⟩) (ys.length - seg) (cap - seg))).run Tryz.prog W = .ok (.string ⟨(ys.drop seg).toArray⟩) W := by
    intro W hW
    have hl : ys.length - seg = (ys.drop seg).length := by simp
    rw [hl]
    have key : ∀ o : Nat, (o = seg ∨ ys.length ≤ seg) → (convert 37 76 (.slice (some ⟨g, o, none⟩) (ys.drop seg).length (cap - seg))).run Tryz.prog W = .ok (.string ⟨(ys.drop seg).toArray⟩) W := by
      intro o ho
      refine run_convert_bytes_back (P := Tryz.prog) W 37 76 5 ⟨g, o, none⟩ (cap - seg) (ys.drop seg) Tryz.underlying37 Tryz.underlying5 Tryz.underlying76 (fun j hj => ?_)
      have hj2 : seg + j < ys.length := by simp at hj; omega
      obtain rfl : o = seg := by omega
      have hadd : (⟨g, o, none⟩ : Addr).add j = ⟨g, o + j, none⟩ := by unfold Addr.add; split <;> simp_all
      rw [hadd, hW, own_cell hown (u8s_at hj2), List.getElem_drop]
    by_cases hc : cap = seg
    · rw [if_pos hc]; exact key 0 (by omega)
    · rw [if_neg hc]; exact key seg (.inl rfl)
  have hcd := hcv w.drew (fun _ => rfl)
  have c1 := fun W => textcut ⟨(ys.drop seg).toArray⟩ 63 W (by rw [size_len]; unfold maxLen; simp; omega)
  simp only [UInt8.reduceToNat, Int.cast_ofNat_Int] at c1
  have hlen := (cutL_len (ys.drop seg) 63).1
  obtain ⟨R, hR⟩ : ∃ R, R = dotL (ys.drop seg) := ⟨_, rfl⟩
  rw [← hR]
  unfold dotL at hR
  clear hown hh hcv
  generalize cutL (ys.drop seg) 63 = r at *
  obtain ⟨p, r2, r3⟩ := r
  simp only at c1 hR
  generalize ByteArray.mk (ys.drop seg).toArray = os at *
  unfold isDots at hR
  rw [← toList_mk p] at hR
  generalize ByteArray.mk p.toArray = ps at *
  generalize hb1 : (ps.toList == [46]) = b1 at *
  generalize hb2 : (ps.toList == [46, 46]) = b2 at *
  have HR := Lib.hid hR; clear hR
  by_cases hcs : cap = seg
  · subst hcs
    rw [if_pos rfl, show ys.length - cap = 0 from by omega, show cap - cap = 0 from by omega] at hcd
    cases b1
    all_goals go_enter Tryz.func177, Tryz.ntmps177
    all_goals go_wp2_with fail
    all_goals go_region_with (go_at_call 108; refine (c1 _).mono ?_; rintro e w1 ⟨rfl, n1, rfl⟩)
    all_goals go_wp2
    all_goals go_ret
    all_goals exact ⟨by rw [HR.out]; rfl, 1 + n1, rfl⟩
  · rw [if_neg hcs] at hcd
    cases b1
    all_goals go_enter Tryz.func177, Tryz.ntmps177
    all_goals go_wp2_with fail
    all_goals go_region_with (go_at_call 108; refine (c1 _).mono ?_; rintro e w1 ⟨rfl, n1, rfl⟩)
    all_goals go_wp2
    all_goals go_ret
    all_goals exact ⟨by rw [HR.out]; rfl, 1 + n1, rfl⟩
end Go.Proofs.YtbhnjnoblkfckabGreatDoor

