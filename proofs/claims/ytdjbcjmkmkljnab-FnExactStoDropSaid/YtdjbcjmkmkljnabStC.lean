/- Walks: links, by the program: a link's going is told to its twins. -/
import Derived.Test.YtdjbcjmkmkljnabStB
import Derived.Test.YtdjbcjmkmkljnabReg
import Derived.RegionTactic
import Derived.ChangeAlike
import Derived.Deep.RegionLaw
import Derived.Deep.LoopGhost
namespace Go.Proofs.Ytdjbcjmkmkljnab
open Go.RowKit Go.Maps

def Tws (tw : Nat → Option Nat) : List (Nat × En) → Prop
  | [] => True
  | (b, e) :: r => tw b = firstK e.place e.mask r ∧ Tws tw r
theorem Lk.tws {ah nx tw : Nat → Option Nat} : ∀ {L : List (Nat × En)} {p : Option Nat}, Lk ah nx tw p L → Tws tw L
  | [], _, _ => trivial
  | _ :: _, _, h => ⟨h.2.2.1, h.2.2.2.tws⟩
theorem tws_at {tw : Nat → Option Nat} {b : Nat} {e : En} {B : List (Nat × En)} : ∀ {A : List (Nat × En)}, Tws tw (A ++ (b, e) :: B) → tw b = firstK e.place e.mask B
  | [], h => h.1
  | _ :: A, h => tws_at (A := A) h.2
theorem firstK_split {p : ByteArray} {m : Int} : ∀ {A : List (Nat × En)} {x : Nat}, firstK p m A = some x → ∃ A1 f A2, A = A1 ++ (x, f) :: A2 ∧ isK p m f = true
  | [], _, h => by cases h
  | (y, g) :: r, x, h => by
    rw [firstK_cons] at h
    split at h
    · rename_i hg
      cases h
      exact ⟨[], g, r, rfl, hg⟩
    · obtain ⟨A1, f, A2, rfl, hf⟩ := firstK_split h
      exact ⟨(y, g) :: A1, f, A2, rfl, hf⟩
theorem endK_at {p : ByteArray} {m : Int} {x : Nat} {f : En} {A2 : List (Nat × En)} (hf : isK p m f = true) (h : endK p m A2 = none) : ∀ {A1 : List (Nat × En)}, endK p m (A1 ++ (x, f) :: A2) = some x
  | [] => by
    show endK p m ((x, f) :: A2) = some x
    rw [endK_cons, h]; simp [hf]
  | a :: A1 => by
    show endK p m (a :: (A1 ++ (x, f) :: A2)) = some x
    rw [endK_cons, endK_at hf h]
theorem first_end {p : ByteArray} {m : Int} {A : List (Nat × En)} : endK p m A = none ↔ firstK p m A = none := by rw [endK_none, firstK_none]
theorem firstK_key {p : ByteArray} {m : Int} {f : En} (h : isK p m f = true) (L : List (Nat × En)) : firstK f.place f.mask L = firstK p m L := by
  obtain ⟨h1, h2⟩ := isK_iff.1 h
  rw [h1, h2]
theorem firstK_without {p : ByteArray} {m : Int} {A R : List (Nat × En)} {b : Nat} {e : En} (h : isK p m e = false) : firstK p m (A ++ R) = firstK p m (A ++ (b, e) :: R) := by
  rw [firstK_append, firstK_append, firstK_cons, h]; simp

/-- 'delete(m, k)' as one step of a region that draws. -/
theorem step_delete {P : Program} {ops : Array Oper} {o : Oper} {a : Act} {w w' : World} {K : Act → World → Prop} {Q : Exit → Act → World → Prop} {E : Prop}
    (hg : o.guard = none) (m x : Operand) (t k : TypeId) (hop : o.op = Op.call { callee := Callee.builtin Builtin.delete, args := #[m, x], argTypes := #[t, k] })
    (u v : Value) (hm : a.eval m = u) (hx : a.eval x = v) (hrun : (Builtin.delete_ #[t, k] o.type #[u, v]).run P w = .ok (.tuple #[]) w') (hK : K (a.put o.dst (.tuple #[])) w') :
    if Region.wanted o (yielded ops a.tmps) = true then Oper.wp P o a w K Q else E := by
  have hw : Region.wanted o (yielded ops a.tmps) = true := by simp [Region.wanted, hg]
  rw [if_pos hw]
  unfold Oper.wp
  simp [execOp, hop, resolve, invoke, builtin, hm, hx, hrun, Result.andThen]
  exact hK

/-- What is left when a link's twins have been told. -/
def FgPost (mb N : Nat) (A : List (Nat × En)) (e : En) (R : List (Nat × En)) (w : World) (e' : Ending) (w' : World) : Prop :=
  e' = .returned (.tuple #[]) ∧ ((∃ x n, endK e.place e.mask A = some x ∧ w' = (w.setCell ⟨x, 13, none⟩ (ptrO (firstK e.place e.mask R))).drewN n) ∨
    (endK e.place e.mask A = none ∧ w.grownBy w' (some mb) ∧ ∃ D', w'.ownsMap Try.prog 51 lkElem mb (N + 1) D' ∧ MapK D' (A ++ R)))

set_option maxRecDepth 100000 in
set_option maxHeartbeats 1600000 in
theorem forget_none (c mb N b : Nat) (A R : List (Nat × En)) (e : En) (fz : Option Nat) (w : World) (dom : Nat → Option En) (ah nx tw : Nat → Option Nat) (hh : w.heap[c]? = some (chO fz mb)) (hM : Mem w dom ah nx tw) (hT : Tws tw (A ++ (b, e) :: R))
    (hd : dom b = some e) (D : DataW Unit) (hD : w.ownsMap Try.prog 51 lkElem mb N D) (hK : MapK D (A ++ (b, e) :: R)) (he : EnOk 1048576 e) (hN : N < maxLen) (hA : endK e.place e.mask A = none) :
    Calls Try.prog 40 #[.pointer (some ⟨c, 0, none⟩), .pointer (some ⟨b, 0, none⟩)] w (FgPost mb N A e R w) := by
  have hp1 : e.place.size ≤ maxLen := Nat.le_trans he.place (by decide)
  have hkey := keyOf_ke (p := e.place) (m := e.mask) hp1 he.wf
  have hmt := Try.underlying71
  have hA1 := first_end.1 hA
  obtain ⟨v, ps, hrun, hR⟩ := hD.drew.lookup lawKe hmt (z := .pointer none) (by kernel_rfl) (zd := .nil) (zp := []) rfl hkey
  rw [(hK.2 e.place e.mask hp1 he.wf).2, firstK_append, hA1, firstK_cons, if_pos (isK_self e)] at hR
  obtain rfl := lkElem_inv hR
  replace hrun : _ = Result.ok (Value.pointer (some ⟨b, 0, none⟩)) _ := hrun
  obtain ⟨-, q1, -⟩ := ch_facts hh
  obtain ⟨⟨x0, x1⟩, -, -, -, x13⟩ := lk_facts (hM b e hd)
  rw [tws_at hT] at x13
  cases ht : firstK e.place e.mask R with
  | some t =>
    rw [ht] at x13
    replace x13 : _ = some (Value.pointer (some ⟨t, 0, none⟩)) := x13
    obtain ⟨w2, hup, hown, hg⟩ := hD.drew.drew.update lawKe hmt hN hkey (lkElem_mk (some t))
    replace hup : (Instr.mapUpdate _ (.map (some mb)) (.agg #[.string e.place, .int .i64 e.mask]) (.pointer (some ⟨t, 0, none⟩))).run Try.prog w.drew.drew = .ok () w2 := hup
    have HF : Hid (FgPost mb N A e R w (.returned (.tuple #[])) w2) := Lib.hid ⟨rfl, .inr ⟨hA, ⟨hg.os, hg.tape, hg.output, hg.size, hg.block⟩, _, hown, mapk_set hK hp1 he.wf (by rw [firstK_append, hA1, ht]; rfl) (fun q k hq => firstK_without (by rw [Bool.eq_false_iff]; exact fun hk => hq (isK_iff.1 hk)))⟩⟩
    have hne := neq_same w.drew b
    clear hR hown hg hkey hK hA hA1 hT hD hh hM hd ht he
    go_enter Try.func40, Try.ntmps40
    go_wp2_with fail
    go_region
    go_wp2_with fail
    go_region
    go_end0
    exact HF.out
  | none =>
    rw [ht] at x13
    replace x13 : _ = some (Value.pointer none) := x13
    obtain ⟨w2, hup, hown, hg⟩ := hD.drew.drew.drop lawKe hmt hkey 0
    replace hg := hg.grown
    have HF : Hid (FgPost mb N A e R w (.returned (.tuple #[])) w2) := Lib.hid ⟨rfl, .inr ⟨hA, ⟨hg.os, hg.tape, hg.output, hg.size, hg.block⟩, _, hown.mono (Nat.le_succ _), mapk_del hK hp1 he.wf (by rw [firstK_append, hA1, ht]; rfl) (fun q k hq => firstK_without (by rw [Bool.eq_false_iff]; exact fun hk => hq (isK_iff.1 hk)))⟩⟩
    have HU := Lib.hid hup
    have hne := neq_same w.drew b
    clear hR hown hg hkey hK hA hA1 hT hD hh hM hd ht he hup
    go_enter Try.func40, Try.ntmps40
    go_wp2_with fail
    go_region
    go_wp2_with fail
    go_region_law (refine step_delete rfl (.tmp 17) (.tmp 21) _ _ rfl _ _ (by simp [Act.eval]) (by simp [Act.eval]) HU.out ?_)
    all_goals
      go_end0
      exact HF.out

set_option maxRecDepth 100000 in
set_option maxHeartbeats 1600000 in
theorem forget_some (c mb N b xl : Nat) (A R : List (Nat × En)) (e : En) (fz : Option Nat) (w : World) (dom : Nat → Option En) (ah nx tw : Nat → Option Nat) (hh : w.heap[c]? = some (chO fz mb)) (hM : Mem w dom ah nx tw) (hT : Tws tw (A ++ (b, e) :: R))
    (hd : ∀ x ∈ A ++ (b, e) :: R, dom x.1 = some x.2) (hn : ((A ++ (b, e) :: R).map (·.1)).Nodup) (D : DataW Unit) (hD : w.ownsMap Try.prog 51 lkElem mb N D) (hK : MapK D (A ++ (b, e) :: R)) (he : EnOk 1048576 e) (hA : endK e.place e.mask A = some xl) :
    Calls Try.prog 40 #[.pointer (some ⟨c, 0, none⟩), .pointer (some ⟨b, 0, none⟩)] w (FgPost mb N A e R w) := by
  have hp1 : e.place.size ≤ maxLen := Nat.le_trans he.place (by decide)
  have hkey := keyOf_ke (p := e.place) (m := e.mask) hp1 he.wf
  have hmt := Try.underlying71
  obtain ⟨x0, hx0⟩ : ∃ x0, firstK e.place e.mask A = some x0 := by
    cases hf : firstK e.place e.mask A with
    | some x => exact ⟨x, rfl⟩
    | none => rw [first_end.2 hf] at hA; cases hA
  obtain ⟨v, ps, hrun, hR⟩ := hD.drew.lookup lawKe hmt (z := .pointer none) (by kernel_rfl) (zd := .nil) (zp := []) rfl hkey
  rw [(hK.2 e.place e.mask hp1 he.wf).2, firstK_append, hx0] at hR
  obtain rfl := lkElem_inv hR
  replace hrun : _ = Result.ok (Value.pointer (some ⟨x0, 0, none⟩)) _ := hrun
  obtain ⟨-, q1, -⟩ := ch_facts hh
  have hb := hM b e (hd (b, e) (by simp))
  obtain ⟨⟨k0, k1⟩, -, -, -, x13⟩ := lk_facts hb
  rw [tws_at hT] at x13
  have hdist : ∀ x ∈ A, x.1 ≠ b := fun x hx ec => by
    rw [List.map_append, List.nodup_append] at hn
    exact hn.2.2 x.1 (List.mem_map.2 ⟨x, hx, rfl⟩) b (by simp) ec
  obtain ⟨A1, f0, A2, hsp, hf0⟩ := firstK_split hx0
  have hne0 := neq_other (w := w.drew) (hdist (x0, f0) (by rw [hsp]; simp)) (hM x0 f0 (hd (x0, f0) (by rw [hsp]; simp))) hb
  -- what is read at a twin
  have hat : ∀ B1 x f B2, A = B1 ++ (x, f) :: B2 → isK e.place e.mask f = true → w.drew.cell? ⟨x, 13, none⟩ = some (ptrO ((firstK e.place e.mask B2).or (some b))) ∧ w.drew.frozen? ⟨x, 13, none⟩ = false ∧ (endK e.place e.mask B2 = none → x = xl) := fun B1 x f B2 hs hf => by
    have hx := hM x f (hd (x, f) (by rw [hs]; simp))
    obtain ⟨-, -, -, -, y13⟩ := lk_facts hx
    have h2 : tw x = firstK f.place f.mask (B2 ++ (b, e) :: R) := tws_at (A := B1) (by rw [hs] at hT; simpa using hT)
    rw [h2, firstK_key hf, firstK_append, firstK_cons, if_pos (isK_self e)] at y13
    refine ⟨y13, lk_frozen hx 13, fun h0 => ?_⟩
    have := endK_at (x := x) hf h0 (A1 := B1)
    rw [← hs, hA] at this
    cases this; rfl
  have hnq : ∀ x f, (x, f) ∈ A → (binOp .neq 52 (.pointer (some ⟨x, 0, none⟩)) (.pointer (some ⟨b, 0, none⟩))).run Try.prog w.drew = .ok (.bool true) w.drew := fun x f hx =>
    neq_other (w := w.drew) (hdist (x, f) hx) (hM x f (hd (x, f) (List.mem_append_left _ hx))) hb
  have HF : Hid (∀ n, FgPost mb N A e R w (.returned (.tuple #[])) ((w.drewN n).setCell ⟨xl, 13, none⟩ (ptrO (firstK e.place e.mask R)))) := Lib.hid fun n => ⟨rfl, .inl ⟨xl, n, hA, rfl⟩⟩
  have hbb := neq_same w.drew b
  have hxb : xl ≠ b := by
    obtain ⟨x, hx, ex⟩ := List.mem_map.1 (endK_mem hA)
    rw [← ex]; exact hdist x hx
  have HAt := Lib.hid hat
  have HNq := Lib.hid hnq
  have HSp := Lib.hid hsp
  have HF0 := Lib.hid hf0
  unfold ptrO at HF x13
  obtain ⟨zr, hzr⟩ : ∃ zr, zr = adO (firstK e.place e.mask R) := ⟨_, rfl⟩
  rw [← hzr] at HF x13
  have Hxb := Lib.hid hxb
  clear hR hkey hK hA hT hD hh hM hd hn he hat hnq hsp hf0 hx0 hzr hdist hb hxb
  go_enter Try.func40, Try.ntmps40
  go_wp2_with fail
  go_region
  clear hrun k0 k1
  go_wp2_with fail
  go_loopg [4] A2.length (fun k t wr => wr = w.drew ∧ ∃ B1 x f B2, t = .pointer (some ⟨x, 0, none⟩) ∧ A = B1 ++ (x, f) :: B2 ∧ isK e.place e.mask f = true ∧ B2.length = k)
  case atStart => exact ⟨rfl, A1, x0, f0, A2, rfl, HSp.out, HF0.out, rfl⟩
  case round =>
    obtain ⟨rfl, B1, x, f, B2, rfl, hs, hf, hk⟩ := hrel
    obtain ⟨h13, hz, hend⟩ := HAt.out B1 x f B2 hs hf
    have hnx := HNq.out x f (by rw [hs]; simp)
    cases hq : firstK e.place e.mask B2 with
    | none =>
      rw [hq] at h13
      replace h13 : w.cell? ⟨x, 13, none⟩ = some (Value.pointer (some ⟨b, 0, none⟩)) := h13
      replace hz : w.frozen? ⟨x, 13, none⟩ = false := hz
      have hx : x = xl := hend (first_end.2 hq)
      subst hx
      clear hs hf hk hq hend hne0 HSp HF0 HAt
      go_wp2
      go_end0
      exact HF.out 1
    | some y =>
      rw [hq] at h13
      replace h13 : w.cell? ⟨x, 13, none⟩ = some (Value.pointer (some ⟨y, 0, none⟩)) := h13
      obtain ⟨C1, g, C2, hc, hg⟩ := firstK_split hq
      have hny := HNq.out y g (by rw [hs, hc]; simp)
      have HS : Hid (A = (B1 ++ (x, f) :: C1) ++ (y, g) :: C2) := Lib.hid (by rw [hs, hc]; simp)
      have HG := Lib.hid hg
      have HL : Hid (C2.length < gk) := Lib.hid (by rw [← hk, hc]; simp; omega)
      clear hs hf hk hq hend hc hg hz hnx hne0 HSp HF0 HAt
      go_wp2
      go_roundg C2.length
      case measure => exact HL.out
      case rel => exact ⟨rfl, _, y, g, C2, rfl, HS.out, HG.out, rfl⟩

end Go.Proofs.Ytdjbcjmkmkljnab
