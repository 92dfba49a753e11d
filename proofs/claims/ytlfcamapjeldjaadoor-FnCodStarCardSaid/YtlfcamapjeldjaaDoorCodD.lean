/- Walks: the drawing of qualities, sets and codings; what the drawn qualities say. -/
import Derived.Test.YtlfcamapjeldjaaDoorCodP
import Derived.Test.YtlfcamapjeldjaaDoorCodQ
import Derived.Test.YtlfcamapjeldjaaDoorMaskP
import Derived.Test.YtlfcamapjeldjaaDoorDraw3
namespace Go.Proofs.YtlfcamapjeldjaaDoor
open Go.RowKit

def qLits : List (List UInt8) := [[48], [49], [48, 46, 53], [48, 46, 49, 50, 53], [49, 46, 48, 48, 48], [49, 46, 48, 48, 49], [48, 46], [49, 46], [], [48, 46, 49, 50, 51, 52], [50], [48, 46, 53, 97], [48, 44, 53], [46, 53], [48, 49]]
def qLit (r : Nat) : List UInt8 := qLits.getD r []
theorem qlit_len : ∀ r : Fin 15, (qLit r.val).length ≤ 6 := by decide +kernel

set_option maxRecDepth 100000 in
set_option maxHeartbeats 800000 in
theorem draw_codq (a : Option Addr) (len cap : Nat) (zs : List Int) (w : World) (h : IsRow .u8 w a len cap zs) :
    Calls Tryd.prog 20 #[.slice a len cap] w fun e w' => (∃ r : Fin 15, e = .returned (strV (qLit r.val))) ∧ Below w.heap.size w w' := by
  have HI := Lib.hid h
  clear h
  go_enter Tryd.func20, Tryd.ntmps20
  go_wp2_with fail
  refine (open_any a len cap zs _ HI.out).mono ?_
  rintro e w1 ⟨g, rfl, hr, hb⟩
  have hg := hr.lt
  go_wp2_with fail
  refine (pick_lit g 15 15 rfl (by decide) w.heap.size 0 _ (by omega) (by decide) (hr.alloc _)).mono ?_
  rintro e w2 ⟨r, rfl, hr15, hrq, hd⟩
  have hs : w2.cell? ⟨w1.heap.size, r, none⟩ = some (strV (qLit r)) := lit_cell hd hg (by
    match r, hr15 with
    | 0, _ => rfl
    | 1, _ => rfl
    | 2, _ => rfl
    | 3, _ => rfl
    | 4, _ => rfl
    | 5, _ => rfl
    | 6, _ => rfl
    | 7, _ => rfl
    | 8, _ => rfl
    | 9, _ => rfl
    | 10, _ => rfl
    | 11, _ => rfl
    | 12, _ => rfl
    | 13, _ => rfl
    | 14, _ => rfl
    )
  have hfin := hb.trans ((hd.of_alloc.below hg).mono (by exact Nat.le_refl _))
  have HR := Lib.hid hr15
  clear hd hr15
  unfold strV at hs
  go_wp2
  go_ret
  exact ⟨⟨⟨r, HR.out⟩, rfl⟩, hfin⟩

/-- What the drawn qualities say, told of a star. -/
def starB (r : Nat) : Bool :=
  if (codQ (qLit r)).2 = true then
    match codParse ([42, 59, 113, 61] ++ qLit r), codParse ([103, 122, 44, 32, 42, 59, 113, 61] ++ qLit r) with
    | some a, some b => decide (maskL a = if 0 < (codQ (qLit r)).1 then 7 else 0) && inB (maskL b) 1 && decide (inB (maskL b) 2 = decide (0 < (codQ (qLit r)).1))
    | _, _ => false
  else (codParse ([42, 59, 113, 61] ++ qLit r)).isNone
theorem star_all : ∀ r : Fin 15, starB r.val = true := by decide +kernel

theorem q_pad (d : List UInt8) (hd : d.length ≤ 2) : (d ++ [48]) ++ List.replicate (3 - (d ++ [48]).length) (48 : UInt8) = d ++ List.replicate (3 - d.length) 48 := by
  match d, hd with
  | [], _ => rfl
  | [x], _ => rfl
  | [x, y], _ => rfl
  | _ :: _ :: _ :: _, h => simp at h
/-- One nought more behind the point. -/
theorem q_more {l : List UInt8} {q : Nat} (h : codQ l = (q, true)) (h1 : 1 < l.length) (h5 : l.length < 5) : codQ (l ++ [48]) = (q, true) := by
  cases l with
  | nil => simp at h1
  | cons a l =>
    have hh : (cutL (a :: l) 46).1 = [48] ∨ (cutL (a :: l) 46).1 = [49] := by
      refine Classical.byContradiction fun hc => ?_
      rw [codQ_no (fun h => hc h.1)] at h
      cases h
    obtain ⟨ha, rfl | ⟨d, rfl⟩⟩ := cut_head a l hh
    · simp at h1
    · have e : (a :: 46 :: d) ++ [48] = a :: 46 :: (d ++ [48]) := rfl
      rw [e, codQ_dot ha]
      rw [codQ_dot ha] at h
      have hd : d.length ≤ 2 := by simp at h5; omega
      split at h
      · rename_i hc
        obtain ⟨c1, c2, c3⟩ := hc
        have hv : qVal a (d ++ [48]) = qVal a d := by
          have hl := q_pad d hd
          unfold qVal
          rw [hl]
        rw [if_pos ⟨by simp; omega, by rw [List.all_append, c2]; decide, by rw [hv]; exact c3⟩, hv]
        exact h
      · cases h
theorem q_le {l : List UInt8} {q : Nat} (h : codQ l = (q, true)) : q ≤ 1000 := by
  unfold codQ at h
  split at h
  · rename_i hc
    simp only [Prod.mk.injEq, and_true] at h
    rw [← h]; exact hc.2.2.2
  · cases h

set_option maxHeartbeats 400000 in
theorem draw_codtext (a : Option Addr) (len cap : Nat) (zs : List Int) (w : World) (h : IsRow .u8 w a len cap zs) :
    Calls Tryd.prog 10 #[.slice a len cap] w fun e w' => (∃ m : Int, e = .returned (.int .i64 m) ∧ -1 ≤ m ∧ m ≤ 8) ∧ Below w.heap.size w w' := by
  have HI := Lib.hid h
  clear h
  go_enter Tryd.func10, Tryd.ntmps10
  go_wp2_with fail
  refine (open_any a len cap zs _ HI.out).mono ?_
  rintro e w1 ⟨g, rfl, hr, hb⟩
  have hg := hr.lt
  go_wp2_with fail
  refine (pick_lit g 10 10 rfl (by decide) w.heap.size 0 _ (by omega) (by decide) hr).mono ?_
  rintro e w2 ⟨r, rfl, hr10, hrq, hd⟩
  have hfin := hb.trans ((hd.below hg).mono (by exact Nat.le_refl _))
  clear hd
  go_wp2
  go_ret
  exact ⟨⟨_, rfl, by omega, by omega⟩, hfin⟩

set_option maxHeartbeats 400000 in
theorem draw_codin (a : Option Addr) (len cap : Nat) (zs : List Int) (w : World) (h : IsRow .u8 w a len cap zs) :
    Calls Tryd.prog 17 #[.slice a len cap] w fun e w' => (∃ m c : Int, e = .returned (.tuple #[.int .i64 m, .int .i64 c]) ∧ -1 ≤ m ∧ m ≤ 8 ∧ -1 ≤ c ∧ c ≤ 3) ∧ Below w.heap.size w w' := by
  have HI := Lib.hid h
  clear h
  go_enter Tryd.func17, Tryd.ntmps17
  go_wp2_with fail
  refine (open_any a len cap zs _ HI.out).mono ?_
  rintro e w1 ⟨g, rfl, hr, hb⟩
  have hg := hr.lt
  go_wp2_with fail
  refine (pick_lit g 10 10 rfl (by decide) w.heap.size 0 _ (by omega) (by decide) hr).mono ?_
  rintro e w2 ⟨r, rfl, hr10, hrq, hd⟩
  go_wp2_with fail
  refine (pick_lit g 5 5 rfl (by decide) w.heap.size (0 + 1) _ (by omega) (by decide) hd.1).mono ?_
  rintro e w3 ⟨r2, rfl, hr5, hrq2, hd2⟩
  have hfin := hb.trans (((hd.trans hd2).below hg).mono (by exact Nat.le_refl _))
  clear hd hd2
  go_wp2
  go_ret2
  exact ⟨⟨_, _, rfl, by omega, by omega, by omega, by omega⟩, hfin⟩
end Go.Proofs.YtlfcamapjeldjaaDoor
