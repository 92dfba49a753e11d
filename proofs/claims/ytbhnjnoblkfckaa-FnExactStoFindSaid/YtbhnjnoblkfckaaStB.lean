/- Storage: a chain with a link more, in memory; no function of the program. -/
import Derived.Test.YtbhnjnoblkfckaaStM
import Derived.LaidEqlPtr
namespace Go.Proofs.Ytbhnjnoblkfckaa
open Go.RowKit Go.Maps

theorem Chn.new {w : World} {c mb B N : Nat} {L : List (Nat × En)} (h : Chn w c mb B N L) : w.heap.size ∉ L.map (·.1) ∧ w.heap.size ≠ c ∧ w.heap.size ≠ mb ∧ B ≤ w.heap.size :=
  ⟨fun hm => by have := (h.cs (j := w.heap.size) (.inr (.inr hm))).2; omega, fun e => by have := (h.cs (j := c) (.inl rfl)).2; omega, fun e => by have := (h.cs (j := mb) (.inr (.inl rfl))).2; omega, by have := h.cs (j := c) (.inl rfl); omega⟩
theorem Chn.owned {w : World} {c mb B N : Nat} {L : List (Nat × En)} (h : Chn w c mb B N L) : ∃ D, w.ownsMap Try.prog 46 lkElem mb N D ∧ MapK D L := h.map
/-- The head's link is told of the new one. -/
def told (w : World) (L : List (Nat × En)) (b : Nat) : World := match hdB L with
  | none => w
  | some b1 => w.setCell ⟨b1, 11, none⟩ (ptrO (some b))
theorem told_grown (w : World) (L : List (Nat × En)) (b : Nat) : w.grownBy (told w L b) (hdB L) := by
  unfold told
  cases hdB L with
  | none => exact World.grownBy.refl _ _
  | some b1 => exact ⟨rfl, rfl, rfl, by simp, fun j _ hj => set_other (fun e => hj (by rw [e]))⟩
theorem chn_push {w w2 : World} {c mb B N : Nat} {L : List (Nat × En)} {e : En} {D : DataW Unit} (h : Chn w c mb B N L) (he : EnOk 1048576 e) (hK : MapK D L)
    (hg : ((told (w.alloc (.cells (lkC e none (hdB L) (firstK e.place e.mask L)) 60)) L w.heap.size).setCell ⟨c, 0, none⟩ (ptrO (some w.heap.size))).grownBy w2 (some mb))
    (hown : w2.ownsMap Try.prog 46 lkElem mb (N + 1) (D.put (keL e.place e.mask) (lkD (some w.heap.size)))) : Chn w2 c mb B (N + 1) ((w.heap.size, e) :: L) ∧ Only (Cs c mb L) w w2 := by
  obtain ⟨n1, n2, n3, n4⟩ := h.new
  obtain ⟨dom, ah, nx, tw, hM, hL, hd⟩ := h.links
  have hcs : ∀ x ∈ L, x.1 < w.heap.size := fun x hx => (h.cs (.inr (.inr (List.mem_map.2 ⟨x, hx, rfl⟩)))).2
  have hcl : c < w.heap.size := (h.cs (.inl rfl)).2
  have hml : mb < w.heap.size := (h.cs (.inr (.inl rfl))).2
  obtain ⟨w1, hw1⟩ : ∃ w1, w1 = w.alloc (.cells (lkC e none (hdB L) (firstK e.place e.mask L)) 60) := ⟨_, rfl⟩
  rw [← hw1] at hg
  have hb1 : Below w.heap.size w w1 := by rw [hw1]; exact (Below.refl _ _).alloc (Nat.le_refl _) _
  have hs1 : w1.heap.size = w.heap.size + 1 := by rw [hw1]; simp
  have hn1 : w1.heap[w.heap.size]? = some (lkO e none (hdB L) (firstK e.place e.mask L)) := by rw [hw1]; exact heap_alloc_new w _
  clear hw1
  have htg := told_grown w1 L w.heap.size
  have hsz2 : (told w1 L w.heap.size).heap.size = w1.heap.size := by unfold told; cases hdB L <;> simp
  have hhd : ∀ b, hdB L = some b → b < w.heap.size ∧ b ≠ c ∧ b ≠ mb := fun b hb => by
    obtain ⟨x, hx, rfl⟩ := List.mem_map.1 (hdB_mem hb)
    exact ⟨hcs x hx, (h.far x hx).2⟩
  -- what a block holds at last
  have key : ∀ j, j < w1.heap.size → j ≠ c → j ≠ mb → w2.heap[j]? = (told w1 L w.heap.size).heap[j]? := fun j hj hc hm =>
    (hg.block j (by simp; omega) (fun e => hm (by injection e))).trans (set_other hc)
  have keyc : w2.heap[c]? = some (chO (some w.heap.size) mb) := by
    rw [hg.block c (by simp; omega) (fun e => h.low.2.2 (by injection e))]
    refine chO_set (f := hdB L) ?_ _
    rw [htg.block c (by omega) (fun e => (hhd c e.symm).2.1 rfl), hb1.block c hcl]
    exact h.head
  refine ⟨⟨keyc, ⟨fun j => if j = w.heap.size then some e else if j ∈ L.map (·.1) then dom j else none, fun j => if j = w.heap.size then none else if hdB L = some j then some w.heap.size else ah j, fun j => if j = w.heap.size then hdB L else nx j, fun j => if j = w.heap.size then firstK e.place e.mask L else tw j, ?_, ?_, ?_⟩, ?_, ?_, h.low, ⟨_, hown, ?_⟩, ?_⟩, ?_⟩
  · intro j f hj
    dsimp only at hj ⊢
    by_cases q : j = w.heap.size
    · subst q
      simp only [if_true] at hj ⊢
      cases hj
      rw [key _ (by omega) n2 n3, htg.block _ (by omega) (fun e => by have := (hhd _ e.symm).1; omega)]
      exact hn1
    · simp only [if_neg q] at hj ⊢
      split at hj
      · rename_i hm
        obtain ⟨x, hx, rfl⟩ := List.mem_map.1 hm
        rw [key _ (by have := hcs x hx; omega) (h.far x hx).2.1 (h.far x hx).2.2]
        have hold : w1.heap[x.1]? = some (lkO f (ah x.1) (nx x.1) (tw x.1)) := (hb1.block _ (hcs x hx)).trans (hM _ _ hj)
        unfold told
        cases hh : hdB L with
        | none => simpa using hold
        | some b1 =>
          dsimp only
          by_cases q2 : b1 = x.1
          · subst q2
            rw [if_pos rfl]
            exact lkO_setA hold _
          · rw [if_neg (fun e => q2 (by injection e)), set_other (Ne.symm q2)]; exact hold
      · cases hj
  · refine lk_push h.nodup n1 hL (by simp) (by simp) (by simp) (fun x hx => ?_) (fun x hx => ?_) (fun x hx => ?_)
    all_goals
      have hne : x ≠ w.heap.size := fun e => n1 (e ▸ hx)
      first | rw [if_neg hne] | (simp only [if_neg hne])
  · intro x hx
    rcases List.mem_cons.1 hx with rfl | hx
    · simp
    · have hne : x.1 ≠ w.heap.size := fun e => by have := hcs x hx; omega
      dsimp only
      rw [if_neg hne, if_pos (List.mem_map.2 ⟨x, hx, rfl⟩)]; exact hd x hx
  · simp only [List.map_cons, List.nodup_cons]; exact ⟨n1, h.nodup⟩
  · intro x hx
    rcases List.mem_cons.1 hx with rfl | hx
    · exact ⟨n4, n2, n3⟩
    · exact h.far x hx
  · refine mapk_set hK (Nat.le_trans he.place (by decide)) he.wf ?_ (fun q k hq => ?_)
    · rw [firstK_cons, if_pos (isK_self e)]
    · rw [firstK_cons, if_neg]
      intro hk
      exact hq (isK_iff.1 hk)
  · intro x hx
    rcases List.mem_cons.1 hx with rfl | hx
    · exact he
    · exact h.ok x hx
  · have o1 : Only (Cs c mb L) w w1 := only_of_below hb1
    have o2 : Only (Cs c mb L) w1 (told w1 L w.heap.size) := only_of_grown htg fun j hj => .inr (.inr (hdB_mem hj))
    exact ((o1.trans o2).trans (only_set _ c 0 _ (.inl rfl))).trans (only_of_grown hg fun j hj => by injection hj with hj; subst hj; exact .inr (.inl rfl))

/-! ### two links compared -/
theorem infoLk : ∃ j, Try.prog.info? 60 = some j ∧ j.size ≠ 0 := by
  have h : (Try.prog.info? 60).map (·.size) = some 14 := by kernel_rfl
  cases hj : Try.prog.info? 60 with
  | none => rw [hj] at h; cases h
  | some j =>
    rw [hj] at h
    refine ⟨j, rfl, fun e => ?_⟩
    simp [e] at h
theorem eql_same (w : World) (b : Nat) : (binOp .eql 41 (.pointer (some ⟨b, 0, none⟩)) (.pointer (some ⟨b, 0, none⟩))).run Try.prog w = .ok (.bool true) w := by
  obtain ⟨j, hj, _⟩ := infoLk
  exact run_eql_ptr_same w _ Try.underlying41 hj
theorem eql_other {w : World} {x b : Nat} {e f : En} {a1 n1 t1 a2 n2 t2 : Option Nat} (hne : x ≠ b) (hx : w.heap[x]? = some (lkO e a1 n1 t1)) (hb : w.heap[b]? = some (lkO f a2 n2 t2)) :
    (binOp .eql 41 (.pointer (some ⟨x, 0, none⟩)) (.pointer (some ⟨b, 0, none⟩))).run Try.prog w = .ok (.bool false) w := by
  obtain ⟨j, hj, hs⟩ := infoLk
  exact run_eql_ptr_other w Try.underlying41 hj hs (fun e => hne (by injection e)) hx hb
theorem neq_of_eql {P : Program} {w : World} {t : TypeId} {x y : Option Addr} {z : Bool} (h : (binOp .eql t (.pointer x) (.pointer y)).run P w = .ok (.bool z) w) : (binOp .neq t (.pointer x) (.pointer y)).run P w = .ok (.bool (!z)) w := by
  simp only [binOp] at h ⊢
  cases hh : (Op.equal t (.pointer x) (.pointer y)).run P w <;> simp_all
theorem neq_same (w : World) (b : Nat) : (binOp .neq 41 (.pointer (some ⟨b, 0, none⟩)) (.pointer (some ⟨b, 0, none⟩))).run Try.prog w = .ok (.bool false) w := neq_of_eql (eql_same w b)
theorem neq_other {w : World} {x b : Nat} {e f : En} {a1 n1 t1 a2 n2 t2 : Option Nat} (hne : x ≠ b) (hx : w.heap[x]? = some (lkO e a1 n1 t1)) (hb : w.heap[b]? = some (lkO f a2 n2 t2)) :
    (binOp .neq 41 (.pointer (some ⟨x, 0, none⟩)) (.pointer (some ⟨b, 0, none⟩))).run Try.prog w = .ok (.bool true) w := neq_of_eql (eql_other hne hx hb)
end Go.Proofs.Ytbhnjnoblkfckaa
