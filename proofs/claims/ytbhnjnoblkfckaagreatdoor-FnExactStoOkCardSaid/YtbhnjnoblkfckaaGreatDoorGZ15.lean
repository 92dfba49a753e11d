import Derived.Test.YtbhnjnoblkfckaaGreatDoorGZ14
import Derived.Test.YtbhnjnoblkfckaaGreatDoorGZ13
import Derived.Test.YtbhnjnoblkfckaaGreatDoorGZ10
-- from XStH
/- Walks: links, by the program: storage made of a chain. -/
namespace Go.Proofs.YtbhnjnoblkfckaaGreatDoor
open Go.RowKit Go.Maps Go.Shelf
attribute [local go_sem] Oper.semAt_some

theorem getLast_take {α : Type} (L : List α) (k : Nat) {x : α} (h : L[k]? = some x) : L.take (k + 1) = L.take k ++ [x] := by rw [List.take_add_one, h]; rfl
/-- What the iterator reads, off a chain that lies. -/
theorem chn_fact {W : World} {c mb B N bx k : Nat} {M : List (Nat × En)} (h : Chn W c mb B N M) (hb : W.cell? ⟨bx, 0, none⟩ = some (.pointer (some ⟨c, 0, none⟩))) : LkFact (M.map (·.1)) bx c k W := by
  refine ⟨fun _ => ⟨hb, ?_⟩, fun j b _ hj => ?_⟩
  · have := (ch_facts h.head).1
    rw [this]
    cases M <;> rfl
  · obtain ⟨x, hx, rfl⟩ : ∃ x, M[j]? = some x ∧ x.1 = b := by simpa using hj
    obtain ⟨hlt, rfl⟩ := List.getElem?_eq_some_iff.1 hx
    have hs : M = M.take j ++ M[j] :: M.drop (j + 1) := by rw [← List.drop_eq_getElem_cons hlt, List.take_append_drop]
    have h2 := h
    rw [hs] at h2
    have := (lk_facts (Chn.link (b := M[j].1) (e := M[j].2) h2)).2.2.2.1
    rw [this]
    unfold hdB
    rw [List.head?_drop, List.getElem?_map]

/-- 'append' on a row of the call's own, as one step of a region that draws, in a round. -/
theorem stepIn_append_own {l nF : Nat} {P : Program} {ops : Array Oper} {o : Oper} {a : Act} {w : World} {K : Act → World → Prop} {Q : Exit → Act → World → Prop} {E : Prop}
    (hg : o.guard = none) (s x : Operand) (t : TypeId) (hop : o.op = Op.call { callee := Callee.builtin Builtin.append, args := #[s, x], argTypes := #[t, t] })
    (base : Nat) (e : TypeId) (i : TypeInfo) (z : Value) (size bytes : Nat) (h1 : P.underlying t = some (.slice e)) (h2 : P.info? e = some i) (h3 : i.zero = some z) (h4 : i.size = size) (h5 : i.bytes = bytes) (h6 : z.cells.size = size) (h7 : 0 < size)
    (v : Value) (n : Nat) (xs : List Value) (hs : a.eval s = v) (hown : w.ownsRow base e size v n xs)
    (ad : Addr) (m c : Nat) (news : List Value) (hx : a.eval x = .slice (some ad) m c) (hn : news.length = m * size) (hc : ∀ j u, news[j]? = some u → w.cell? (ad.add j) = some u) (h1c : ∀ u ∈ news, u.oneCell' = true)
    (b1 : n + m ≤ maxLen) (b2 : (n + m) * bytes ≤ 140737488355328) (hbase : base ≤ w.heap.size)
    (hK : ∀ v' w', w'.ownsRow base e size v' (n + m) (xs ++ news) → w.grownBy w' v.ownBlock → K (a.put o.dst v') w') :
    if Region.wanted o (yielded ops a.tmps) = true then Oper.wpIn (Fence.wide.inRound l) nF P o a w K Q else E := by
  have hw : Region.wanted o (yielded ops a.tmps) = true := by simp [Region.wanted, hg]
  rw [if_pos hw]
  obtain ⟨v', w', hrun, r1, r2, _⟩ := run_append_own (P := P) w base t o.type e i z size bytes h1 h2 h3 h4 h5 h6 h7 v n xs hown ad m c news hn hc h1c b1 b2 hbase
  unfold Oper.wpIn
  refine ⟨fun _ _ => trivial, ?_⟩
  rw [show (Fence.wide.inRound l).round = some l from rfl, Oper.semAt_some l _ o (fun c' h => by rw [hop] at h; cases h)]
  simp [execOp, hop, resolve, invoke, builtin, hs, hx, hrun, Result.andThen]
  exact hK v' w' r1 r2

set_option maxRecDepth 100000 in
set_option maxHeartbeats 3200000 in
theorem store_of (c mb B N : Nat) (M : List (Nat × En)) (w : World) (h : Chn w c mb B N M) (hn : M.length ≤ 2000000) :
    Calls Tryz.prog 56 #[.pointer (some ⟨c, 0, none⟩)] w fun e' w' => ∃ v, e' = .returned (.agg #[v]) ∧ w'.ownsRow w.heap.size 48 9 v M.length (ecells (M.map (·.2))) ∧ Below w.heap.size w w' := by
  have hro : Fence.wide.round = none := rfl
  obtain ⟨i0, hi0, hz0, hz1, hz2⟩ := info_parts Tryz.infoEn
  refine (callsIn_wide (n := 9)).1 ?_
  refine callsIn_of_wp_marks Tryz.func56 rfl trivial ?_ hro
  simp only [Tryz.ntmps56, List.size_toArray, List.length_cons, List.length_nil, Nat.reduceAdd, Nat.reduceSub, Array.replicate_succ, Array.replicate_zero, List.push_toArray, List.append_toArray, List.nil_append, List.cons_append]
  gi_wp2_with (refine ⟨trivial, ?_⟩; gi_at_call 69; refine (links_in _ _ _).mono ?_; rintro e w' ⟨rfl, rfl⟩)
  obtain ⟨W0, hW0⟩ : ∃ W0, ((w.alloc (.cells #[.slice none 0 0] 35)).alloc (.cells #[.slice none 0 0] 35)).alloc (.cells #[.pointer (some ⟨c, 0, none⟩)] 78) = W0 := ⟨_, rfl⟩
  have b2 := Boxed.new ((w.alloc (.cells #[.slice none 0 0] 35)).alloc (.cells #[.slice none 0 0] 35)) 78 (.pointer (some ⟨c, 0, none⟩))
  have b1 := (Boxed.new (w.alloc (.cells #[.slice none 0 0] 35)) 35 (.slice none 0 0)).alloc (.cells #[.pointer (some ⟨c, 0, none⟩)] 78)
  have b0 := ((Boxed.new w 35 (.slice none 0 0)).alloc (.cells #[.slice none 0 0] 35)).alloc (.cells #[.pointer (some ⟨c, 0, none⟩)] 78)
  have hB0 : Below w.heap.size w (((w.alloc (.cells #[.slice none 0 0] 35)).alloc (.cells #[.slice none 0 0] 35)).alloc (.cells #[.pointer (some ⟨c, 0, none⟩)] 78)) := (((Below.refl _ w).alloc (Nat.le_refl _) _).alloc (by simp) _).alloc (by simp; omega) _
  have hsz : (((w.alloc (.cells #[.slice none 0 0] 35)).alloc (.cells #[.slice none 0 0] 35)).alloc (.cells #[.pointer (some ⟨c, 0, none⟩)] 78)).heap.size = w.heap.size + 3 := by simp
  simp only [World.size_alloc] at b0 b1 b2
  rw [hW0] at b0 b1 b2 hB0 hsz ⊢
  have HE := Lib.hid (fun x (hx : x ∈ M) => h.ok x hx)
  have HC : Hid (∀ W, Below w.heap.size w W → Chn W c mb B N M) := Lib.hid fun W hW => h.below hW
  clear hW0 h
  refine wpIn_rangeCnt hro (by decide) (gf := 96) (lb := #[.pointer (some ⟨w.heap.size + 1 + 1, 0, none⟩)]) rfl trivial (enters_of Tryz.func96 (by kernel_rfl) rfl)
    (links_seq 8 (by decide) (M.map (·.1)) (w.heap.size + 1 + 1) c (by simp; omega)) (fun _ => rfl)
    (fun k W => ((∃ v, Boxed W (w.heap.size + 1) 35 v ∧ W.ownsRow w.heap.size 48 9 v k (ecells ((M.map (·.2)).take k)) ∧ True) ∧ Boxed W w.heap.size 35 (.slice none 0 0)) ∧ (Boxed W (w.heap.size + 1 + 1) 78 (.pointer (some ⟨c, 0, none⟩)) ∧ Below w.heap.size w W))
    (fun _ _ _ => False)
    (OwnFrom.and (OwnFrom.and (Own.from (holdsRow_own _ _ _ _ _ _ _ (fun _ _ => True)) _) (Own.from (boxed_own _ _ _) _)) (OwnFrom.and (Own.from (boxed_own _ _ _) _) (ownFrom_below (Nat.le_refl _) (by omega))))
    (fun c => ownFrom_pure _ _)
    (fun k W hI => chn_fact (HC.out W hI.2.2) hI.2.1.cell)
    ⟨⟨⟨_, b1, World.ownsRow_nil _ _ _ _, trivial⟩, b0⟩, b2, hB0⟩
    (fun k => { tmps := #[.pointer (some ⟨c, 0, none⟩), undef, .pointer (some ⟨w.heap.size, 0, none⟩), .pointer (some ⟨w.heap.size + 1, 0, none⟩), undef, .pointer (adO (M.map (·.1))[k]?), .pointer (some ⟨c, 0, none⟩), .func (.func 96) #[] #[.pointer (some ⟨w.heap.size + 1 + 1, 0, none⟩)], .int .i64 (k : Int), .pointer (adO (M.map (·.1))[k]?), undef, undef, undef, undef, undef, undef, undef, undef, undef, undef, undef], defers := [] })
    ?assign ?body ?done ?stop
  case assign =>
    intro l k W K hK
    unfold lkEnc ptrO
    generalize adO (M.map (·.1))[k]? = z at hK ⊢
    gi_wp2
    exact hK
  case body =>
    rintro l k W hl ⟨r, hr⟩ hk ⟨⟨⟨v, hv, hown, -⟩, hb0⟩, hb2, hBw⟩
    obtain ⟨x, hx⟩ : ∃ x, M[k]? = some x := ⟨_, List.getElem?_eq_getElem (by simpa using hk)⟩
    have hps : (M.map (·.1))[k]? = some x.1 := by rw [List.getElem?_map, hx]; rfl
    rw [hps]
    show Code.wpIn _ _ _ _ _ { tmps := #[_, _, _, _, _, .pointer (some ⟨x.1, 0, none⟩), _, _, _, .pointer (some ⟨x.1, 0, none⟩), _, _, _, _, _, _, _, _, _, _, _], defers := [] } _
    gi_wp2_with fail
    have hsW := hBw.size
    have hCW := HC.out W hBw
    have HRow : Hid (∀ r, v.ownBlock = some r → r < W.heap.size ∧ w.heap.size ≤ r) := Lib.hid fun r hr => by have := hown.lt r hr; exact ⟨this.2, this.1⟩
    have hV : ∀ W7, W.grownBy W7 v.ownBlock → Boxed W7 (w.heap.size + 1) 35 v := fun W7 hg => hv.kept hg (hv.not_row (by decide) hown)
    have HX : Hid (∀ W7, W.grownBy W7 v.ownBlock → EAt W7 x.1 2 x.2) := Lib.hid fun W7 hg => by
      obtain ⟨hlt, hx'⟩ := List.getElem?_eq_some_iff.1 hx
      have hs : M = M.take k ++ M[k] :: M.drop (k + 1) := by rw [← List.drop_eq_getElem_cons hlt, List.take_append_drop]
      rw [hx'] at hs
      have h2 := hCW
      rw [hs] at h2
      have hl := Chn.link (b := x.1) (e := x.2) h2
      have hltw := (HC.out w (Below.refl _ _)).cs (j := x.1) (.inr (.inr (List.mem_map.2 ⟨x, List.mem_of_getElem? hx, rfl⟩)))
      have hl7 := (hg.block x.1 (Array.getElem?_eq_some_iff.1 hl).1 (fun e => by have := HRow.out _ e.symm; omega)).trans hl
      obtain ⟨-, ⟨y0, y1, y2, y3, y4, y5, y6, y7, y8⟩, -⟩ := lk_facts hl7
      exact ⟨y0, y1, y2, y3, y4, y5, y6, y7, y8⟩
    have HFr : Hid (∀ W, Calls Tryz.prog 82 #[.agg #[.string x.2.place, .int .i64 x.2.mask, .int .i64 x.2.rsp.code, .int .i64 x.2.rsp.mx, .bool x.2.rsp.hide, .string x.2.rsp.tag, .int .i64 x.2.rsp.cod, .string x.2.rsp.body, .int .i64 x.2.tm]] W fun e' w' => e' = .returned (.agg #[.string x.2.place, .int .i64 x.2.mask, .int .i64 x.2.rsp.code, .int .i64 x.2.rsp.mx, .bool x.2.rsp.hide, .string x.2.rsp.tag, .int .i64 x.2.rsp.cod, .string x.2.rsp.body, .int .i64 x.2.tm]) ∧ Below W.heap.size W w') := Lib.hid fun W => fresh_entry x.2 W (HE.out x (List.mem_of_getElem? hx))
    have HC9 : Hid (∀ (w7 : World) g, w7.heap[g]? = some (.cells (enC x.2) 48 (0, 0)) → ∀ j u, (enL x.2)[j]? = some u → w7.cell? ((⟨g, 0, none⟩ : Addr).add j) = some u) := Lib.hid fun w7 g hg j u hu => by
      rw [add0]
      have : w7.cell? ⟨g, j, none⟩ = (enC x.2)[j]? := by simp [World.cell?, hg]
      rw [this]
      simpa [enC, enL] using hu
    have HOne : Hid (∀ u ∈ enL x.2, u.oneCell' = true) := Lib.hid fun u hu => by
      simp only [enL, List.mem_cons, List.not_mem_nil, or_false] at hu
      rcases hu with rfl | rfl | rfl | rfl | rfl | rfl | rfl | rfl | rfl <;> rfl
    have hk2 : k < 2000000 := by simp at hk; omega
    have hk3 : k < M.length := by simpa using hk
    refine wpIn_region_lastL (by kernel_rfl) 10 (by kernel_rfl) (by kernel_rfl) (by kernel_rfl)
      (fun u => { tmps := #[.pointer (some ⟨c, 0, none⟩), undef, .pointer (some ⟨w.heap.size, 0, none⟩), .pointer (some ⟨w.heap.size + 1, 0, none⟩), undef, .pointer (some ⟨x.1, 0, none⟩), .pointer (some ⟨c, 0, none⟩), .func (.func 96) #[] #[.pointer (some ⟨w.heap.size + 1 + 1, 0, none⟩)], .int .i64 (k : Int), .pointer (some ⟨x.1, 0, none⟩), u 0, u 1, u 2, u 3, u 4, u 5, u 6, u 7, u 8, u 9, undef], defers := [] })
      (fun L _ w7 => W.grownBy w7 v.ownBlock ∧ (¬ L 8 → Below W.heap.size W w7))
      (fun i z w7 => match i with
        | 0 => z = .pointer (some ⟨w.heap.size + 1, 0, none⟩)
        | 1 => z = v
        | 2 => z = .pointer (some ⟨x.1, 0, none⟩)
        | 3 => z = .pointer (some ⟨x.1, 0, none⟩)
        | 4 => z = .pointer (some ⟨x.1, 2, none⟩)
        | 5 => z = .agg #[.string x.2.place, .int .i64 x.2.mask, .int .i64 x.2.rsp.code, .int .i64 x.2.rsp.mx, .bool x.2.rsp.hide, .string x.2.rsp.tag, .int .i64 x.2.rsp.cod, .string x.2.rsp.body, .int .i64 x.2.tm]
        | 6 => z = .agg #[.string x.2.place, .int .i64 x.2.mask, .int .i64 x.2.rsp.code, .int .i64 x.2.rsp.mx, .bool x.2.rsp.hide, .string x.2.rsp.tag, .int .i64 x.2.rsp.cod, .string x.2.rsp.body, .int .i64 x.2.tm]
        | 7 => ∃ g, z = .slice (some ⟨g, 0, none⟩) 1 1 ∧ W.heap.size ≤ g ∧ w7.heap[g]? = some (.cells (enC x.2) 48 (0, 0))
        | 8 => w7.ownsRow w.heap.size 48 9 z (k + 1) (ecells ((M.map (·.2)).take k) ++ enL x.2)
        | 9 => z = .pointer (some ⟨w.heap.size + 1, 0, none⟩)
        | _ => True)
      (fun i w7 w8 => (i = 8 ∧ w7.grownBy w8 v.ownBlock) ∨ Below w7.heap.size w7 w8) (fun _ => undef) ⟨grown_drewN (World.grownBy.refl _ _) 1, fun _ => (Below.refl _ _).drew⟩ ?_ ?_ ?_
    · intro i j z w7 w8 hi hj hij hR hle
      match i, hi with
      | 0, _ => exact hR
      | 1, _ => exact hR
      | 2, _ => exact hR
      | 3, _ => exact hR
      | 4, _ => exact hR
      | 5, _ => exact hR
      | 6, _ => exact hR
      | 7, _ =>
        obtain ⟨g, hz, hgW, hg7⟩ := hR
        refine ⟨g, hz, hgW, ?_⟩
        rcases hle with ⟨-, hg8⟩ | hb8
        · exact (hg8.block g (Array.getElem?_eq_some_iff.1 hg7).1 (fun e => by have := HRow.out g e.symm; omega)).trans hg7
        · exact (hb8.block g (Array.getElem?_eq_some_iff.1 hg7).1).trans hg7
      | 8, _ =>
        rcases hle with ⟨hj, -⟩ | hb8
        · exact absurd hj (Ne.symm hij)
        · exact own_below hR hb8
      | 9, _ => exact hR
      | n + 10, hn => exact absurd hn (by omega)
    · intro i hi L u w7 kk hkk hL hC hdp
      match i, hi with
      | 0, _ =>
        refine wpOpIn_step rfl (fun K hK => ?_)
        clear hdp
        go_simp
        exact hK _ _ ⟨.pointer (some ⟨w.heap.size + 1, 0, none⟩), rfl, rfl, .inr (Below.refl _ _), ⟨hC.1, fun hn => hC.2 (fun h => hn (.inr h))⟩⟩
      | 1, _ =>
        have a1 := (hV w7 hC.1).cell
        have e0 : u 0 = .pointer (some ⟨w.heap.size + 1, 0, none⟩) := hdp 0 (dep_of (by kernel_rfl))
        refine wpOpIn_step rfl (fun K hK => ?_)
        clear hdp
        go_simp
        exact hK _ _ ⟨v, by simp [upd, e0], rfl, .inr (Below.refl _ _), ⟨hC.1, fun hn => hC.2 (fun h => hn (.inr h))⟩⟩
      | 2, _ =>
        refine wpOpIn_step rfl (fun K hK => ?_)
        clear hdp
        go_simp
        exact hK _ _ ⟨.pointer (some ⟨x.1, 0, none⟩), rfl, rfl, .inr (Below.refl _ _), ⟨hC.1, fun hn => hC.2 (fun h => hn (.inr h))⟩⟩
      | 3, _ =>
        have e2 : u 2 = .pointer (some ⟨x.1, 0, none⟩) := hdp 2 (dep_of (by kernel_rfl))
        refine wpOpIn_step rfl (fun K hK => ?_)
        clear hdp
        go_simp
        exact hK _ _ ⟨.pointer (some ⟨x.1, 0, none⟩), by simp [upd, e2], rfl, .inr (Below.refl _ _), ⟨hC.1, fun hn => hC.2 (fun h => hn (.inr h))⟩⟩
      | 4, _ =>
        have e3 : u 3 = .pointer (some ⟨x.1, 0, none⟩) := hdp 3 (dep_of (by kernel_rfl))
        refine wpOpIn_step rfl (fun K hK => ?_)
        clear hdp
        go_simp
        exact hK _ _ ⟨.pointer (some ⟨x.1, 2, none⟩), by simp [upd, e3], rfl, .inr (Below.refl _ _), ⟨hC.1, fun hn => hC.2 (fun h => hn (.inr h))⟩⟩
      | 5, _ =>
        obtain ⟨x0, x1, x2, x3, x4, x5, x6, x7, x8⟩ := HX.out w7 hC.1
        have e4 : u 4 = .pointer (some ⟨x.1, 2, none⟩) := hdp 4 (dep_of (by kernel_rfl))
        refine wpOpIn_step rfl (fun K hK => ?_)
        clear hdp
        go_simp
        exact hK _ _ ⟨.agg #[.string x.2.place, .int .i64 x.2.mask, .int .i64 x.2.rsp.code, .int .i64 x.2.rsp.mx, .bool x.2.rsp.hide, .string x.2.rsp.tag, .int .i64 x.2.rsp.cod, .string x.2.rsp.body, .int .i64 x.2.tm], by simp [upd, e4], rfl, .inr (Below.refl _ _), ⟨hC.1, fun hn => hC.2 (fun h => hn (.inr h))⟩⟩
      | 6, _ =>
        have e5 : u 5 = .agg #[.string x.2.place, .int .i64 x.2.mask, .int .i64 x.2.rsp.code, .int .i64 x.2.rsp.mx, .bool x.2.rsp.hide, .string x.2.rsp.tag, .int .i64 x.2.rsp.cod, .string x.2.rsp.body, .int .i64 x.2.tm] := hdp 5 (dep_of (by kernel_rfl))
        have hT := HFr.out w7
        refine wpOpIn_step rfl (fun K hK => ?_)
        clear hdp
        go_simp
        refine ⟨trivial, (CallsIn.inRound l (callsIn_wide.2 hT)).mono ?_⟩
        rintro e w8 ⟨rfl, hb8⟩
        exact hK _ _ ⟨.agg #[.string x.2.place, .int .i64 x.2.mask, .int .i64 x.2.rsp.code, .int .i64 x.2.rsp.mx, .bool x.2.rsp.hide, .string x.2.rsp.tag, .int .i64 x.2.rsp.cod, .string x.2.rsp.body, .int .i64 x.2.tm], by simp [upd, e5], rfl, .inr hb8, grown_trans hC.1 (grown_of_below hb8 _), fun hn => (hC.2 fun h => hn (.inr h)).trans (hb8.mono hC.1.size)⟩
      | 7, _ =>
        have e6 : u 6 = .agg #[.string x.2.place, .int .i64 x.2.mask, .int .i64 x.2.rsp.code, .int .i64 x.2.rsp.mx, .bool x.2.rsp.hide, .string x.2.rsp.tag, .int .i64 x.2.rsp.cod, .string x.2.rsp.body, .int .i64 x.2.tm] := hdp 6 (dep_of (by kernel_rfl))
        refine wpOpIn_step rfl (fun K hK => ?_)
        clear hdp
        go_simp
        exact hK _ _ ⟨_, by simp [upd, e6], ⟨_, rfl, hC.1.size, heap_alloc_new w7 _⟩, .inr ((Below.refl _ _).alloc (Nat.le_refl _) _), grown_trans hC.1 (World.grownBy_alloc _ _ _), fun hn => (hC.2 fun h => hn (.inr h)).alloc hC.1.size _⟩
      | 8, _ =>
        have e1 : u 1 = v := hdp 1 (dep_of (by kernel_rfl))
        obtain ⟨g, e7, hgW, hg7⟩ : ∃ g, u 7 = .slice (some ⟨g, 0, none⟩) 1 1 ∧ W.heap.size ≤ g ∧ w7.heap[g]? = some (.cells (enC x.2) 48 (0, 0)) := hdp 7 (dep_of (by kernel_rfl))
        have hB7 := hC.2 hL
        have ho7 := own_below hown hB7
        have hcl := HC9.out w7 g hg7
        refine wpOpIn_step rfl (fun K hK => ?_)
        clear hdp
        refine stepIn_append_own rfl (.tmp 11) (.tmp 17) 33 rfl w.heap.size 48 i0 _ 9 96 Tryz.underlying33 hi0 hz0 hz1 hz2 rfl (by decide) v k (ecells ((M.map (·.2)).take k)) (by simp [Act.eval, e1]) ho7 ⟨g, 0, none⟩ 1 1 (enL x.2) (by simp [Act.eval, e7]) rfl hcl (HOne.out) (by unfold maxLen; omega) (by omega) (Nat.le_trans hsW hC.1.size) ?_
        intro v' w8 ho8 hg8
        exact hK _ _ ⟨v', by simp [Act.put, upd], ho8, .inl ⟨rfl, hg8⟩, grown_trans hC.1 hg8, fun hn => absurd (.inl rfl) hn⟩
      | 9, _ =>
        refine wpOpIn_step rfl (fun K hK => ?_)
        clear hdp
        go_simp
        exact hK _ _ ⟨.pointer (some ⟨w.heap.size + 1, 0, none⟩), rfl, rfl, .inr (Below.refl _ _), ⟨hC.1, fun hn => hC.2 (fun h => hn (.inr h))⟩⟩
      | n + 10, hn => exact absurd hn (by omega)
    · intro L u w7 kk hkk hC hdp
      have ho8 : w7.ownsRow w.heap.size 48 9 (u 8) (k + 1) (ecells ((M.map (·.2)).take k) ++ enL x.2) := hdp 8 (by decide)
      have e9 : u 9 = .pointer (some ⟨w.heap.size + 1, 0, none⟩) := hdp 9 (by decide)
      obtain ⟨g8, cap8, e8⟩ := ownsRow_succ ho8
      rw [e8] at ho8
      have hv7 := hV w7 hC.1
      have a1 := hv7.cell
      have a2 := hv7.frozen
      have hNR := hv7.not_row (by decide) ho8
      have hKO : KeepsOthers W w7 := KeepsOthers.of_grownBy hC.1 fun j o ej hj => by
        rcases hown.2 with ⟨rfl, _⟩ | ⟨g, cap, cur, rfl, _, hgb, _⟩
        · simp [Value.ownBlock] at ej
        · obtain rfl : g = j := by simpa [Value.ownBlock] using ej
          rw [hgb] at hj; cases hj; rfl
      have hb7 := hb0.kept hC.1 (hb0.not_row (by decide) hown)
      have hc7 := hb2.kept hC.1 (hb2.not_row (by decide) hown)
      have hB7 : Below w.heap.size w w7 := hBw.grown hC.1 hsW fun r hr => (HRow.out r hr).2
      have HF := Lib.hid (And.intro ho8 (And.intro hNR (And.intro hKO (And.intro hb7 (And.intro hc7 (And.intro hB7 hv7))))))
      refine wpOpIn_step rfl (fun K hK => ?_)
      clear hdp hC ho8 hNR hKO hb7 hc7 hB7 hv7
      go_simp
      refine hK _ _ ?_
      clear hK K
      gi_wp2
      obtain ⟨ho8, hNR, hKO, hb7, hc7, hB7, hv7⟩ := HF.out
      refine ⟨(hKO.trans (KeepsOthers.setCell _ _ _)).from _, ⟨⟨⟨_, hv7.set _, ?_, trivial⟩, hb7.other (by omega) _⟩, hc7.other (by omega) _, hB7.setCell (p := ⟨w.heap.size + 1, 0, none⟩) (by simp) _⟩⟩
      have hk4 : ecells ((M.map (·.2)).take (k + 1)) = ecells ((M.map (·.2)).take k) ++ enL x.2 := by rw [getLast_take _ k (x := x.2) (by rw [List.getElem?_map, hx]; rfl), ecells_app]
      rw [hk4]
      exact ho8.kept (grownBy_setCell' w7 _ _) (.inr hNR.symm)
  case done =>
    rintro D W hD ⟨⟨⟨v, hv, hown, -⟩, hb0⟩, hb2, hBw⟩ hK
    rw [List.length_map, List.take_of_length_le (by simp)] at hown
    obtain ⟨a, cc, rfl⟩ : ∃ a cc, v = .slice a M.length cc := by
      rcases hown.2 with ⟨rfl, h0⟩ | ⟨g, cap, _, rfl, _⟩
      · exact ⟨none, 0, by rw [h0]⟩
      · exact ⟨_, _, rfl⟩
    have r1 := hv.cell
    have u1 := hb0.cell
    have u2 := hb0.frozen
    have hNR := hb0.not_row (by decide) hown
    have HO := Lib.hid hown
    clear hown
    gi_wp2
    have hk1 := KeepsOthers.setCell W ⟨w.heap.size, 0, none⟩ (.slice a M.length cc)
    have hK' := hk1.same D _ hK rfl
    refine ⟨by simp, .inl ⟨_, _, rfl, run_takeDeferred hK', ?_⟩⟩
    have hc5 := cell_kept (hb0.set (.slice a M.length cc)).cell (grownBy_putObj' _ D (.deferred none)) (fun r e => by cases e; exact ⟨_, hK', rfl⟩)
    refine ⟨.agg #[.slice a M.length cc], ?_, _, rfl, ?_, ?_⟩
    · simp [results, Tryz.f56, go_sem, hc5]
    · exact ownsRow_putObj (HO.out.kept (grownBy_setCell' W _ _) (.inr hNR.symm)) _ hK' rfl
    · exact (hBw.setCell (p := ⟨w.heap.size, 0, none⟩) (Nat.le_refl _) _).trans (belowK_b (w := w) (Nat.le_refl _) _ D _ _ (by omega) hK' rfl rfl)
  case stop => intro D c k W _ _ h; exact h.elim
end Go.Proofs.YtbhnjnoblkfckaaGreatDoor

-- from XStI
/- Walks: storage, by the program: without what is for a place and codings. -/
namespace Go.Proofs.YtbhnjnoblkfckaaGreatDoor
open Go.RowKit Go.Maps

set_option maxRecDepth 100000 in
set_option maxHeartbeats 1600000 in
theorem impl_stoout (v : Value) (L : List En) (p : ByteArray) (m : Int) (w : World) (hR : ERow w v L) (hE : EnsOk 1048576 L) (hn : L.length ≤ 2000000) (hp : p.size ≤ maxLen) (hm : (Lit.int .i64 m).wf = true) :
    Calls Tryz.prog 29 #[.agg #[v], .string p, .int .i64 m] w (SRet w (outE L p m)) := by
  obtain ⟨wA, hwA⟩ : ∃ wA, wA = (w.alloc (.cells #[v] 35)).alloc (.cells #[.slice none 0 0] 35) := ⟨_, rfl⟩
  have hbA : Below w.heap.size w wA := by rw [hwA]; exact ((Below.refl _ _).alloc (Nat.le_refl _) _).alloc (by simp) _
  have hsA : wA.heap.size = w.heap.size + 2 := by rw [hwA]; simp
  have h0 : Boxed wA w.heap.size 35 v := by rw [hwA]; exact (Boxed.new w _ _).alloc _
  have h1 : Boxed wA (w.heap.size + 1) 35 (.slice none 0 0) := by
    rw [hwA]
    have := Boxed.new (w.alloc (.cells #[v] 35)) 35 (.slice none 0 0)
    rwa [World.size_alloc] at this
  have hC := entries_any v L wA (hR.below (Nat.le_refl _) hbA) hE hn
  obtain ⟨a, c0, rfl, -⟩ := hR
  have t0 := h0.cell
  rw [hwA] at t0
  have HW := Lib.hid hwA
  have H1 := Lib.hid h1
  have HbA := Lib.hid hbA
  clear hwA hE h0 h1 hbA
  go_enter Tryz.func29, Tryz.ntmps29
  go_wp2_with fail
  rw [← HW.out]
  refine hC.mono ?_
  rintro e w1 ⟨c, mb, M, rfl, hM, hML, hb1⟩
  have hC2 := remove_first c mb _ _ M p m w1 hM hp hm (by unfold maxLen; omega)
  clear hC t0
  go_wp2_with fail
  refine hC2.mono ?_
  rintro e w2 ⟨rfl, hM2, hO2⟩
  have hb2 : Below wA.heap.size wA w2 := hb1.trans (hO2.below (by have := hb1.size; omega) fun j hj => (hM.cs hj).1)
  have hlen : (outL M p m).length ≤ 2000000 := by
    have h1 : (outL M p m).length ≤ M.length := List.length_eraseP_le
    have h2 : M.length = L.length := by rw [← hML, List.length_map]
    omega
  have hC3 := store_of c mb _ _ _ w2 hM2 hlen
  have hOut : (outL M p m).map (·.2) = outE L p m := by rw [outL_map, hML]
  have hl2 : (outL M p m).length = (outE L p m).length := by rw [← hOut, List.length_map]
  rw [hOut, hl2] at hC3
  have HB := Lib.hid hb2
  clear hC2 hM hM2 hML hO2 hb1 hb2 hlen hOut hl2
  go_wp2_with fail
  refine hC3.mono ?_
  rintro e w3 ⟨v', rfl, ho3, hb3⟩
  obtain ⟨a', c', rfl⟩ := own_slice ho3
  have hb3' : Below wA.heap.size wA w3 := HB.out.trans (hb3.mono HB.out.size)
  have h13 := H1.out.kept (grown_of_below hb3' none) (by simp)
  have u1 := h13.cell
  have u2 := h13.frozen
  obtain ⟨k1, k2⟩ := told_row h13 (by decide) ho3
  have k3 := k1.cell
  have HF := Lib.hid (And.intro k3 (And.intro (own_lowB k2 (show w.heap.size ≤ w2.heap.size from by have := HB.out.size; omega)) ((HbA.out.trans (hb3'.mono (by omega))).setCell (p := ⟨w.heap.size + 1, 0, none⟩) (by simp) (.slice a' (outE L p m).length c'))))
  clear hC3 hb3 hb3' h13 k1 k2 k3 ho3
  go_wp2
  obtain ⟨k3, k2, k4⟩ := HF.out
  refine bodyPost_ret (v := .agg #[.slice a' (outE L p m).length c']) (by simp [results, Tryz.results29, go_sem, k3]) rfl ⟨_, rfl, k2, k4⟩
end Go.Proofs.YtbhnjnoblkfckaaGreatDoor

-- from XRegL
/- A region's law where what is told of the world looks at which operations have run. -/
namespace Go.Proofs.YtbhnjnoblkfckaaGreatDoor
open Go.RowKit

/-- A region whose last operation waits for all others; what is told of the world may look at which operations have run. -/
theorem wp_region_lastL {P : Program} {ops : Array Oper} {Q : Exit → Act → World → Prop} {id : Nat} {w : World} (hm : P.follows .mixedOrders = true) (n : Nat) (hn : ops.size = n + 1) (ho : ordB ops = true) (hl : lastB ops n = true)
    (mk : (Nat → Value) → Act) (C : (Nat → Prop) → Nat → World → Prop) (R : Nat → Value → World → Prop) (le : Nat → World → World → Prop) (u0 : Nat → Value)
    (h0 : C (fun _ => False) 0 w.drew) (hst : ∀ i j v w w', i < n → j < n → i ≠ j → R i v w → le j w w' → R i v w')
    (hstep : ∀ i, i < n → ∀ (L : Nat → Prop) (u : Nat → Value) (w : World) (k : Nat), k ≤ n → ¬ L i → C L k w → (∀ j ∈ deps ops i, R j (u j) w) → wpOp P ops Q i (fun a' w' => ∃ v, a' = mk (upd u i v) ∧ R i v w' ∧ le i w w' ∧ C (fun j => j = i ∨ L j) (k + 1) w') (mk u) w)
    (hlast : ∀ (L : Nat → Prop) (u : Nat → Value) (w : World) (k : Nat), k ≤ n → C L k w → (∀ j, j < n → R j (u j) w) → wpOp P ops Q n (fun a' w' => Q .normal a' w') (mk u) w) :
    (Code.region id ops true).wp P Q (mk u0) w := by
  have hord : ∀ i, i < ops.size → ∀ j ∈ deps ops i, j < i := fun i hi j hj => by
    unfold ordB at ho
    rw [List.all_eq_true] at ho
    have h1 := ho i (List.mem_range.2 hi)
    rw [List.all_eq_true] at h1
    simpa using h1 j hj
  refine wp_region_inv hm (fun listed a w => (∀ i, On listed i → ∀ j ∈ deps ops i, On listed j) ∧ (On listed n → Q .normal a w) ∧ (¬ On listed n → ∃ u, a = mk u ∧ C (On listed) (listed.toList.count true) w ∧ ∀ i, i < n → On listed i → R i (u i) w)) ?_ ?_ ?_
  · refine ⟨fun i hi => ?_, fun h => ?_, fun _ => ⟨u0, rfl, ?_, fun i _ hi => ?_⟩⟩
    · unfold On at hi; rw [Array.getD_eq_getD_getElem?, Array.getElem?_replicate] at hi; split at hi <;> simp at hi
    · unfold On at h; rw [Array.getD_eq_getD_getElem?, Array.getElem?_replicate] at h; split at h <;> simp at h
    · rw [show (Array.replicate ops.size false).toList.count true = 0 from by rw [Array.toList_replicate, List.count_replicate]; simp]; rw [show On (Array.replicate ops.size false) = fun _ => False from funext fun j => by unfold On; rw [Array.getD_eq_getD_getElem?, Array.getElem?_replicate]; split <;> simp]; exact h0
    · unfold On at hi; rw [Array.getD_eq_getD_getElem?, Array.getElem?_replicate] at hi; split at hi <;> simp at hi
  · intro listed a w hs ⟨hc, hA, hB⟩ i hi
    obtain ⟨hi1, hi2, hi3⟩ := ready_at hs hi
    have hcov : (∀ j ∈ deps ops n, On listed j) → ∀ j, j < n → On listed j := fun hd j hj => by
      unfold lastB at hl
      rw [List.all_eq_true] at hl
      have h1 := hl j (List.mem_range.2 hj)
      exact ancs_on hc _ _ hd j (by simpa using h1)
    have hnn : ¬ On listed n := fun h => by
      rcases Nat.lt_or_ge i n with hin | hin
      · exact hi2 (hcov (hc n h) i hin)
      · have : i = n := by omega
        subst this; exact hi2 h
    obtain ⟨u, rfl, hC, hR⟩ := hB hnn
    have hi' : i < listed.size := by omega
    have hcl : ∀ i', On (listed.setIfInBounds i true) i' → ∀ j ∈ deps ops i', On (listed.setIfInBounds i true) j := fun i' h j hj => by
      rw [on_set hi'] at h ⊢
      rcases h with rfl | h
      · exact .inr (hi3 j hj)
      · exact .inr (hc i' h j hj)
    have hk : listed.toList.count true ≤ n := by have := count_le hi' hi2; omega
    rcases Nat.lt_or_ge i n with hin | hin
    · refine wpOp_mono ?_ (hstep i hin _ u w _ hk hi2 hC (fun j hj => hR j (by have := hord i hi1 j hj; omega) (hi3 j hj)))
      rintro a' w' ⟨v, rfl, hRi, hle, hC'⟩
      refine ⟨hcl, fun h => ?_, fun _ => ⟨_, rfl, by rw [count_set hi' hi2, show On (listed.setIfInBounds i true) = fun j => j = i ∨ On listed j from funext fun j => propext (on_set hi')]; exact hC', fun j hj hon => ?_⟩⟩
      · rw [on_set hi'] at h
        rcases h with h | h
        · omega
        · exact absurd h hnn
      · unfold upd
        by_cases e : j = i
        · subst e; rw [if_pos rfl]; exact hRi
        · rw [if_neg e]
          rw [on_set hi'] at hon
          rcases hon with h | h
          · exact absurd h e
          · exact hst j i _ _ _ hj hin e (hR j hj h) hle
    · have hin : i = n := by omega
      subst hin
      have hall := hcov hi3
      refine wpOp_mono ?_ (hlast _ u w _ hk hC (fun j hj => hR j hj (hall j hj)))
      intro a' w' hQ
      exact ⟨hcl, fun _ => hQ, fun h => absurd ((on_set hi').2 (.inl rfl)) h⟩
  · intro listed a w hs ⟨_, hA, _⟩ hr
    exact hA (all_on hs ho hr n (by omega))

end Go.Proofs.YtbhnjnoblkfckaaGreatDoor

-- from XStSa
/- Walks: storage, by the specification: what is found. -/
namespace Go.Proofs.YtbhnjnoblkfckaaGreatDoor
open Go.RowKit Go.Maps

theorem step_append_row {P : Program} {ops : Array Oper} {o : Oper} {a : Act} {w : World} {K : Act → World → Prop} {Q : Exit → Act → World → Prop} {E : Prop}
    (hg : o.guard = none) (s x : Operand) (t : TypeId) (hop : o.op = Op.call { callee := Callee.builtin Builtin.append, args := #[s, x], argTypes := #[t, t] })
    (base : Nat) (e : TypeId) (i : TypeInfo) (z : Value) (size bytes : Nat) (h1 : P.underlying t = some (.slice e)) (h2 : P.info? e = some i) (h3 : i.zero = some z) (h4 : i.size = size) (h5 : i.bytes = bytes) (h6 : z.cells.size = size) (h7 : 0 < size)
    (v : Value) (n : Nat) (xs : List Value) (hs : a.eval s = v) (hown : w.ownsRow base e size v n xs)
    (ad : Addr) (m c : Nat) (news : List Value) (hx : a.eval x = .slice (some ad) m c) (hn : news.length = m * size) (hc : ∀ j u, news[j]? = some u → w.cell? (ad.add j) = some u) (h1c : ∀ u ∈ news, u.oneCell' = true)
    (b1 : n + m ≤ maxLen) (b2 : (n + m) * bytes ≤ 140737488355328) (hbase : base ≤ w.heap.size)
    (hK : ∀ v' w', w'.ownsRow base e size v' (n + m) (xs ++ news) → w.grownBy w' v.ownBlock → K (a.put o.dst v') w') :
    if Region.wanted o (yielded ops a.tmps) = true then Oper.wp P o a w K Q else E := by
  have hw : Region.wanted o (yielded ops a.tmps) = true := by simp [Region.wanted, hg]
  rw [if_pos hw]
  obtain ⟨v', w', hrun, r1, r2, _⟩ := run_append_own (P := P) w base t o.type e i z size bytes h1 h2 h3 h4 h5 h6 h7 v n xs hown ad m c news hn hc h1c b1 b2 hbase
  unfold Oper.wp
  simp [execOp, hop, resolve, invoke, builtin, hs, hx, hrun, Result.andThen]
  exact hK v' w' r1 r2
theorem en_one (e : En) : ∀ u ∈ enL e, u.oneCell' = true := fun u hu => by
  simp only [enL, List.mem_cons, List.not_mem_nil, or_false] at hu
  rcases hu with rfl | rfl | rfl | rfl | rfl | rfl | rfl | rfl | rfl <;> rfl
theorem EAt.facts {w : World} {b o : Nat} {e : En} (h : EAt w b o e) : w.cell? ⟨b, o, none⟩ = some (.string e.place) ∧ w.cell? ⟨b, o + 1, none⟩ = some (.int .i64 e.mask) ∧ w.cell? ⟨b, o + 2, none⟩ = some (.int .i64 e.rsp.code) ∧ w.cell? ⟨b, o + 3, none⟩ = some (.int .i64 e.rsp.mx) ∧ w.cell? ⟨b, o + 4, none⟩ = some (.bool e.rsp.hide) ∧
    w.cell? ⟨b, o + 5, none⟩ = some (.string e.rsp.tag) ∧ w.cell? ⟨b, o + 6, none⟩ = some (.int .i64 e.rsp.cod) ∧ w.cell? ⟨b, o + 7, none⟩ = some (.string e.rsp.body) ∧ w.cell? ⟨b, o + 8, none⟩ = some (.int .i64 e.tm) :=
  ⟨h.c0, h.c1, h.c2, h.c3, h.c4, h.c5, h.c6, h.c7, h.c8⟩

theorem bytes_ext {a b : ByteArray} (h : a.data.toList = b.data.toList) : a = b := by
  cases a; cases b; simpa [Array.toList_inj] using h
def foundI (L : List En) (p : ByteArray) (m : Int) : Int := match findE L p m with | some k => (k : Int) | none => -1
theorem found_at {L : List En} {p : ByteArray} {m : Int} {k : Nat} {e : En} (hg : L[k]? = some e) (hk : isK p m e = true) (hb : ∀ (j : Nat) (f : En), j < k → L[j]? = some f → isK p m f = false) : findE L p m = some k := by
  unfold findE
  rw [List.findIdx?_eq_some_iff_getElem]
  obtain ⟨hlt, rfl⟩ := List.getElem?_eq_some_iff.1 hg
  exact ⟨hlt, hk, fun j hj => by rw [hb j L[j] hj (List.getElem?_eq_getElem (by omega))]; decide⟩
theorem found_none {L : List En} {p : ByteArray} {m : Int} (hb : ∀ (j : Nat) (f : En), L[j]? = some f → isK p m f = false) : findE L p m = none := by
  unfold findE
  rw [List.findIdx?_eq_none_iff]
  intro e he
  obtain ⟨j, hj⟩ := List.mem_iff_getElem?.1 he
  exact hb j e hj

set_option maxHeartbeats 1600000 in
theorem spec_stofind (v : Value) (L : List En) (p : ByteArray) (m : Int) (w : World) (hR : ERow w v L) :
    Calls Tryz.prog 40 #[.agg #[v], .string p, .int .i64 m] w fun e' w' => e' = .returned (.int .i64 (foundI L p m)) ∧ Below w.heap.size w w' := by
  obtain ⟨a, c, rfl, h1, h2, h3⟩ := hR
  unfold maxLen at h2
  have hb : Below w.heap.size w (w.alloc (.cells #[.slice a L.length c] 35)) := (Below.refl _ _).alloc (Nat.le_refl _) _
  have H3 := Lib.hid h3
  clear h3
  go_enter Tryz.func40, Tryz.ntmps40
  go_wp2
  go_loop [7] (fun i => ∃ k : Nat, k ≤ L.length ∧ i = .int .i64 k ∧ ∀ (j : Nat) (f : En), j < k → L[j]? = some f → isK p m f = false) (fun i => L.length - (intOf i).toNat)
  case atStart => exact ⟨0, Nat.zero_le _, rfl, fun j f hj => absurd hj (Nat.not_lt_zero _)⟩
  case round =>
    obtain ⟨k, hk, rfl, hno⟩ := hrel
    by_cases hlt : k < L.length
    · obtain ⟨e, hg⟩ : ∃ e, L[k]? = some e := ⟨_, List.getElem?_eq_getElem hlt⟩
      obtain ⟨b, o, rfl, hbl, he⟩ := H3.out k e hg
      have c0 := (hb.cell (p := ⟨b, o + k * 9, none⟩) hbl).trans he.c0
      have c1 := (hb.cell (p := ⟨b, o + k * 9 + 1, none⟩) hbl).trans he.c1
      have hbeq : (e.place.toList == p.toList) = decide (e.place = p) := by
        rw [Lib.toList_data, Lib.toList_data, Bool.eq_iff_iff, beq_iff_eq, decide_eq_true_eq]
        exact ⟨bytes_ext, fun h => by rw [h]⟩
      have hiK : isK p m e = (decide (e.place = p) && decide (e.mask = m)) := rfl
      have HNo := Lib.hid hno
      have HG := Lib.hid hg
      have Hb := Lib.hid hb
      by_cases q1 : e.place = p
      · rw [decide_eq_true q1] at hbeq
        by_cases q2 : e.mask = m
        · have HF : Hid (foundI L p m = (k : Int)) := Lib.hid (by unfold foundI; rw [found_at HG.out (by rw [hiK, decide_eq_true q1, decide_eq_true q2]; rfl) HNo.out])
          have q2' : (e.mask == m) = true := by simpa using q2
          clear hno hg he hiK hb H3 q1 q2
          go_wp2
          go_ret
          exact ⟨by rw [HF.out]; rfl, Hb.out⟩
        · have HK : Hid (isK p m e = false) := Lib.hid (by rw [hiK, decide_eq_false q2, Bool.and_false])
          have q2' : (e.mask == m) = false := by simpa using q2
          clear hno hg he hiK hb q1 q2
          go_wp2
          go_round
          case rel => exact ⟨k + 1, by omega, by go_num, fun j f hj hf => by
            rcases Nat.lt_succ_iff_lt_or_eq.1 hj with h | rfl
            · exact HNo.out j f h hf
            · rw [HG.out] at hf; cases hf; exact HK.out⟩
          case measure => simp [intOf]; omega
      · rw [decide_eq_false q1] at hbeq
        have HK : Hid (isK p m e = false) := Lib.hid (by rw [hiK, decide_eq_false q1, Bool.false_and])
        clear hno hg he hiK hb q1
        go_wp2
        go_round
        case rel => exact ⟨k + 1, by omega, by go_num, fun j f hj hf => by
          rcases Nat.lt_succ_iff_lt_or_eq.1 hj with h | rfl
          · exact HNo.out j f h hf
          · rw [HG.out] at hf; cases hf; exact HK.out⟩
        case measure => simp [intOf]; omega
    · have HF : Hid (foundI L p m = -1) := Lib.hid (by
        unfold foundI
        rw [found_none fun j f hf => hno j f (by have := (List.getElem?_eq_some_iff.1 hf).1; omega) hf])
      have Hb := Lib.hid hb
      clear hno hb
      go_wp2
      go_ret
      exact ⟨by rw [HF.out]; rfl, Hb.out⟩
end Go.Proofs.YtbhnjnoblkfckaaGreatDoor

-- from XStS
/- Walks: storage, by the specification: without one of it. -/
namespace Go.Proofs.YtbhnjnoblkfckaaGreatDoor
open Go.RowKit Go.Maps

theorem en_cells (w7 : World) (e : En) (g : Nat) (hg : w7.heap[g]? = some (.cells (enC e) 48 (0, 0))) : ∀ j u, (enL e)[j]? = some u → w7.cell? ((⟨g, 0, none⟩ : Addr).add j) = some u := fun j u hu => by
  rw [add0]
  have : w7.cell? ⟨g, j, none⟩ = (enC e)[j]? := by simp [World.cell?, hg]
  rw [this]
  simpa [enC, enL] using hu

/-- Without one of it. -/
def wtF : Nat → Int → List En → List En
  | _, _, [] => []
  | k, q, e :: r => if (k : Int) = q then wtF (k + 1) q r else e :: wtF (k + 1) q r
def wtE (L : List En) (q : Int) : List En := wtF 0 q L
theorem wtF_snoc (q : Int) (e : En) : ∀ (L : List En) (k : Nat), wtF k q (L ++ [e]) = wtF k q L ++ (if ((k + L.length : Nat) : Int) = q then [] else [e])
  | [], k => by simp [wtF]
  | x :: L, k => by
    have ih := wtF_snoc q e L (k + 1)
    have e1 : k + 1 + L.length = k + (x :: L).length := by simp; omega
    rw [e1] at ih
    show (if (k : Int) = q then wtF (k + 1) q (L ++ [e]) else x :: wtF (k + 1) q (L ++ [e])) = (if (k : Int) = q then wtF (k + 1) q L else x :: wtF (k + 1) q L) ++ _
    rw [ih]
    split <;> simp
theorem wtE_snoc {L : List En} {q : Int} {k : Nat} {e : En} (h : L[k]? = some e) : wtE (L.take (k + 1)) q = wtE (L.take k) q ++ (if (k : Int) = q then [] else [e]) := by
  obtain ⟨hlt, rfl⟩ := List.getElem?_eq_some_iff.1 h
  rw [List.take_add_one, h]
  show wtF 0 q (L.take k ++ [L[k]]) = _
  rw [wtF_snoc, List.length_take, Nat.zero_add, show min k L.length = k from by omega]
  rfl
theorem wtF_len (q : Int) : ∀ (L : List En) (k : Nat), (wtF k q L).length ≤ L.length
  | [], _ => Nat.le_refl _
  | x :: L, k => by
    have := wtF_len q L (k + 1)
    unfold wtF
    split
    · simp; omega
    · simp; omega
theorem wtE_len (L : List En) (q : Int) : (wtE L q).length ≤ L.length := wtF_len q L 0
theorem wtF_lo (q : Int) : ∀ (L : List En) (k : Nat), q < (k : Int) → wtF k q L = L
  | [], _, _ => rfl
  | x :: L, k, h => by unfold wtF; rw [if_neg (by omega), wtF_lo q L (k + 1) (by omega)]
theorem wtF_at (i : Nat) : ∀ (L : List En) (k : Nat), k ≤ i → wtF k (i : Int) L = L.eraseIdx (i - k)
  | [], _, _ => by simp [wtF]
  | x :: L, k, h => by
    unfold wtF
    by_cases e : k = i
    · subst e
      rw [if_pos rfl, wtF_lo _ _ _ (by omega), Nat.sub_self]; rfl
    · rw [if_neg (by omega), wtF_at i L (k + 1) (by omega), show i - k = (i - (k + 1)) + 1 from by omega]; rfl
theorem wtE_neg (L : List En) {q : Int} (h : q < 0) : wtE L q = L := wtF_lo q L 0 (by omega)
theorem wtE_at (L : List En) (i : Nat) : wtE L (i : Int) = L.eraseIdx i := by
  have := wtF_at i L 0 (Nat.zero_le _)
  rwa [Nat.sub_zero] at this
theorem find_erase : ∀ (L : List En) (p : En → Bool), L.eraseP p = (match L.findIdx? p with | some k => L.eraseIdx k | none => L)
  | [], _ => rfl
  | x :: L, p => by
    rw [List.eraseP_cons, List.findIdx?_cons]
    cases hp : p x with
    | true => simp
    | false =>
      have ih := find_erase L p
      simp only [Bool.false_eq_true, if_false]
      rw [ih]
      cases List.findIdx? p L with
      | some k => rfl
      | none => rfl
theorem wtE_found (L : List En) (p : ByteArray) (m : Int) : wtE L (foundI L p m) = outE L p m := by
  unfold outE foundI findE
  rw [find_erase]
  cases List.findIdx? (isK p m) L with
  | some k => exact wtE_at L k
  | none => exact wtE_neg L (by decide)
theorem wtE_use {L : List En} {i : Nat} {e : En} (h : L[i]? = some e) : useE L (i : Int) = e :: wtE L (i : Int) := by
  unfold useE
  rw [if_pos (by omega), Int.toNat_natCast, h, wtE_at]

/-- A store of a new row; one of nothing is no row. -/
def SRetN (w : World) (L : List En) (e' : Ending) (w' : World) : Prop := ∃ v', e' = .returned (.agg #[v']) ∧ w'.ownsRow w.heap.size 48 9 v' L.length (ecells L) ∧ Below w.heap.size w w' ∧ (L.length = 0 → v' = .slice none 0 0)

set_option maxRecDepth 100000 in
set_option maxHeartbeats 6400000 in
theorem spec_without (v : Value) (L : List En) (q : Int) (w : World) (hR : ERow w v L) (hn : L.length ≤ 2000000) :
    Calls Tryz.prog 79 #[.agg #[v], .int .i64 q] w (SRetN w (wtE L q)) := by
  obtain ⟨i0, hi0, hz0, hz1, hz2⟩ := info_parts Tryz.infoEn
  obtain ⟨wA, hwA⟩ : ∃ wA, wA = ((w.alloc (.cells #[v] 35)).alloc (.cells #[.slice none 0 0] 35)).alloc (.cells #[.slice none 0 0] 35) := ⟨_, rfl⟩
  have hbA : Below w.heap.size w wA := by rw [hwA]; exact (((Below.refl _ _).alloc (Nat.le_refl _) _).alloc (by simp) _).alloc (by simp; omega) _
  have hsA : wA.heap.size = w.heap.size + 3 := by rw [hwA]; simp
  have h0 : Boxed wA w.heap.size 35 v := by rw [hwA]; exact ((Boxed.new w _ _).alloc _).alloc _
  have h1 : Boxed wA (w.heap.size + 1) 35 (.slice none 0 0) := by
    rw [hwA]
    have := Boxed.new (w.alloc (.cells #[v] 35)) 35 (.slice none 0 0)
    rw [World.size_alloc] at this
    exact this.alloc _
  have h2 : Boxed wA (w.heap.size + 1 + 1) 35 (.slice none 0 0) := by
    rw [hwA]
    have := Boxed.new ((w.alloc (.cells #[v] 35)).alloc (.cells #[.slice none 0 0] 35)) 35 (.slice none 0 0)
    rw [World.size_alloc, World.size_alloc] at this
    exact this
  obtain ⟨a, c, rfl, hl1, hl2, h3⟩ := hR
  unfold maxLen at hl2
  have H3 := Lib.hid h3
  have HW := Lib.hid hwA
  have H0 := Lib.hid h0
  have H1 := Lib.hid h1
  have H2 := Lib.hid h2
  have HbA := Lib.hid hbA
  clear hwA h0 h1 h2 h3 hbA
  go_enter Tryz.func79, Tryz.ntmps79
  go_wp2_with fail
  rw [← HW.out]
  go_loopw [6] (fun i wr => ∃ (k : Nat) (xv : Value), k ≤ L.length ∧ i = .int .i64 k ∧ Boxed wr (w.heap.size + 1 + 1) 35 xv ∧ wr.ownsRow wA.heap.size 48 9 xv (wtE (L.take k) q).length (ecells (wtE (L.take k) q)) ∧ Below (w.heap.size + 1 + 1) wA wr ∧ ((wtE (L.take k) q).length = 0 → xv = .slice none 0 0)) (fun i _ => L.length - (intOf i).toNat)
  case atStart => exact ⟨0, _, Nat.zero_le _, rfl, H2.out, World.ownsRow_nil _ _ _ _, Below.refl _ _, fun _ => rfl⟩
  case round =>
    obtain ⟨k, xv, hk, rfl, hv, hown, hB, hnil⟩ := hrel
    have hs0 := hB.size
    have b0 := (hB.block _ (by omega)).trans H0.out
    have t0 := one_box b0
    have t00 := t0.1
    by_cases hlt : k < L.length
    · obtain ⟨e, hg⟩ : ∃ e, L[k]? = some e := ⟨_, List.getElem?_eq_getElem hlt⟩
      obtain ⟨b, o, rfl, hbl, he⟩ := H3.out k e hg
      have hsn := wtE_snoc (q := q) hg
      by_cases hkq : (k : Int) = q
      · rw [if_pos hkq, List.append_nil] at hsn
        have hq' : ((k : Int) == q) = true := by simpa using hkq
        have hqn : ((k : Int) != q) = false := by simp [bne, hq']
        have HTl := Lib.hid hsn
        have HF := Lib.hid (And.intro hv (And.intro hown (And.intro hB hnil)))
        clear hsn hg he hv hown hB b0 t0 hkq hnil
        go_wp2
        go_roundw
        case rel => exact ⟨k + 1, xv, by omega, by go_num, HF.out.1, by rw [HTl.out]; exact HF.out.2.1, HF.out.2.2.1, by rw [HTl.out]; exact HF.out.2.2.2⟩
        case measure => simp [intOf]; omega
      · rw [if_neg hkq] at hsn
        have hq' : ((k : Int) == q) = false := by simpa using hkq
        have hqn : ((k : Int) != q) = true := by simp [bne, hq']
        have HTl : Hid ((wtE (L.take (k + 1)) q).length = (wtE (L.take k) q).length + 1 ∧ ecells (wtE (L.take (k + 1)) q) = ecells (wtE (L.take k) q) ++ enL e) := Lib.hid (by rw [hsn, ecells_app, List.length_append]; exact ⟨rfl, rfl⟩)
        have hbW : wA.heap.size ≤ wr.heap.size := hs0
        have HRow : Hid (∀ r, xv.ownBlock = some r → r < wr.heap.size ∧ wA.heap.size ≤ r) := Lib.hid fun r hr => by have := hown.lt r hr; exact ⟨this.2, this.1⟩
        have HV : Hid (∀ W7, wr.grownBy W7 xv.ownBlock → Boxed W7 (w.heap.size + 1 + 1) 35 xv) := Lib.hid fun W7 hg => hv.kept hg (hv.not_row (by decide) hown)
        have HX : Hid (∀ W7, wr.grownBy W7 xv.ownBlock → W7.cell? ⟨w.heap.size, 0, none⟩ = some (.slice (some ⟨b, o, none⟩) L.length c) ∧ W7.cell? ⟨b, o + k * 9, none⟩ = some (.string e.place) ∧ W7.cell? ⟨b, o + k * 9 + 1, none⟩ = some (.int .i64 e.mask) ∧ W7.cell? ⟨b, o + k * 9 + 2, none⟩ = some (.int .i64 e.rsp.code) ∧ W7.cell? ⟨b, o + k * 9 + 3, none⟩ = some (.int .i64 e.rsp.mx) ∧
            W7.cell? ⟨b, o + k * 9 + 4, none⟩ = some (.bool e.rsp.hide) ∧ W7.cell? ⟨b, o + k * 9 + 5, none⟩ = some (.string e.rsp.tag) ∧ W7.cell? ⟨b, o + k * 9 + 6, none⟩ = some (.int .i64 e.rsp.cod) ∧ W7.cell? ⟨b, o + k * 9 + 7, none⟩ = some (.string e.rsp.body) ∧ W7.cell? ⟨b, o + k * 9 + 8, none⟩ = some (.int .i64 e.tm)) := Lib.hid fun W7 hg => by
          have hk2 : ∀ j, j < wA.heap.size → j < wr.heap.size → W7.heap[j]? = wr.heap[j]? := fun j h1 h2 => hg.block j h2 fun e => by have := HRow.out j e.symm; omega
          refine ⟨(one_box ((hk2 _ (by omega) (by omega)).trans b0)).1, ?_⟩
          have hbb : W7.heap[b]? = w.heap[b]? := ((hk2 b (by omega) (by omega)).trans (hB.block b (by omega))).trans (HbA.out.block b hbl)
          exact (he.keep hbb).facts
        have HC9 := Lib.hid (fun w7 g hg => en_cells w7 e g hg)
        have HOne := Lib.hid (en_one e)
        have HB7 : Hid (∀ W7, wr.grownBy W7 xv.ownBlock → Below (w.heap.size + 1 + 1) wA W7) := Lib.hid fun W7 hg => hB.grown hg (by omega) fun r hr => by have := (HRow.out r hr).2; omega
        have hwl : (wtE (L.take k) q).length ≤ k := by have := wtE_len (L.take k) q; rw [List.length_take] at this; omega
        clear hsn hg he hv hB b0 t0 hkq hnil
        go_wp2_with fail
        clear t00
        refine wp_region_lastL (by kernel_rfl) 10 (by kernel_rfl) (by kernel_rfl) (by kernel_rfl)
          (fun u => { tmps := #[.agg #[.slice (some ⟨b, o, none⟩) L.length c], .int .i64 q, .pointer (some ⟨w.heap.size, 0, none⟩), undef, .pointer (some ⟨w.heap.size + 1, 0, none⟩), .pointer (some ⟨w.heap.size + 1 + 1, 0, none⟩), .int .i64 (k : Int), .agg #[.slice none 0 0], .int .i64 (k : Int), .pointer (some ⟨w.heap.size, 0, none⟩), .slice (some ⟨b, o, none⟩) L.length c, .int .i64 (L.length : Int), .bool true, u13, u14, .int .i64 (k : Int), .int .i64 q, .bool true, u 0, u 1, u 2, u 3, u 4, u 5, u 6, u 7, u 8, u 9, undef], defers := [] })
          (fun Ld _ w7 => wr.grownBy w7 (xv).ownBlock ∧ (¬ Ld 8 → Below wr.heap.size wr w7))
          (fun i z w7 => match i with
            | 0 => z = .pointer (some ⟨w.heap.size + 1 + 1, 0, none⟩)
            | 1 => z = xv
            | 2 => z = .pointer (some ⟨w.heap.size, 0, none⟩)
            | 3 => z = .slice (some ⟨b, o, none⟩) L.length c
            | 4 => z = .int .i64 (k : Int)
            | 5 => z = .pointer (some ⟨b, o + k * 9, none⟩)
            | 6 => z = .agg #[.string e.place, .int .i64 e.mask, .int .i64 e.rsp.code, .int .i64 e.rsp.mx, .bool e.rsp.hide, .string e.rsp.tag, .int .i64 e.rsp.cod, .string e.rsp.body, .int .i64 e.tm]
            | 7 => ∃ g, z = .slice (some ⟨g, 0, none⟩) 1 1 ∧ wr.heap.size ≤ g ∧ w7.heap[g]? = some (.cells (enC e) 48 (0, 0))
            | 8 => w7.ownsRow wA.heap.size 48 9 z ((wtE (L.take k) q).length + 1) (ecells (wtE (L.take k) q) ++ enL e)
            | 9 => z = .pointer (some ⟨w.heap.size + 1 + 1, 0, none⟩)
            | _ => True)
          (fun i w7 w8 => (i = 8 ∧ w7.grownBy w8 (xv).ownBlock) ∨ Below w7.heap.size w7 w8) (fun i => [u18, u19, u20, u21, u22, u23, u24, u25, u26, u27].getD i undef) ⟨grown_drewN (World.grownBy.refl _ _) 1, fun _ => (Below.refl _ _).drew⟩ ?_ ?_ ?_
        · intro i j z w7 w8 hi hj hij hR hle
          match i, hi with
          | 0, _ => exact hR
          | 1, _ => exact hR
          | 2, _ => exact hR
          | 3, _ => exact hR
          | 4, _ => exact hR
          | 5, _ => exact hR
          | 6, _ => exact hR
          | 7, _ =>
            obtain ⟨g, hz, hgW, hg7⟩ := hR
            refine ⟨g, hz, hgW, ?_⟩
            rcases hle with ⟨-, hg8⟩ | hb8
            · exact (hg8.block g (Array.getElem?_eq_some_iff.1 hg7).1 (fun e => by have := HRow.out g e.symm; omega)).trans hg7
            · exact (hb8.block g (Array.getElem?_eq_some_iff.1 hg7).1).trans hg7
          | 8, _ =>
            rcases hle with ⟨hj, -⟩ | hb8
            · exact absurd hj (Ne.symm hij)
            · exact own_below hR hb8
          | 9, _ => exact hR
          | n + 10, hn => exact absurd hn (by omega)
        · intro i hi Ld u w7 kk hkk hL hC hdp
          match i, hi with
          | 0, _ =>
            refine wpOp_step rfl (fun K hK => ?_)
            clear hdp
            go_simp
            exact hK _ _ ⟨.pointer (some ⟨w.heap.size + 1 + 1, 0, none⟩), rfl, rfl, .inr (Below.refl _ _), ⟨hC.1, fun hn => hC.2 (fun h => hn (.inr h))⟩⟩
          | 1, _ =>
            have a1 := (HV.out w7 hC.1).cell
            have e0 : u 0 = .pointer (some ⟨w.heap.size + 1 + 1, 0, none⟩) := hdp 0 (dep_of (by kernel_rfl))
            refine wpOp_step rfl (fun K hK => ?_)
            clear hdp
            go_simp
            exact hK _ _ ⟨xv, by simp [upd, e0], rfl, .inr (Below.refl _ _), ⟨hC.1, fun hn => hC.2 (fun h => hn (.inr h))⟩⟩
          | 2, _ =>
            refine wpOp_step rfl (fun K hK => ?_)
            clear hdp
            go_simp
            exact hK _ _ ⟨.pointer (some ⟨w.heap.size, 0, none⟩), rfl, rfl, .inr (Below.refl _ _), ⟨hC.1, fun hn => hC.2 (fun h => hn (.inr h))⟩⟩
          | 3, _ =>
            have a3 := (HX.out w7 hC.1).1
            have e2 : u 2 = .pointer (some ⟨w.heap.size, 0, none⟩) := hdp 2 (dep_of (by kernel_rfl))
            refine wpOp_step rfl (fun K hK => ?_)
            clear hdp
            go_simp
            exact hK _ _ ⟨.slice (some ⟨b, o, none⟩) L.length c, by simp [upd, e2], rfl, .inr (Below.refl _ _), ⟨hC.1, fun hn => hC.2 (fun h => hn (.inr h))⟩⟩
          | 4, _ =>
            refine wpOp_step rfl (fun K hK => ?_)
            clear hdp
            go_simp
            exact hK _ _ ⟨.int .i64 (k : Int), rfl, rfl, .inr (Below.refl _ _), ⟨hC.1, fun hn => hC.2 (fun h => hn (.inr h))⟩⟩
          | 5, _ =>
            have e3 : u 3 = .slice (some ⟨b, o, none⟩) L.length c := hdp 3 (dep_of (by kernel_rfl))
            have e4 : u 4 = .int .i64 (k : Int) := hdp 4 (dep_of (by kernel_rfl))
            refine wpOp_step rfl (fun K hK => ?_)
            clear hdp
            go_simp
            exact hK _ _ ⟨.pointer (some ⟨b, o + k * 9, none⟩), by simp [upd, e3, e4], rfl, .inr (Below.refl _ _), ⟨hC.1, fun hn => hC.2 (fun h => hn (.inr h))⟩⟩
          | 6, _ =>
            obtain ⟨-, x0, x1, x2, x3, x4, x5, x6, x7, x8⟩ := HX.out w7 hC.1
            have e5 : u 5 = .pointer (some ⟨b, o + k * 9, none⟩) := hdp 5 (dep_of (by kernel_rfl))
            refine wpOp_step rfl (fun K hK => ?_)
            clear hdp
            go_simp
            exact hK _ _ ⟨.agg #[.string e.place, .int .i64 e.mask, .int .i64 e.rsp.code, .int .i64 e.rsp.mx, .bool e.rsp.hide, .string e.rsp.tag, .int .i64 e.rsp.cod, .string e.rsp.body, .int .i64 e.tm], by simp [upd, e5], rfl, .inr (Below.refl _ _), ⟨hC.1, fun hn => hC.2 (fun h => hn (.inr h))⟩⟩
          | 7, _ =>
            have e6 : u 6 = .agg #[.string e.place, .int .i64 e.mask, .int .i64 e.rsp.code, .int .i64 e.rsp.mx, .bool e.rsp.hide, .string e.rsp.tag, .int .i64 e.rsp.cod, .string e.rsp.body, .int .i64 e.tm] := hdp 6 (dep_of (by kernel_rfl))
            refine wpOp_step rfl (fun K hK => ?_)
            clear hdp
            go_simp
            exact hK _ _ ⟨_, by simp [upd, e6], ⟨_, rfl, hC.1.size, heap_alloc_new w7 _⟩, .inr ((Below.refl _ _).alloc (Nat.le_refl _) _), grown_trans hC.1 (World.grownBy_alloc _ _ _), fun hn => (hC.2 fun h => hn (.inr h)).alloc hC.1.size _⟩
          | 8, _ =>
            have e1 : u 1 = xv := hdp 1 (dep_of (by kernel_rfl))
            obtain ⟨g, e7, hgW, hg7⟩ : ∃ g, u 7 = .slice (some ⟨g, 0, none⟩) 1 1 ∧ wr.heap.size ≤ g ∧ w7.heap[g]? = some (.cells (enC e) 48 (0, 0)) := hdp 7 (dep_of (by kernel_rfl))
            have hB7 := hC.2 hL
            have ho7 := own_below hown hB7
            have hcl := HC9.out w7 g hg7
            refine wpOp_step rfl (fun K hK => ?_)
            clear hdp
            refine step_append_row rfl (.tmp 19) (.tmp 25) 33 rfl wA.heap.size 48 i0 _ 9 96 Tryz.underlying33 hi0 hz0 hz1 hz2 rfl (by decide) (xv) (wtE (L.take k) q).length (ecells (wtE (L.take k) q)) (by simp [Act.eval, e1]) ho7 ⟨g, 0, none⟩ 1 1 (enL e) (by simp [Act.eval, e7]) rfl hcl (HOne.out) (by unfold maxLen; omega) (by omega) (Nat.le_trans hbW hC.1.size) ?_
            intro v' w8 ho8 hg8
            exact hK _ _ ⟨v', by simp [Act.put, upd], ho8, .inl ⟨rfl, hg8⟩, grown_trans hC.1 hg8, fun hn => absurd (.inl rfl) hn⟩
          | 9, _ =>
            refine wpOp_step rfl (fun K hK => ?_)
            clear hdp
            go_simp
            exact hK _ _ ⟨.pointer (some ⟨w.heap.size + 1 + 1, 0, none⟩), rfl, rfl, .inr (Below.refl _ _), ⟨hC.1, fun hn => hC.2 (fun h => hn (.inr h))⟩⟩
          | n + 10, hn => exact absurd hn (by omega)
        · intro Ld u w7 kk hkk hC hdp
          have ho8 : w7.ownsRow wA.heap.size 48 9 (u 8) ((wtE (L.take k) q).length + 1) (ecells (wtE (L.take k) q) ++ enL e) := hdp 8 (by decide)
          have e9 : u 9 = .pointer (some ⟨w.heap.size + 1 + 1, 0, none⟩) := hdp 9 (by decide)
          obtain ⟨g8, cap8, e8⟩ := ownsRow_succ ho8
          rw [e8] at ho8
          have hv7 := HV.out w7 hC.1
          have a1 := hv7.cell
          have a2 := hv7.frozen
          have HG7 := Lib.hid hC.1
          obtain ⟨hv8, ho9⟩ := told_row hv7 (by decide) ho8
          have HO8 := Lib.hid (And.intro ho9 hv8)
          refine wpOp_step rfl (fun K hK => ?_)
          clear hdp hC ho8 hv7 ho9 hv8
          go_simp
          refine hK _ _ ?_
          clear hK K e8 e9
          go_wp2
          go_roundw
          case rel =>
            obtain ⟨ho9, hv8⟩ := HO8.out
            refine ⟨k + 1, _, by omega, by go_num, hv8, by rw [HTl.out.1, HTl.out.2]; exact ho9, ?_, fun h => absurd h (by rw [HTl.out.1]; omega)⟩
            exact (HB7.out _ HG7.out).setCell (p := ⟨w.heap.size + 1 + 1, 0, none⟩) (by simp) _
          case measure => simp [intOf]; omega
    · obtain rfl : k = L.length := by omega
      rw [List.take_length] at hown hnil
      obtain ⟨a', c', rfl⟩ := own_slice hown
      have HNl := Lib.hid hnil
      have b1 := (hB.block _ (by omega)).trans H1.out
      have u0 := hv.cell
      obtain ⟨u1, u2⟩ := one_box b1
      obtain ⟨k1, k2⟩ := told_row b1 (by decide) hown
      have k3 := Boxed.cell k1
      have HF := Lib.hid (And.intro k3 (And.intro (own_lowB k2 (show w.heap.size ≤ wA.heap.size from by omega)) ((HbA.out.trans (hB.mono (by omega))).setCell (p := ⟨w.heap.size + 1, 0, none⟩) (by simp) (.slice a' (wtE L q).length c'))))
      clear hv hown hB b0 t0 b1 k1 k2 k3 hnil
      go_wp2
      obtain ⟨k3, k2, k4⟩ := HF.out
      refine bodyPost_ret (v := .agg #[.slice a' (wtE L q).length c']) (by simp [results, Tryz.results79, go_sem, k3]) rfl ⟨_, rfl, k2, k4, HNl.out⟩
end Go.Proofs.YtbhnjnoblkfckaaGreatDoor

