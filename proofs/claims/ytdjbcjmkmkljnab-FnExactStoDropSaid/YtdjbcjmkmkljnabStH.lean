/- Walks: links, by the program: storage made of a chain. -/
import Derived.Test.YtdjbcjmkmkljnabStE
import Derived.Test.YtdjbcjmkmkljnabStE2
import Derived.Test.YtdjbcjmkmkljnabStG
import Derived.Test.YtdjbcjmkmkljnabRegI
namespace Go.Proofs.Ytdjbcjmkmkljnab
open Go.RowKit Go.Maps Go.Shelf
attribute [local go_sem] Oper.semAt_some

theorem getLast_take {α : Type} (L : List α) (k : Nat) {x : α} (h : L[k]? = some x) : L.take (k + 1) = L.take k ++ [x] := by rw [List.take_add_one, h]; rfl
/-- What the iterator reads, off a chain that lies. -/
theorem chn_fact {W : World} {c mb B N bx k : Nat} {M : List (Nat × En)} (h : Chn W c mb B N M) (hb : W.cell? ⟨bx, 0, none⟩ = some (.pointer (some ⟨c, 0, none⟩))) : LkFact (M.map (·.1)) bx c k W := by
  refine ⟨fun _ => ⟨hb, ?_⟩, fun j b _ hj => ?_⟩
  · have := (ch_facts h.head).1
    rw [this]
    cases M <;> rfl
  · obtain ⟨x, hx, rfl⟩ : ∃ x, M[j]? = some x ∧ x.1 = b := by simpa using hj
    obtain ⟨hlt, rfl⟩ := List.getElem?_eq_some_iff.1 hx
    have hs : M = M.take j ++ M[j] :: M.drop (j + 1) := by rw [← List.drop_eq_getElem_cons hlt, List.take_append_drop]
    have h2 := h
    rw [hs] at h2
    have := (lk_facts (Chn.link (b := M[j].1) (e := M[j].2) h2)).2.2.2.1
    rw [this]
    unfold hdB
    rw [List.head?_drop, List.getElem?_map]

/-- 'append' on a row of the call's own, as one step of a region that draws, in a round. -/
theorem stepIn_append_own {l nF : Nat} {P : Program} {ops : Array Oper} {o : Oper} {a : Act} {w : World} {K : Act → World → Prop} {Q : Exit → Act → World → Prop} {E : Prop}
    (hg : o.guard = none) (s x : Operand) (t : TypeId) (hop : o.op = Op.call { callee := Callee.builtin Builtin.append, args := #[s, x], argTypes := #[t, t] })
    (base : Nat) (e : TypeId) (i : TypeInfo) (z : Value) (size bytes : Nat) (h1 : P.underlying t = some (.slice e)) (h2 : P.info? e = some i) (h3 : i.zero = some z) (h4 : i.size = size) (h5 : i.bytes = bytes) (h6 : z.cells.size = size) (h7 : 0 < size)
    (v : Value) (n : Nat) (xs : List Value) (hs : a.eval s = v) (hown : w.ownsRow base e size v n xs)
    (ad : Addr) (m c : Nat) (news : List Value) (hx : a.eval x = .slice (some ad) m c) (hn : news.length = m * size) (hc : ∀ j u, news[j]? = some u → w.cell? (ad.add j) = some u) (h1c : ∀ u ∈ news, u.oneCell' = true)
    (b1 : n + m ≤ maxLen) (b2 : (n + m) * bytes ≤ 140737488355328) (hbase : base ≤ w.heap.size)
    (hK : ∀ v' w', w'.ownsRow base e size v' (n + m) (xs ++ news) → w.grownBy w' v.ownBlock → K (a.put o.dst v') w') :
    if Region.wanted o (yielded ops a.tmps) = true then Oper.wpIn (Fence.wide.inRound l) nF P o a w K Q else E := by
  have hw : Region.wanted o (yielded ops a.tmps) = true := by simp [Region.wanted, hg]
  rw [if_pos hw]
  obtain ⟨v', w', hrun, r1, r2, _⟩ := run_append_own (P := P) w base t o.type e i z size bytes h1 h2 h3 h4 h5 h6 h7 v n xs hown ad m c news hn hc h1c b1 b2 hbase
  unfold Oper.wpIn
  refine ⟨fun _ _ => trivial, ?_⟩
  rw [show (Fence.wide.inRound l).round = some l from rfl, Oper.semAt_some l _ o (fun c' h => by rw [hop] at h; cases h)]
  simp [execOp, hop, resolve, invoke, builtin, hs, hx, hrun, Result.andThen]
  exact hK v' w' r1 r2

set_option maxRecDepth 100000 in
set_option maxHeartbeats 3200000 in
theorem store_of (c mb B N : Nat) (M : List (Nat × En)) (w : World) (h : Chn w c mb B N M) (hn : M.length ≤ 2000000) :
    Calls Try.prog 24 #[.pointer (some ⟨c, 0, none⟩)] w fun e' w' => ∃ v, e' = .returned (.agg #[v]) ∧ w'.ownsRow w.heap.size 43 9 v M.length (ecells (M.map (·.2))) ∧ Below w.heap.size w w' := by
  have hro : Fence.wide.round = none := rfl
  obtain ⟨i0, hi0, hz0, hz1, hz2⟩ := info_parts Try.infoEn
  refine (callsIn_wide (n := 9)).1 ?_
  refine callsIn_of_wp_marks Try.func24 rfl trivial ?_ hro
  simp only [Try.ntmps24, List.size_toArray, List.length_cons, List.length_nil, Nat.reduceAdd, Nat.reduceSub, Array.replicate_succ, Array.replicate_zero, List.push_toArray, List.append_toArray, List.nil_append, List.cons_append]
  gi_wp2_with (refine ⟨trivial, ?_⟩; gi_at_call 21; refine (links_in _ _ _).mono ?_; rintro e w' ⟨rfl, rfl⟩)
  obtain ⟨W0, hW0⟩ : ∃ W0, ((w.alloc (.cells #[.slice none 0 0] 28)).alloc (.cells #[.slice none 0 0] 28)).alloc (.cells #[.pointer (some ⟨c, 0, none⟩)] 45) = W0 := ⟨_, rfl⟩
  have b2 := Boxed.new ((w.alloc (.cells #[.slice none 0 0] 28)).alloc (.cells #[.slice none 0 0] 28)) 45 (.pointer (some ⟨c, 0, none⟩))
  have b1 := (Boxed.new (w.alloc (.cells #[.slice none 0 0] 28)) 28 (.slice none 0 0)).alloc (.cells #[.pointer (some ⟨c, 0, none⟩)] 45)
  have b0 := ((Boxed.new w 28 (.slice none 0 0)).alloc (.cells #[.slice none 0 0] 28)).alloc (.cells #[.pointer (some ⟨c, 0, none⟩)] 45)
  have hB0 : Below w.heap.size w (((w.alloc (.cells #[.slice none 0 0] 28)).alloc (.cells #[.slice none 0 0] 28)).alloc (.cells #[.pointer (some ⟨c, 0, none⟩)] 45)) := (((Below.refl _ w).alloc (Nat.le_refl _) _).alloc (by simp) _).alloc (by simp; omega) _
  have hsz : (((w.alloc (.cells #[.slice none 0 0] 28)).alloc (.cells #[.slice none 0 0] 28)).alloc (.cells #[.pointer (some ⟨c, 0, none⟩)] 45)).heap.size = w.heap.size + 3 := by simp
  simp only [World.size_alloc] at b0 b1 b2
  rw [hW0] at b0 b1 b2 hB0 hsz ⊢
  have HE := Lib.hid (fun x (hx : x ∈ M) => h.ok x hx)
  have HC : Hid (∀ W, Below w.heap.size w W → Chn W c mb B N M) := Lib.hid fun W hW => h.below hW
  clear hW0 h
  refine wpIn_rangeCnt hro (by decide) (gf := 39) (lb := #[.pointer (some ⟨w.heap.size + 1 + 1, 0, none⟩)]) rfl trivial (enters_of Try.func39 (by kernel_rfl) rfl)
    (links_seq 8 (by decide) (M.map (·.1)) (w.heap.size + 1 + 1) c (by simp; omega)) (fun _ => rfl)
    (fun k W => ((∃ v, Boxed W (w.heap.size + 1) 28 v ∧ W.ownsRow w.heap.size 43 9 v k (ecells ((M.map (·.2)).take k)) ∧ True) ∧ Boxed W w.heap.size 28 (.slice none 0 0)) ∧ (Boxed W (w.heap.size + 1 + 1) 45 (.pointer (some ⟨c, 0, none⟩)) ∧ Below w.heap.size w W))
    (fun _ _ _ => False)
    (OwnFrom.and (OwnFrom.and (Own.from (holdsRow_own _ _ _ _ _ _ _ (fun _ _ => True)) _) (Own.from (boxed_own _ _ _) _)) (OwnFrom.and (Own.from (boxed_own _ _ _) _) (ownFrom_below (Nat.le_refl _) (by omega))))
    (fun c => ownFrom_pure _ _)
    (fun k W hI => chn_fact (HC.out W hI.2.2) hI.2.1.cell)
    ⟨⟨⟨_, b1, World.ownsRow_nil _ _ _ _, trivial⟩, b0⟩, b2, hB0⟩
    (fun k => { tmps := #[.pointer (some ⟨c, 0, none⟩), undef, .pointer (some ⟨w.heap.size, 0, none⟩), .pointer (some ⟨w.heap.size + 1, 0, none⟩), undef, .pointer (adO (M.map (·.1))[k]?), .pointer (some ⟨c, 0, none⟩), .func (.func 39) #[] #[.pointer (some ⟨w.heap.size + 1 + 1, 0, none⟩)], .int .i64 (k : Int), .pointer (adO (M.map (·.1))[k]?), undef, undef, undef, undef, undef, undef, undef, undef, undef, undef, undef], defers := [] })
    ?assign ?body ?done ?stop
  case assign =>
    intro l k W K hK
    unfold lkEnc ptrO
    generalize adO (M.map (·.1))[k]? = z at hK ⊢
    gi_wp2
    exact hK
  case body =>
    rintro l k W hl ⟨r, hr⟩ hk ⟨⟨⟨v, hv, hown, -⟩, hb0⟩, hb2, hBw⟩
    obtain ⟨x, hx⟩ : ∃ x, M[k]? = some x := ⟨_, List.getElem?_eq_getElem (by simpa using hk)⟩
    have hps : (M.map (·.1))[k]? = some x.1 := by rw [List.getElem?_map, hx]; rfl
    rw [hps]
    show Code.wpIn _ _ _ _ _ { tmps := #[_, _, _, _, _, .pointer (some ⟨x.1, 0, none⟩), _, _, _, .pointer (some ⟨x.1, 0, none⟩), _, _, _, _, _, _, _, _, _, _, _], defers := [] } _
    gi_wp2_with fail
    have hsW := hBw.size
    have hCW := HC.out W hBw
    have HRow : Hid (∀ r, v.ownBlock = some r → r < W.heap.size ∧ w.heap.size ≤ r) := Lib.hid fun r hr => by have := hown.lt r hr; exact ⟨this.2, this.1⟩
    have hV : ∀ W7, W.grownBy W7 v.ownBlock → Boxed W7 (w.heap.size + 1) 28 v := fun W7 hg => hv.kept hg (hv.not_row (by decide) hown)
    have HX : Hid (∀ W7, W.grownBy W7 v.ownBlock → EAt W7 x.1 2 x.2) := Lib.hid fun W7 hg => by
      obtain ⟨hlt, hx'⟩ := List.getElem?_eq_some_iff.1 hx
      have hs : M = M.take k ++ M[k] :: M.drop (k + 1) := by rw [← List.drop_eq_getElem_cons hlt, List.take_append_drop]
      rw [hx'] at hs
      have h2 := hCW
      rw [hs] at h2
      have hl := Chn.link (b := x.1) (e := x.2) h2
      have hltw := (HC.out w (Below.refl _ _)).cs (j := x.1) (.inr (.inr (List.mem_map.2 ⟨x, List.mem_of_getElem? hx, rfl⟩)))
      have hl7 := (hg.block x.1 (Array.getElem?_eq_some_iff.1 hl).1 (fun e => by have := HRow.out _ e.symm; omega)).trans hl
      obtain ⟨-, ⟨y0, y1, y2, y3, y4, y5, y6, y7, y8⟩, -⟩ := lk_facts hl7
      exact ⟨y0, y1, y2, y3, y4, y5, y6, y7, y8⟩
    have HFr : Hid (∀ W, Calls Try.prog 41 #[.agg #[.string x.2.place, .int .i64 x.2.mask, .int .i64 x.2.rsp.code, .int .i64 x.2.rsp.mx, .bool x.2.rsp.hide, .string x.2.rsp.tag, .int .i64 x.2.rsp.cod, .string x.2.rsp.body, .int .i64 x.2.tm]] W fun e' w' => e' = .returned (.agg #[.string x.2.place, .int .i64 x.2.mask, .int .i64 x.2.rsp.code, .int .i64 x.2.rsp.mx, .bool x.2.rsp.hide, .string x.2.rsp.tag, .int .i64 x.2.rsp.cod, .string x.2.rsp.body, .int .i64 x.2.tm]) ∧ Below W.heap.size W w') := Lib.hid fun W => fresh_entry x.2 W (HE.out x (List.mem_of_getElem? hx))
    have HC9 : Hid (∀ (w7 : World) g, w7.heap[g]? = some (.cells (enC x.2) 43 (0, 0)) → ∀ j u, (enL x.2)[j]? = some u → w7.cell? ((⟨g, 0, none⟩ : Addr).add j) = some u) := Lib.hid fun w7 g hg j u hu => by
      rw [add0]
      have : w7.cell? ⟨g, j, none⟩ = (enC x.2)[j]? := by simp [World.cell?, hg]
      rw [this]
      simpa [enC, enL] using hu
    have HOne : Hid (∀ u ∈ enL x.2, u.oneCell' = true) := Lib.hid fun u hu => by
      simp only [enL, List.mem_cons, List.not_mem_nil, or_false] at hu
      rcases hu with rfl | rfl | rfl | rfl | rfl | rfl | rfl | rfl | rfl <;> rfl
    have hk2 : k < 2000000 := by simp at hk; omega
    have hk3 : k < M.length := by simpa using hk
    refine wpIn_region_lastL (by kernel_rfl) 10 (by kernel_rfl) (by kernel_rfl) (by kernel_rfl)
      (fun u => { tmps := #[.pointer (some ⟨c, 0, none⟩), undef, .pointer (some ⟨w.heap.size, 0, none⟩), .pointer (some ⟨w.heap.size + 1, 0, none⟩), undef, .pointer (some ⟨x.1, 0, none⟩), .pointer (some ⟨c, 0, none⟩), .func (.func 39) #[] #[.pointer (some ⟨w.heap.size + 1 + 1, 0, none⟩)], .int .i64 (k : Int), .pointer (some ⟨x.1, 0, none⟩), u 0, u 1, u 2, u 3, u 4, u 5, u 6, u 7, u 8, u 9, undef], defers := [] })
      (fun L _ w7 => W.grownBy w7 v.ownBlock ∧ (¬ L 8 → Below W.heap.size W w7))
      (fun i z w7 => match i with
        | 0 => z = .pointer (some ⟨w.heap.size + 1, 0, none⟩)
        | 1 => z = v
        | 2 => z = .pointer (some ⟨x.1, 0, none⟩)
        | 3 => z = .pointer (some ⟨x.1, 0, none⟩)
        | 4 => z = .pointer (some ⟨x.1, 2, none⟩)
        | 5 => z = .agg #[.string x.2.place, .int .i64 x.2.mask, .int .i64 x.2.rsp.code, .int .i64 x.2.rsp.mx, .bool x.2.rsp.hide, .string x.2.rsp.tag, .int .i64 x.2.rsp.cod, .string x.2.rsp.body, .int .i64 x.2.tm]
        | 6 => z = .agg #[.string x.2.place, .int .i64 x.2.mask, .int .i64 x.2.rsp.code, .int .i64 x.2.rsp.mx, .bool x.2.rsp.hide, .string x.2.rsp.tag, .int .i64 x.2.rsp.cod, .string x.2.rsp.body, .int .i64 x.2.tm]
        | 7 => ∃ g, z = .slice (some ⟨g, 0, none⟩) 1 1 ∧ W.heap.size ≤ g ∧ w7.heap[g]? = some (.cells (enC x.2) 43 (0, 0))
        | 8 => w7.ownsRow w.heap.size 43 9 z (k + 1) (ecells ((M.map (·.2)).take k) ++ enL x.2)
        | 9 => z = .pointer (some ⟨w.heap.size + 1, 0, none⟩)
        | _ => True)
      (fun i w7 w8 => (i = 8 ∧ w7.grownBy w8 v.ownBlock) ∨ Below w7.heap.size w7 w8) (fun _ => undef) ⟨grown_drewN (World.grownBy.refl _ _) 1, fun _ => (Below.refl _ _).drew⟩ ?_ ?_ ?_
    · intro i j z w7 w8 hi hj hij hR hle
      match i, hi with
      | 0, _ => exact hR
      | 1, _ => exact hR
      | 2, _ => exact hR
      | 3, _ => exact hR
      | 4, _ => exact hR
      | 5, _ => exact hR
      | 6, _ => exact hR
      | 7, _ =>
        obtain ⟨g, hz, hgW, hg7⟩ := hR
        refine ⟨g, hz, hgW, ?_⟩
        rcases hle with ⟨-, hg8⟩ | hb8
        · exact (hg8.block g (Array.getElem?_eq_some_iff.1 hg7).1 (fun e => by have := HRow.out g e.symm; omega)).trans hg7
        · exact (hb8.block g (Array.getElem?_eq_some_iff.1 hg7).1).trans hg7
      | 8, _ =>
        rcases hle with ⟨hj, -⟩ | hb8
        · exact absurd hj (Ne.symm hij)
        · exact own_below hR hb8
      | 9, _ => exact hR
      | n + 10, hn => exact absurd hn (by omega)
    · intro i hi L u w7 kk hkk hL hC hdp
      match i, hi with
      | 0, _ =>
        refine wpOpIn_step rfl (fun K hK => ?_)
        clear hdp
        go_simp
        exact hK _ _ ⟨.pointer (some ⟨w.heap.size + 1, 0, none⟩), rfl, rfl, .inr (Below.refl _ _), ⟨hC.1, fun hn => hC.2 (fun h => hn (.inr h))⟩⟩
      | 1, _ =>
        have a1 := (hV w7 hC.1).cell
        have e0 : u 0 = .pointer (some ⟨w.heap.size + 1, 0, none⟩) := hdp 0 (dep_of (by kernel_rfl))
        refine wpOpIn_step rfl (fun K hK => ?_)
        clear hdp
        go_simp
        exact hK _ _ ⟨v, by simp [upd, e0], rfl, .inr (Below.refl _ _), ⟨hC.1, fun hn => hC.2 (fun h => hn (.inr h))⟩⟩
      | 2, _ =>
        refine wpOpIn_step rfl (fun K hK => ?_)
        clear hdp
        go_simp
        exact hK _ _ ⟨.pointer (some ⟨x.1, 0, none⟩), rfl, rfl, .inr (Below.refl _ _), ⟨hC.1, fun hn => hC.2 (fun h => hn (.inr h))⟩⟩
      | 3, _ =>
        have e2 : u 2 = .pointer (some ⟨x.1, 0, none⟩) := hdp 2 (dep_of (by kernel_rfl))
        refine wpOpIn_step rfl (fun K hK => ?_)
        clear hdp
        go_simp
        exact hK _ _ ⟨.pointer (some ⟨x.1, 0, none⟩), by simp [upd, e2], rfl, .inr (Below.refl _ _), ⟨hC.1, fun hn => hC.2 (fun h => hn (.inr h))⟩⟩
      | 4, _ =>
        have e3 : u 3 = .pointer (some ⟨x.1, 0, none⟩) := hdp 3 (dep_of (by kernel_rfl))
        refine wpOpIn_step rfl (fun K hK => ?_)
        clear hdp
        go_simp
        exact hK _ _ ⟨.pointer (some ⟨x.1, 2, none⟩), by simp [upd, e3], rfl, .inr (Below.refl _ _), ⟨hC.1, fun hn => hC.2 (fun h => hn (.inr h))⟩⟩
      | 5, _ =>
        obtain ⟨x0, x1, x2, x3, x4, x5, x6, x7, x8⟩ := HX.out w7 hC.1
        have e4 : u 4 = .pointer (some ⟨x.1, 2, none⟩) := hdp 4 (dep_of (by kernel_rfl))
        refine wpOpIn_step rfl (fun K hK => ?_)
        clear hdp
        go_simp
        exact hK _ _ ⟨.agg #[.string x.2.place, .int .i64 x.2.mask, .int .i64 x.2.rsp.code, .int .i64 x.2.rsp.mx, .bool x.2.rsp.hide, .string x.2.rsp.tag, .int .i64 x.2.rsp.cod, .string x.2.rsp.body, .int .i64 x.2.tm], by simp [upd, e4], rfl, .inr (Below.refl _ _), ⟨hC.1, fun hn => hC.2 (fun h => hn (.inr h))⟩⟩
      | 6, _ =>
        have e5 : u 5 = .agg #[.string x.2.place, .int .i64 x.2.mask, .int .i64 x.2.rsp.code, .int .i64 x.2.rsp.mx, .bool x.2.rsp.hide, .string x.2.rsp.tag, .int .i64 x.2.rsp.cod, .string x.2.rsp.body, .int .i64 x.2.tm] := hdp 5 (dep_of (by kernel_rfl))
        have hT := HFr.out w7
        refine wpOpIn_step rfl (fun K hK => ?_)
        clear hdp
        go_simp
        refine ⟨trivial, (CallsIn.inRound l (callsIn_wide.2 hT)).mono ?_⟩
        rintro e w8 ⟨rfl, hb8⟩
        exact hK _ _ ⟨.agg #[.string x.2.place, .int .i64 x.2.mask, .int .i64 x.2.rsp.code, .int .i64 x.2.rsp.mx, .bool x.2.rsp.hide, .string x.2.rsp.tag, .int .i64 x.2.rsp.cod, .string x.2.rsp.body, .int .i64 x.2.tm], by simp [upd, e5], rfl, .inr hb8, grown_trans hC.1 (grown_of_below hb8 _), fun hn => (hC.2 fun h => hn (.inr h)).trans (hb8.mono hC.1.size)⟩
      | 7, _ =>
        have e6 : u 6 = .agg #[.string x.2.place, .int .i64 x.2.mask, .int .i64 x.2.rsp.code, .int .i64 x.2.rsp.mx, .bool x.2.rsp.hide, .string x.2.rsp.tag, .int .i64 x.2.rsp.cod, .string x.2.rsp.body, .int .i64 x.2.tm] := hdp 6 (dep_of (by kernel_rfl))
        refine wpOpIn_step rfl (fun K hK => ?_)
        clear hdp
        go_simp
        exact hK _ _ ⟨_, by simp [upd, e6], ⟨_, rfl, hC.1.size, heap_alloc_new w7 _⟩, .inr ((Below.refl _ _).alloc (Nat.le_refl _) _), grown_trans hC.1 (World.grownBy_alloc _ _ _), fun hn => (hC.2 fun h => hn (.inr h)).alloc hC.1.size _⟩
      | 8, _ =>
        have e1 : u 1 = v := hdp 1 (dep_of (by kernel_rfl))
        obtain ⟨g, e7, hgW, hg7⟩ : ∃ g, u 7 = .slice (some ⟨g, 0, none⟩) 1 1 ∧ W.heap.size ≤ g ∧ w7.heap[g]? = some (.cells (enC x.2) 43 (0, 0)) := hdp 7 (dep_of (by kernel_rfl))
        have hB7 := hC.2 hL
        have ho7 := own_below hown hB7
        have hcl := HC9.out w7 g hg7
        refine wpOpIn_step rfl (fun K hK => ?_)
        clear hdp
        refine stepIn_append_own rfl (.tmp 11) (.tmp 17) 26 rfl w.heap.size 43 i0 _ 9 96 Try.underlying26 hi0 hz0 hz1 hz2 rfl (by decide) v k (ecells ((M.map (·.2)).take k)) (by simp [Act.eval, e1]) ho7 ⟨g, 0, none⟩ 1 1 (enL x.2) (by simp [Act.eval, e7]) rfl hcl (HOne.out) (by unfold maxLen; omega) (by omega) (Nat.le_trans hsW hC.1.size) ?_
        intro v' w8 ho8 hg8
        exact hK _ _ ⟨v', by simp [Act.put, upd], ho8, .inl ⟨rfl, hg8⟩, grown_trans hC.1 hg8, fun hn => absurd (.inl rfl) hn⟩
      | 9, _ =>
        refine wpOpIn_step rfl (fun K hK => ?_)
        clear hdp
        go_simp
        exact hK _ _ ⟨.pointer (some ⟨w.heap.size + 1, 0, none⟩), rfl, rfl, .inr (Below.refl _ _), ⟨hC.1, fun hn => hC.2 (fun h => hn (.inr h))⟩⟩
      | n + 10, hn => exact absurd hn (by omega)
    · intro L u w7 kk hkk hC hdp
      have ho8 : w7.ownsRow w.heap.size 43 9 (u 8) (k + 1) (ecells ((M.map (·.2)).take k) ++ enL x.2) := hdp 8 (by decide)
      have e9 : u 9 = .pointer (some ⟨w.heap.size + 1, 0, none⟩) := hdp 9 (by decide)
      obtain ⟨g8, cap8, e8⟩ := ownsRow_succ ho8
      rw [e8] at ho8
      have hv7 := hV w7 hC.1
      have a1 := hv7.cell
      have a2 := hv7.frozen
      have hNR := hv7.not_row (by decide) ho8
      have hKO : KeepsOthers W w7 := KeepsOthers.of_grownBy hC.1 fun j o ej hj => by
        rcases hown.2 with ⟨rfl, _⟩ | ⟨g, cap, cur, rfl, _, hgb, _⟩
        · simp [Value.ownBlock] at ej
        · obtain rfl : g = j := by simpa [Value.ownBlock] using ej
          rw [hgb] at hj; cases hj; rfl
      have hb7 := hb0.kept hC.1 (hb0.not_row (by decide) hown)
      have hc7 := hb2.kept hC.1 (hb2.not_row (by decide) hown)
      have hB7 : Below w.heap.size w w7 := hBw.grown hC.1 hsW fun r hr => (HRow.out r hr).2
      have HF := Lib.hid (And.intro ho8 (And.intro hNR (And.intro hKO (And.intro hb7 (And.intro hc7 (And.intro hB7 hv7))))))
      refine wpOpIn_step rfl (fun K hK => ?_)
      clear hdp hC ho8 hNR hKO hb7 hc7 hB7 hv7
      go_simp
      refine hK _ _ ?_
      clear hK K
      gi_wp2
      obtain ⟨ho8, hNR, hKO, hb7, hc7, hB7, hv7⟩ := HF.out
      refine ⟨(hKO.trans (KeepsOthers.setCell _ _ _)).from _, ⟨⟨⟨_, hv7.set _, ?_, trivial⟩, hb7.other (by omega) _⟩, hc7.other (by omega) _, hB7.setCell (p := ⟨w.heap.size + 1, 0, none⟩) (by simp) _⟩⟩
      have hk4 : ecells ((M.map (·.2)).take (k + 1)) = ecells ((M.map (·.2)).take k) ++ enL x.2 := by rw [getLast_take _ k (x := x.2) (by rw [List.getElem?_map, hx]; rfl), ecells_app]
      rw [hk4]
      exact ho8.kept (grownBy_setCell' w7 _ _) (.inr hNR.symm)
  case done =>
    rintro D W hD ⟨⟨⟨v, hv, hown, -⟩, hb0⟩, hb2, hBw⟩ hK
    rw [List.length_map, List.take_of_length_le (by simp)] at hown
    obtain ⟨a, cc, rfl⟩ : ∃ a cc, v = .slice a M.length cc := by
      rcases hown.2 with ⟨rfl, h0⟩ | ⟨g, cap, _, rfl, _⟩
      · exact ⟨none, 0, by rw [h0]⟩
      · exact ⟨_, _, rfl⟩
    have r1 := hv.cell
    have u1 := hb0.cell
    have u2 := hb0.frozen
    have hNR := hb0.not_row (by decide) hown
    have HO := Lib.hid hown
    clear hown
    gi_wp2
    have hk1 := KeepsOthers.setCell W ⟨w.heap.size, 0, none⟩ (.slice a M.length cc)
    have hK' := hk1.same D _ hK rfl
    refine ⟨by simp, .inl ⟨_, _, rfl, run_takeDeferred hK', ?_⟩⟩
    have hc5 := cell_kept (hb0.set (.slice a M.length cc)).cell (grownBy_putObj' _ D (.deferred none)) (fun r e => by cases e; exact ⟨_, hK', rfl⟩)
    refine ⟨.agg #[.slice a M.length cc], ?_, _, rfl, ?_, ?_⟩
    · simp [results, Try.f24, go_sem, hc5]
    · exact ownsRow_putObj (HO.out.kept (grownBy_setCell' W _ _) (.inr hNR.symm)) _ hK' rfl
    · exact (hBw.setCell (p := ⟨w.heap.size, 0, none⟩) (Nat.le_refl _) _).trans (belowK_b (w := w) (Nat.le_refl _) _ D _ _ (by omega) hK' rfl rfl)
  case stop => intro D c k W _ _ h; exact h.elim
end Go.Proofs.Ytdjbcjmkmkljnab
