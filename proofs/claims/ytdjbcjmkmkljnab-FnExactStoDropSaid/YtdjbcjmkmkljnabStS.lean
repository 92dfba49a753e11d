/- Walks: storage, by the specification: what is found; without one of it. -/
import Derived.Test.YtdjbcjmkmkljnabStI
import Derived.Test.YtdjbcjmkmkljnabRegL
namespace Go.Proofs.Ytdjbcjmkmkljnab
open Go.RowKit Go.Maps

theorem step_append_row {P : Program} {ops : Array Oper} {o : Oper} {a : Act} {w : World} {K : Act → World → Prop} {Q : Exit → Act → World → Prop} {E : Prop}
    (hg : o.guard = none) (s x : Operand) (t : TypeId) (hop : o.op = Op.call { callee := Callee.builtin Builtin.append, args := #[s, x], argTypes := #[t, t] })
    (base : Nat) (e : TypeId) (i : TypeInfo) (z : Value) (size bytes : Nat) (h1 : P.underlying t = some (.slice e)) (h2 : P.info? e = some i) (h3 : i.zero = some z) (h4 : i.size = size) (h5 : i.bytes = bytes) (h6 : z.cells.size = size) (h7 : 0 < size)
    (v : Value) (n : Nat) (xs : List Value) (hs : a.eval s = v) (hown : w.ownsRow base e size v n xs)
    (ad : Addr) (m c : Nat) (news : List Value) (hx : a.eval x = .slice (some ad) m c) (hn : news.length = m * size) (hc : ∀ j u, news[j]? = some u → w.cell? (ad.add j) = some u) (h1c : ∀ u ∈ news, u.oneCell' = true)
    (b1 : n + m ≤ maxLen) (b2 : (n + m) * bytes ≤ 140737488355328) (hbase : base ≤ w.heap.size)
    (hK : ∀ v' w', w'.ownsRow base e size v' (n + m) (xs ++ news) → w.grownBy w' v.ownBlock → K (a.put o.dst v') w') :
    if Region.wanted o (yielded ops a.tmps) = true then Oper.wp P o a w K Q else E := by
  have hw : Region.wanted o (yielded ops a.tmps) = true := by simp [Region.wanted, hg]
  rw [if_pos hw]
  obtain ⟨v', w', hrun, r1, r2, _⟩ := run_append_own (P := P) w base t o.type e i z size bytes h1 h2 h3 h4 h5 h6 h7 v n xs hown ad m c news hn hc h1c b1 b2 hbase
  unfold Oper.wp
  simp [execOp, hop, resolve, invoke, builtin, hs, hx, hrun, Result.andThen]
  exact hK v' w' r1 r2
theorem en_cells (w7 : World) (e : En) (g : Nat) (hg : w7.heap[g]? = some (.cells (enC e) 43 (0, 0))) : ∀ j u, (enL e)[j]? = some u → w7.cell? ((⟨g, 0, none⟩ : Addr).add j) = some u := fun j u hu => by
  rw [add0]
  have : w7.cell? ⟨g, j, none⟩ = (enC e)[j]? := by simp [World.cell?, hg]
  rw [this]
  simpa [enC, enL] using hu
theorem en_one (e : En) : ∀ u ∈ enL e, u.oneCell' = true := fun u hu => by
  simp only [enL, List.mem_cons, List.not_mem_nil, or_false] at hu
  rcases hu with rfl | rfl | rfl | rfl | rfl | rfl | rfl | rfl | rfl <;> rfl
theorem EAt.facts {w : World} {b o : Nat} {e : En} (h : EAt w b o e) : w.cell? ⟨b, o, none⟩ = some (.string e.place) ∧ w.cell? ⟨b, o + 1, none⟩ = some (.int .i64 e.mask) ∧ w.cell? ⟨b, o + 2, none⟩ = some (.int .i64 e.rsp.code) ∧ w.cell? ⟨b, o + 3, none⟩ = some (.int .i64 e.rsp.mx) ∧ w.cell? ⟨b, o + 4, none⟩ = some (.bool e.rsp.hide) ∧
    w.cell? ⟨b, o + 5, none⟩ = some (.string e.rsp.tag) ∧ w.cell? ⟨b, o + 6, none⟩ = some (.int .i64 e.rsp.cod) ∧ w.cell? ⟨b, o + 7, none⟩ = some (.string e.rsp.body) ∧ w.cell? ⟨b, o + 8, none⟩ = some (.int .i64 e.tm) :=
  ⟨h.c0, h.c1, h.c2, h.c3, h.c4, h.c5, h.c6, h.c7, h.c8⟩

theorem bytes_ext {a b : ByteArray} (h : a.data.toList = b.data.toList) : a = b := by
  cases a; cases b; simpa [Array.toList_inj] using h
def foundI (L : List En) (p : ByteArray) (m : Int) : Int := match findE L p m with | some k => (k : Int) | none => -1
theorem found_at {L : List En} {p : ByteArray} {m : Int} {k : Nat} {e : En} (hg : L[k]? = some e) (hk : isK p m e = true) (hb : ∀ (j : Nat) (f : En), j < k → L[j]? = some f → isK p m f = false) : findE L p m = some k := by
  unfold findE
  rw [List.findIdx?_eq_some_iff_getElem]
  obtain ⟨hlt, rfl⟩ := List.getElem?_eq_some_iff.1 hg
  exact ⟨hlt, hk, fun j hj => by rw [hb j L[j] hj (List.getElem?_eq_getElem (by omega))]; decide⟩
theorem found_none {L : List En} {p : ByteArray} {m : Int} (hb : ∀ (j : Nat) (f : En), L[j]? = some f → isK p m f = false) : findE L p m = none := by
  unfold findE
  rw [List.findIdx?_eq_none_iff]
  intro e he
  obtain ⟨j, hj⟩ := List.mem_iff_getElem?.1 he
  exact hb j e hj

set_option maxHeartbeats 1600000 in
theorem spec_stofind (v : Value) (L : List En) (p : ByteArray) (m : Int) (w : World) (hR : ERow w v L) :
    Calls Try.prog 28 #[.agg #[v], .string p, .int .i64 m] w fun e' w' => e' = .returned (.int .i64 (foundI L p m)) ∧ Below w.heap.size w w' := by
  obtain ⟨a, c, rfl, h1, h2, h3⟩ := hR
  unfold maxLen at h2
  have hb : Below w.heap.size w (w.alloc (.cells #[.slice a L.length c] 28)) := (Below.refl _ _).alloc (Nat.le_refl _) _
  have H3 := Lib.hid h3
  clear h3
  go_enter Try.func28, Try.ntmps28
  go_wp2
  go_loop [7] (fun i => ∃ k : Nat, k ≤ L.length ∧ i = .int .i64 k ∧ ∀ (j : Nat) (f : En), j < k → L[j]? = some f → isK p m f = false) (fun i => L.length - (intOf i).toNat)
  case atStart => exact ⟨0, Nat.zero_le _, rfl, fun j f hj => absurd hj (Nat.not_lt_zero _)⟩
  case round =>
    obtain ⟨k, hk, rfl, hno⟩ := hrel
    by_cases hlt : k < L.length
    · obtain ⟨e, hg⟩ : ∃ e, L[k]? = some e := ⟨_, List.getElem?_eq_getElem hlt⟩
      obtain ⟨b, o, rfl, hbl, he⟩ := H3.out k e hg
      have c0 := (hb.cell (p := ⟨b, o + k * 9, none⟩) hbl).trans he.c0
      have c1 := (hb.cell (p := ⟨b, o + k * 9 + 1, none⟩) hbl).trans he.c1
      have hbeq : (e.place.toList == p.toList) = decide (e.place = p) := by
        rw [Lib.toList_data, Lib.toList_data, Bool.eq_iff_iff, beq_iff_eq, decide_eq_true_eq]
        exact ⟨bytes_ext, fun h => by rw [h]⟩
      have hiK : isK p m e = (decide (e.place = p) && decide (e.mask = m)) := rfl
      have HNo := Lib.hid hno
      have HG := Lib.hid hg
      have Hb := Lib.hid hb
      by_cases q1 : e.place = p
      · rw [decide_eq_true q1] at hbeq
        by_cases q2 : e.mask = m
        · have HF : Hid (foundI L p m = (k : Int)) := Lib.hid (by unfold foundI; rw [found_at HG.out (by rw [hiK, decide_eq_true q1, decide_eq_true q2]; rfl) HNo.out])
          have q2' : (e.mask == m) = true := by simpa using q2
          clear hno hg he hiK hb H3 q1 q2
          go_wp2
          go_ret
          exact ⟨by rw [HF.out]; rfl, Hb.out⟩
        · have HK : Hid (isK p m e = false) := Lib.hid (by rw [hiK, decide_eq_false q2, Bool.and_false])
          have q2' : (e.mask == m) = false := by simpa using q2
          clear hno hg he hiK hb q1 q2
          go_wp2
          go_round
          case rel => exact ⟨k + 1, by omega, by go_num, fun j f hj hf => by
            rcases Nat.lt_succ_iff_lt_or_eq.1 hj with h | rfl
            · exact HNo.out j f h hf
            · rw [HG.out] at hf; cases hf; exact HK.out⟩
          case measure => simp [intOf]; omega
      · rw [decide_eq_false q1] at hbeq
        have HK : Hid (isK p m e = false) := Lib.hid (by rw [hiK, decide_eq_false q1, Bool.false_and])
        clear hno hg he hiK hb q1
        go_wp2
        go_round
        case rel => exact ⟨k + 1, by omega, by go_num, fun j f hj hf => by
          rcases Nat.lt_succ_iff_lt_or_eq.1 hj with h | rfl
          · exact HNo.out j f h hf
          · rw [HG.out] at hf; cases hf; exact HK.out⟩
        case measure => simp [intOf]; omega
    · have HF : Hid (foundI L p m = -1) := Lib.hid (by
        unfold foundI
        rw [found_none fun j f hf => hno j f (by have := (List.getElem?_eq_some_iff.1 hf).1; omega) hf])
      have Hb := Lib.hid hb
      clear hno hb
      go_wp2
      go_ret
      exact ⟨by rw [HF.out]; rfl, Hb.out⟩

/-- Without one of it. -/
def wtF : Nat → Int → List En → List En
  | _, _, [] => []
  | k, q, e :: r => if (k : Int) = q then wtF (k + 1) q r else e :: wtF (k + 1) q r
def wtE (L : List En) (q : Int) : List En := wtF 0 q L
theorem wtF_snoc (q : Int) (e : En) : ∀ (L : List En) (k : Nat), wtF k q (L ++ [e]) = wtF k q L ++ (if ((k + L.length : Nat) : Int) = q then [] else [e])
  | [], k => by simp [wtF]
  | x :: L, k => by
    have ih := wtF_snoc q e L (k + 1)
    have e1 : k + 1 + L.length = k + (x :: L).length := by simp; omega
    rw [e1] at ih
    show (if (k : Int) = q then wtF (k + 1) q (L ++ [e]) else x :: wtF (k + 1) q (L ++ [e])) = (if (k : Int) = q then wtF (k + 1) q L else x :: wtF (k + 1) q L) ++ _
    rw [ih]
    split <;> simp
theorem wtE_snoc {L : List En} {q : Int} {k : Nat} {e : En} (h : L[k]? = some e) : wtE (L.take (k + 1)) q = wtE (L.take k) q ++ (if (k : Int) = q then [] else [e]) := by
  obtain ⟨hlt, rfl⟩ := List.getElem?_eq_some_iff.1 h
  rw [List.take_add_one, h]
  show wtF 0 q (L.take k ++ [L[k]]) = _
  rw [wtF_snoc, List.length_take, Nat.zero_add, show min k L.length = k from by omega]
  rfl
theorem wtF_len (q : Int) : ∀ (L : List En) (k : Nat), (wtF k q L).length ≤ L.length
  | [], _ => Nat.le_refl _
  | x :: L, k => by
    have := wtF_len q L (k + 1)
    unfold wtF
    split
    · simp; omega
    · simp; omega
theorem wtE_len (L : List En) (q : Int) : (wtE L q).length ≤ L.length := wtF_len q L 0
theorem wtF_lo (q : Int) : ∀ (L : List En) (k : Nat), q < (k : Int) → wtF k q L = L
  | [], _, _ => rfl
  | x :: L, k, h => by unfold wtF; rw [if_neg (by omega), wtF_lo q L (k + 1) (by omega)]
theorem wtF_at (i : Nat) : ∀ (L : List En) (k : Nat), k ≤ i → wtF k (i : Int) L = L.eraseIdx (i - k)
  | [], _, _ => by simp [wtF]
  | x :: L, k, h => by
    unfold wtF
    by_cases e : k = i
    · subst e
      rw [if_pos rfl, wtF_lo _ _ _ (by omega), Nat.sub_self]; rfl
    · rw [if_neg (by omega), wtF_at i L (k + 1) (by omega), show i - k = (i - (k + 1)) + 1 from by omega]; rfl
theorem wtE_neg (L : List En) {q : Int} (h : q < 0) : wtE L q = L := wtF_lo q L 0 (by omega)
theorem wtE_at (L : List En) (i : Nat) : wtE L (i : Int) = L.eraseIdx i := by
  have := wtF_at i L 0 (Nat.zero_le _)
  rwa [Nat.sub_zero] at this
theorem find_erase : ∀ (L : List En) (p : En → Bool), L.eraseP p = (match L.findIdx? p with | some k => L.eraseIdx k | none => L)
  | [], _ => rfl
  | x :: L, p => by
    rw [List.eraseP_cons, List.findIdx?_cons]
    cases hp : p x with
    | true => simp
    | false =>
      have ih := find_erase L p
      simp only [Bool.false_eq_true, if_false]
      rw [ih]
      cases List.findIdx? p L with
      | some k => rfl
      | none => rfl
theorem wtE_found (L : List En) (p : ByteArray) (m : Int) : wtE L (foundI L p m) = outE L p m := by
  unfold outE foundI findE
  rw [find_erase]
  cases List.findIdx? (isK p m) L with
  | some k => exact wtE_at L k
  | none => exact wtE_neg L (by decide)
theorem wtE_use {L : List En} {i : Nat} {e : En} (h : L[i]? = some e) : useE L (i : Int) = e :: wtE L (i : Int) := by
  unfold useE
  rw [if_pos (by omega), Int.toNat_natCast, h, wtE_at]

/-- A store of a new row; one of nothing is no row. -/
def SRetN (w : World) (L : List En) (e' : Ending) (w' : World) : Prop := ∃ v', e' = .returned (.agg #[v']) ∧ w'.ownsRow w.heap.size 43 9 v' L.length (ecells L) ∧ Below w.heap.size w w' ∧ (L.length = 0 → v' = .slice none 0 0)

set_option maxRecDepth 100000 in
set_option maxHeartbeats 6400000 in
theorem spec_without (v : Value) (L : List En) (q : Int) (w : World) (hR : ERow w v L) (hn : L.length ≤ 2000000) :
    Calls Try.prog 18 #[.agg #[v], .int .i64 q] w (SRetN w (wtE L q)) := by
  obtain ⟨i0, hi0, hz0, hz1, hz2⟩ := info_parts Try.infoEn
  obtain ⟨wA, hwA⟩ : ∃ wA, wA = ((w.alloc (.cells #[v] 28)).alloc (.cells #[.slice none 0 0] 28)).alloc (.cells #[.slice none 0 0] 28) := ⟨_, rfl⟩
  have hbA : Below w.heap.size w wA := by rw [hwA]; exact (((Below.refl _ _).alloc (Nat.le_refl _) _).alloc (by simp) _).alloc (by simp; omega) _
  have hsA : wA.heap.size = w.heap.size + 3 := by rw [hwA]; simp
  have h0 : Boxed wA w.heap.size 28 v := by rw [hwA]; exact ((Boxed.new w _ _).alloc _).alloc _
  have h1 : Boxed wA (w.heap.size + 1) 28 (.slice none 0 0) := by
    rw [hwA]
    have := Boxed.new (w.alloc (.cells #[v] 28)) 28 (.slice none 0 0)
    rw [World.size_alloc] at this
    exact this.alloc _
  have h2 : Boxed wA (w.heap.size + 1 + 1) 28 (.slice none 0 0) := by
    rw [hwA]
    have := Boxed.new ((w.alloc (.cells #[v] 28)).alloc (.cells #[.slice none 0 0] 28)) 28 (.slice none 0 0)
    rw [World.size_alloc, World.size_alloc] at this
    exact this
  obtain ⟨a, c, rfl, hl1, hl2, h3⟩ := hR
  unfold maxLen at hl2
  have H3 := Lib.hid h3
  have HW := Lib.hid hwA
  have H0 := Lib.hid h0
  have H1 := Lib.hid h1
  have H2 := Lib.hid h2
  have HbA := Lib.hid hbA
  clear hwA h0 h1 h2 h3 hbA
  go_enter Try.func18, Try.ntmps18
  go_wp2_with fail
  rw [← HW.out]
  go_loopw [6] (fun i wr => ∃ (k : Nat) (xv : Value), k ≤ L.length ∧ i = .int .i64 k ∧ Boxed wr (w.heap.size + 1 + 1) 28 xv ∧ wr.ownsRow wA.heap.size 43 9 xv (wtE (L.take k) q).length (ecells (wtE (L.take k) q)) ∧ Below (w.heap.size + 1 + 1) wA wr ∧ ((wtE (L.take k) q).length = 0 → xv = .slice none 0 0)) (fun i _ => L.length - (intOf i).toNat)
  case atStart => exact ⟨0, _, Nat.zero_le _, rfl, H2.out, World.ownsRow_nil _ _ _ _, Below.refl _ _, fun _ => rfl⟩
  case round =>
    obtain ⟨k, xv, hk, rfl, hv, hown, hB, hnil⟩ := hrel
    have hs0 := hB.size
    have b0 := (hB.block _ (by omega)).trans H0.out
    have t0 := one_box b0
    have t00 := t0.1
    by_cases hlt : k < L.length
    · obtain ⟨e, hg⟩ : ∃ e, L[k]? = some e := ⟨_, List.getElem?_eq_getElem hlt⟩
      obtain ⟨b, o, rfl, hbl, he⟩ := H3.out k e hg
      have hsn := wtE_snoc (q := q) hg
      by_cases hkq : (k : Int) = q
      · rw [if_pos hkq, List.append_nil] at hsn
        have hq' : ((k : Int) == q) = true := by simpa using hkq
        have hqn : ((k : Int) != q) = false := by simp [bne, hq']
        have HTl := Lib.hid hsn
        have HF := Lib.hid (And.intro hv (And.intro hown (And.intro hB hnil)))
        clear hsn hg he hv hown hB b0 t0 hkq hnil
        go_wp2
        go_roundw
        case rel => exact ⟨k + 1, xv, by omega, by go_num, HF.out.1, by rw [HTl.out]; exact HF.out.2.1, HF.out.2.2.1, by rw [HTl.out]; exact HF.out.2.2.2⟩
        case measure => simp [intOf]; omega
      · rw [if_neg hkq] at hsn
        have hq' : ((k : Int) == q) = false := by simpa using hkq
        have hqn : ((k : Int) != q) = true := by simp [bne, hq']
        have HTl : Hid ((wtE (L.take (k + 1)) q).length = (wtE (L.take k) q).length + 1 ∧ ecells (wtE (L.take (k + 1)) q) = ecells (wtE (L.take k) q) ++ enL e) := Lib.hid (by rw [hsn, ecells_app, List.length_append]; exact ⟨rfl, rfl⟩)
        have hbW : wA.heap.size ≤ wr.heap.size := hs0
        have HRow : Hid (∀ r, xv.ownBlock = some r → r < wr.heap.size ∧ wA.heap.size ≤ r) := Lib.hid fun r hr => by have := hown.lt r hr; exact ⟨this.2, this.1⟩
        have HV : Hid (∀ W7, wr.grownBy W7 xv.ownBlock → Boxed W7 (w.heap.size + 1 + 1) 28 xv) := Lib.hid fun W7 hg => hv.kept hg (hv.not_row (by decide) hown)
        have HX : Hid (∀ W7, wr.grownBy W7 xv.ownBlock → W7.cell? ⟨w.heap.size, 0, none⟩ = some (.slice (some ⟨b, o, none⟩) L.length c) ∧ W7.cell? ⟨b, o + k * 9, none⟩ = some (.string e.place) ∧ W7.cell? ⟨b, o + k * 9 + 1, none⟩ = some (.int .i64 e.mask) ∧ W7.cell? ⟨b, o + k * 9 + 2, none⟩ = some (.int .i64 e.rsp.code) ∧ W7.cell? ⟨b, o + k * 9 + 3, none⟩ = some (.int .i64 e.rsp.mx) ∧
            W7.cell? ⟨b, o + k * 9 + 4, none⟩ = some (.bool e.rsp.hide) ∧ W7.cell? ⟨b, o + k * 9 + 5, none⟩ = some (.string e.rsp.tag) ∧ W7.cell? ⟨b, o + k * 9 + 6, none⟩ = some (.int .i64 e.rsp.cod) ∧ W7.cell? ⟨b, o + k * 9 + 7, none⟩ = some (.string e.rsp.body) ∧ W7.cell? ⟨b, o + k * 9 + 8, none⟩ = some (.int .i64 e.tm)) := Lib.hid fun W7 hg => by
          have hk2 : ∀ j, j < wA.heap.size → j < wr.heap.size → W7.heap[j]? = wr.heap[j]? := fun j h1 h2 => hg.block j h2 fun e => by have := HRow.out j e.symm; omega
          refine ⟨(one_box ((hk2 _ (by omega) (by omega)).trans b0)).1, ?_⟩
          have hbb : W7.heap[b]? = w.heap[b]? := ((hk2 b (by omega) (by omega)).trans (hB.block b (by omega))).trans (HbA.out.block b hbl)
          exact (he.keep hbb).facts
        have HC9 := Lib.hid (fun w7 g hg => en_cells w7 e g hg)
        have HOne := Lib.hid (en_one e)
        have HB7 : Hid (∀ W7, wr.grownBy W7 xv.ownBlock → Below (w.heap.size + 1 + 1) wA W7) := Lib.hid fun W7 hg => hB.grown hg (by omega) fun r hr => by have := (HRow.out r hr).2; omega
        have hwl : (wtE (L.take k) q).length ≤ k := by have := wtE_len (L.take k) q; rw [List.length_take] at this; omega
        clear hsn hg he hv hB b0 t0 hkq hnil
        go_wp2_with fail
        clear t00
        refine wp_region_lastL (by kernel_rfl) 10 (by kernel_rfl) (by kernel_rfl) (by kernel_rfl)
          (fun u => { tmps := #[.agg #[.slice (some ⟨b, o, none⟩) L.length c], .int .i64 q, .pointer (some ⟨w.heap.size, 0, none⟩), undef, .pointer (some ⟨w.heap.size + 1, 0, none⟩), .pointer (some ⟨w.heap.size + 1 + 1, 0, none⟩), .int .i64 (k : Int), .agg #[.slice none 0 0], .int .i64 (k : Int), .pointer (some ⟨w.heap.size, 0, none⟩), .slice (some ⟨b, o, none⟩) L.length c, .int .i64 (L.length : Int), .bool true, u13, u14, .int .i64 (k : Int), .int .i64 q, .bool true, u 0, u 1, u 2, u 3, u 4, u 5, u 6, u 7, u 8, u 9, undef], defers := [] })
          (fun Ld _ w7 => wr.grownBy w7 (xv).ownBlock ∧ (¬ Ld 8 → Below wr.heap.size wr w7))
          (fun i z w7 => match i with
            | 0 => z = .pointer (some ⟨w.heap.size + 1 + 1, 0, none⟩)
            | 1 => z = xv
            | 2 => z = .pointer (some ⟨w.heap.size, 0, none⟩)
            | 3 => z = .slice (some ⟨b, o, none⟩) L.length c
            | 4 => z = .int .i64 (k : Int)
            | 5 => z = .pointer (some ⟨b, o + k * 9, none⟩)
            | 6 => z = .agg #[.string e.place, .int .i64 e.mask, .int .i64 e.rsp.code, .int .i64 e.rsp.mx, .bool e.rsp.hide, .string e.rsp.tag, .int .i64 e.rsp.cod, .string e.rsp.body, .int .i64 e.tm]
            | 7 => ∃ g, z = .slice (some ⟨g, 0, none⟩) 1 1 ∧ wr.heap.size ≤ g ∧ w7.heap[g]? = some (.cells (enC e) 43 (0, 0))
            | 8 => w7.ownsRow wA.heap.size 43 9 z ((wtE (L.take k) q).length + 1) (ecells (wtE (L.take k) q) ++ enL e)
            | 9 => z = .pointer (some ⟨w.heap.size + 1 + 1, 0, none⟩)
            | _ => True)
          (fun i w7 w8 => (i = 8 ∧ w7.grownBy w8 (xv).ownBlock) ∨ Below w7.heap.size w7 w8) (fun i => [u18, u19, u20, u21, u22, u23, u24, u25, u26, u27].getD i undef) ⟨grown_drewN (World.grownBy.refl _ _) 1, fun _ => (Below.refl _ _).drew⟩ ?_ ?_ ?_
        · intro i j z w7 w8 hi hj hij hR hle
          match i, hi with
          | 0, _ => exact hR
          | 1, _ => exact hR
          | 2, _ => exact hR
          | 3, _ => exact hR
          | 4, _ => exact hR
          | 5, _ => exact hR
          | 6, _ => exact hR
          | 7, _ =>
            obtain ⟨g, hz, hgW, hg7⟩ := hR
            refine ⟨g, hz, hgW, ?_⟩
            rcases hle with ⟨-, hg8⟩ | hb8
            · exact (hg8.block g (Array.getElem?_eq_some_iff.1 hg7).1 (fun e => by have := HRow.out g e.symm; omega)).trans hg7
            · exact (hb8.block g (Array.getElem?_eq_some_iff.1 hg7).1).trans hg7
          | 8, _ =>
            rcases hle with ⟨hj, -⟩ | hb8
            · exact absurd hj (Ne.symm hij)
            · exact own_below hR hb8
          | 9, _ => exact hR
          | n + 10, hn => exact absurd hn (by omega)
        · intro i hi Ld u w7 kk hkk hL hC hdp
          match i, hi with
          | 0, _ =>
            refine wpOp_step rfl (fun K hK => ?_)
            clear hdp
            go_simp
            exact hK _ _ ⟨.pointer (some ⟨w.heap.size + 1 + 1, 0, none⟩), rfl, rfl, .inr (Below.refl _ _), ⟨hC.1, fun hn => hC.2 (fun h => hn (.inr h))⟩⟩
          | 1, _ =>
            have a1 := (HV.out w7 hC.1).cell
            have e0 : u 0 = .pointer (some ⟨w.heap.size + 1 + 1, 0, none⟩) := hdp 0 (dep_of (by kernel_rfl))
            refine wpOp_step rfl (fun K hK => ?_)
            clear hdp
            go_simp
            exact hK _ _ ⟨xv, by simp [upd, e0], rfl, .inr (Below.refl _ _), ⟨hC.1, fun hn => hC.2 (fun h => hn (.inr h))⟩⟩
          | 2, _ =>
            refine wpOp_step rfl (fun K hK => ?_)
            clear hdp
            go_simp
            exact hK _ _ ⟨.pointer (some ⟨w.heap.size, 0, none⟩), rfl, rfl, .inr (Below.refl _ _), ⟨hC.1, fun hn => hC.2 (fun h => hn (.inr h))⟩⟩
          | 3, _ =>
            have a3 := (HX.out w7 hC.1).1
            have e2 : u 2 = .pointer (some ⟨w.heap.size, 0, none⟩) := hdp 2 (dep_of (by kernel_rfl))
            refine wpOp_step rfl (fun K hK => ?_)
            clear hdp
            go_simp
            exact hK _ _ ⟨.slice (some ⟨b, o, none⟩) L.length c, by simp [upd, e2], rfl, .inr (Below.refl _ _), ⟨hC.1, fun hn => hC.2 (fun h => hn (.inr h))⟩⟩
          | 4, _ =>
            refine wpOp_step rfl (fun K hK => ?_)
            clear hdp
            go_simp
            exact hK _ _ ⟨.int .i64 (k : Int), rfl, rfl, .inr (Below.refl _ _), ⟨hC.1, fun hn => hC.2 (fun h => hn (.inr h))⟩⟩
          | 5, _ =>
            have e3 : u 3 = .slice (some ⟨b, o, none⟩) L.length c := hdp 3 (dep_of (by kernel_rfl))
            have e4 : u 4 = .int .i64 (k : Int) := hdp 4 (dep_of (by kernel_rfl))
            refine wpOp_step rfl (fun K hK => ?_)
            clear hdp
            go_simp
            exact hK _ _ ⟨.pointer (some ⟨b, o + k * 9, none⟩), by simp [upd, e3, e4], rfl, .inr (Below.refl _ _), ⟨hC.1, fun hn => hC.2 (fun h => hn (.inr h))⟩⟩
          | 6, _ =>
            obtain ⟨-, x0, x1, x2, x3, x4, x5, x6, x7, x8⟩ := HX.out w7 hC.1
            have e5 : u 5 = .pointer (some ⟨b, o + k * 9, none⟩) := hdp 5 (dep_of (by kernel_rfl))
            refine wpOp_step rfl (fun K hK => ?_)
            clear hdp
            go_simp
            exact hK _ _ ⟨.agg #[.string e.place, .int .i64 e.mask, .int .i64 e.rsp.code, .int .i64 e.rsp.mx, .bool e.rsp.hide, .string e.rsp.tag, .int .i64 e.rsp.cod, .string e.rsp.body, .int .i64 e.tm], by simp [upd, e5], rfl, .inr (Below.refl _ _), ⟨hC.1, fun hn => hC.2 (fun h => hn (.inr h))⟩⟩
          | 7, _ =>
            have e6 : u 6 = .agg #[.string e.place, .int .i64 e.mask, .int .i64 e.rsp.code, .int .i64 e.rsp.mx, .bool e.rsp.hide, .string e.rsp.tag, .int .i64 e.rsp.cod, .string e.rsp.body, .int .i64 e.tm] := hdp 6 (dep_of (by kernel_rfl))
            refine wpOp_step rfl (fun K hK => ?_)
            clear hdp
            go_simp
            exact hK _ _ ⟨_, by simp [upd, e6], ⟨_, rfl, hC.1.size, heap_alloc_new w7 _⟩, .inr ((Below.refl _ _).alloc (Nat.le_refl _) _), grown_trans hC.1 (World.grownBy_alloc _ _ _), fun hn => (hC.2 fun h => hn (.inr h)).alloc hC.1.size _⟩
          | 8, _ =>
            have e1 : u 1 = xv := hdp 1 (dep_of (by kernel_rfl))
            obtain ⟨g, e7, hgW, hg7⟩ : ∃ g, u 7 = .slice (some ⟨g, 0, none⟩) 1 1 ∧ wr.heap.size ≤ g ∧ w7.heap[g]? = some (.cells (enC e) 43 (0, 0)) := hdp 7 (dep_of (by kernel_rfl))
            have hB7 := hC.2 hL
            have ho7 := own_below hown hB7
            have hcl := HC9.out w7 g hg7
            refine wpOp_step rfl (fun K hK => ?_)
            clear hdp
            refine step_append_row rfl (.tmp 19) (.tmp 25) 26 rfl wA.heap.size 43 i0 _ 9 96 Try.underlying26 hi0 hz0 hz1 hz2 rfl (by decide) (xv) (wtE (L.take k) q).length (ecells (wtE (L.take k) q)) (by simp [Act.eval, e1]) ho7 ⟨g, 0, none⟩ 1 1 (enL e) (by simp [Act.eval, e7]) rfl hcl (HOne.out) (by unfold maxLen; omega) (by omega) (Nat.le_trans hbW hC.1.size) ?_
            intro v' w8 ho8 hg8
            exact hK _ _ ⟨v', by simp [Act.put, upd], ho8, .inl ⟨rfl, hg8⟩, grown_trans hC.1 hg8, fun hn => absurd (.inl rfl) hn⟩
          | 9, _ =>
            refine wpOp_step rfl (fun K hK => ?_)
            clear hdp
            go_simp
            exact hK _ _ ⟨.pointer (some ⟨w.heap.size + 1 + 1, 0, none⟩), rfl, rfl, .inr (Below.refl _ _), ⟨hC.1, fun hn => hC.2 (fun h => hn (.inr h))⟩⟩
          | n + 10, hn => exact absurd hn (by omega)
        · intro Ld u w7 kk hkk hC hdp
          have ho8 : w7.ownsRow wA.heap.size 43 9 (u 8) ((wtE (L.take k) q).length + 1) (ecells (wtE (L.take k) q) ++ enL e) := hdp 8 (by decide)
          have e9 : u 9 = .pointer (some ⟨w.heap.size + 1 + 1, 0, none⟩) := hdp 9 (by decide)
          obtain ⟨g8, cap8, e8⟩ := ownsRow_succ ho8
          rw [e8] at ho8
          have hv7 := HV.out w7 hC.1
          have a1 := hv7.cell
          have a2 := hv7.frozen
          have HG7 := Lib.hid hC.1
          obtain ⟨hv8, ho9⟩ := told_row hv7 (by decide) ho8
          have HO8 := Lib.hid (And.intro ho9 hv8)
          refine wpOp_step rfl (fun K hK => ?_)
          clear hdp hC ho8 hv7 ho9 hv8
          go_simp
          refine hK _ _ ?_
          clear hK K e8 e9
          go_wp2
          go_roundw
          case rel =>
            obtain ⟨ho9, hv8⟩ := HO8.out
            refine ⟨k + 1, _, by omega, by go_num, hv8, by rw [HTl.out.1, HTl.out.2]; exact ho9, ?_, fun h => absurd h (by rw [HTl.out.1]; omega)⟩
            exact (HB7.out _ HG7.out).setCell (p := ⟨w.heap.size + 1 + 1, 0, none⟩) (by simp) _
          case measure => simp [intOf]; omega
    · obtain rfl : k = L.length := by omega
      rw [List.take_length] at hown hnil
      obtain ⟨a', c', rfl⟩ := own_slice hown
      have HNl := Lib.hid hnil
      have b1 := (hB.block _ (by omega)).trans H1.out
      have u0 := hv.cell
      obtain ⟨u1, u2⟩ := one_box b1
      obtain ⟨k1, k2⟩ := told_row b1 (by decide) hown
      have k3 := Boxed.cell k1
      have HF := Lib.hid (And.intro k3 (And.intro (own_lowB k2 (show w.heap.size ≤ wA.heap.size from by omega)) ((HbA.out.trans (hB.mono (by omega))).setCell (p := ⟨w.heap.size + 1, 0, none⟩) (by simp) (.slice a' (wtE L q).length c'))))
      clear hv hown hB b0 t0 b1 k1 k2 k3 hnil
      go_wp2
      obtain ⟨k3, k2, k4⟩ := HF.out
      refine bodyPost_ret (v := .agg #[.slice a' (wtE L q).length c']) (by simp [results, Try.results18, go_sem, k3]) rfl ⟨_, rfl, k2, k4, HNl.out⟩
end Go.Proofs.Ytdjbcjmkmkljnab
