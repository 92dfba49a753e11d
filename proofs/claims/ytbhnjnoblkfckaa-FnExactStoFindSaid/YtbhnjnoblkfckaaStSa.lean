/- Walks: storage, by the specification: what is found. -/
import Derived.Test.YtbhnjnoblkfckaaStEn
import Derived.Test.YtbhnjnoblkfckaaRegL
namespace Go.Proofs.Ytbhnjnoblkfckaa
open Go.RowKit Go.Maps

theorem step_append_row {P : Program} {ops : Array Oper} {o : Oper} {a : Act} {w : World} {K : Act → World → Prop} {Q : Exit → Act → World → Prop} {E : Prop}
    (hg : o.guard = none) (s x : Operand) (t : TypeId) (hop : o.op = Op.call { callee := Callee.builtin Builtin.append, args := #[s, x], argTypes := #[t, t] })
    (base : Nat) (e : TypeId) (i : TypeInfo) (z : Value) (size bytes : Nat) (h1 : P.underlying t = some (.slice e)) (h2 : P.info? e = some i) (h3 : i.zero = some z) (h4 : i.size = size) (h5 : i.bytes = bytes) (h6 : z.cells.size = size) (h7 : 0 < size)
    (v : Value) (n : Nat) (xs : List Value) (hs : a.eval s = v) (hown : w.ownsRow base e size v n xs)
    (ad : Addr) (m c : Nat) (news : List Value) (hx : a.eval x = .slice (some ad) m c) (hn : news.length = m * size) (hc : ∀ j u, news[j]? = some u → w.cell? (ad.add j) = some u) (h1c : ∀ u ∈ news, u.oneCell' = true)
    (b1 : n + m ≤ maxLen) (b2 : (n + m) * bytes ≤ 140737488355328) (hbase : base ≤ w.heap.size)
    (hK : ∀ v' w', w'.ownsRow base e size v' (n + m) (xs ++ news) → w.grownBy w' v.ownBlock → K (a.put o.dst v') w') :
    if Region.wanted o (yielded ops a.tmps) = true then Oper.wp P o a w K Q else E := by
  have hw : Region.wanted o (yielded ops a.tmps) = true := by simp [Region.wanted, hg]
  rw [if_pos hw]
  obtain ⟨v', w', hrun, r1, r2, _⟩ := run_append_own (P := P) w base t o.type e i z size bytes h1 h2 h3 h4 h5 h6 h7 v n xs hown ad m c news hn hc h1c b1 b2 hbase
  unfold Oper.wp
  simp [execOp, hop, resolve, invoke, builtin, hs, hx, hrun, Result.andThen]
  exact hK v' w' r1 r2
theorem en_one (e : En) : ∀ u ∈ enL e, u.oneCell' = true := fun u hu => by
  simp only [enL, List.mem_cons, List.not_mem_nil, or_false] at hu
  rcases hu with rfl | rfl | rfl | rfl | rfl | rfl | rfl | rfl | rfl <;> rfl
theorem EAt.facts {w : World} {b o : Nat} {e : En} (h : EAt w b o e) : w.cell? ⟨b, o, none⟩ = some (.string e.place) ∧ w.cell? ⟨b, o + 1, none⟩ = some (.int .i64 e.mask) ∧ w.cell? ⟨b, o + 2, none⟩ = some (.int .i64 e.rsp.code) ∧ w.cell? ⟨b, o + 3, none⟩ = some (.int .i64 e.rsp.mx) ∧ w.cell? ⟨b, o + 4, none⟩ = some (.bool e.rsp.hide) ∧
    w.cell? ⟨b, o + 5, none⟩ = some (.string e.rsp.tag) ∧ w.cell? ⟨b, o + 6, none⟩ = some (.int .i64 e.rsp.cod) ∧ w.cell? ⟨b, o + 7, none⟩ = some (.string e.rsp.body) ∧ w.cell? ⟨b, o + 8, none⟩ = some (.int .i64 e.tm) :=
  ⟨h.c0, h.c1, h.c2, h.c3, h.c4, h.c5, h.c6, h.c7, h.c8⟩

theorem bytes_ext {a b : ByteArray} (h : a.data.toList = b.data.toList) : a = b := by
  cases a; cases b; simpa [Array.toList_inj] using h
def foundI (L : List En) (p : ByteArray) (m : Int) : Int := match findE L p m with | some k => (k : Int) | none => -1
theorem found_at {L : List En} {p : ByteArray} {m : Int} {k : Nat} {e : En} (hg : L[k]? = some e) (hk : isK p m e = true) (hb : ∀ (j : Nat) (f : En), j < k → L[j]? = some f → isK p m f = false) : findE L p m = some k := by
  unfold findE
  rw [List.findIdx?_eq_some_iff_getElem]
  obtain ⟨hlt, rfl⟩ := List.getElem?_eq_some_iff.1 hg
  exact ⟨hlt, hk, fun j hj => by rw [hb j L[j] hj (List.getElem?_eq_getElem (by omega))]; decide⟩
theorem found_none {L : List En} {p : ByteArray} {m : Int} (hb : ∀ (j : Nat) (f : En), L[j]? = some f → isK p m f = false) : findE L p m = none := by
  unfold findE
  rw [List.findIdx?_eq_none_iff]
  intro e he
  obtain ⟨j, hj⟩ := List.mem_iff_getElem?.1 he
  exact hb j e hj

set_option maxHeartbeats 1600000 in
theorem spec_stofind (v : Value) (L : List En) (p : ByteArray) (m : Int) (w : World) (hR : ERow w v L) :
    Calls Try.prog 5 #[.agg #[v], .string p, .int .i64 m] w fun e' w' => e' = .returned (.int .i64 (foundI L p m)) ∧ Below w.heap.size w w' := by
  obtain ⟨a, c, rfl, h1, h2, h3⟩ := hR
  unfold maxLen at h2
  have hb : Below w.heap.size w (w.alloc (.cells #[.slice a L.length c] 29)) := (Below.refl _ _).alloc (Nat.le_refl _) _
  have H3 := Lib.hid h3
  clear h3
  go_enter Try.func5, Try.ntmps5
  go_wp2
  go_loop [7] (fun i => ∃ k : Nat, k ≤ L.length ∧ i = .int .i64 k ∧ ∀ (j : Nat) (f : En), j < k → L[j]? = some f → isK p m f = false) (fun i => L.length - (intOf i).toNat)
  case atStart => exact ⟨0, Nat.zero_le _, rfl, fun j f hj => absurd hj (Nat.not_lt_zero _)⟩
  case round =>
    obtain ⟨k, hk, rfl, hno⟩ := hrel
    by_cases hlt : k < L.length
    · obtain ⟨e, hg⟩ : ∃ e, L[k]? = some e := ⟨_, List.getElem?_eq_getElem hlt⟩
      obtain ⟨b, o, rfl, hbl, he⟩ := H3.out k e hg
      have c0 := (hb.cell (p := ⟨b, o + k * 9, none⟩) hbl).trans he.c0
      have c1 := (hb.cell (p := ⟨b, o + k * 9 + 1, none⟩) hbl).trans he.c1
      have hbeq : (e.place.toList == p.toList) = decide (e.place = p) := by
        rw [Lib.toList_data, Lib.toList_data, Bool.eq_iff_iff, beq_iff_eq, decide_eq_true_eq]
        exact ⟨bytes_ext, fun h => by rw [h]⟩
      have hiK : isK p m e = (decide (e.place = p) && decide (e.mask = m)) := rfl
      have HNo := Lib.hid hno
      have HG := Lib.hid hg
      have Hb := Lib.hid hb
      by_cases q1 : e.place = p
      · rw [decide_eq_true q1] at hbeq
        by_cases q2 : e.mask = m
        · have HF : Hid (foundI L p m = (k : Int)) := Lib.hid (by unfold foundI; rw [found_at HG.out (by rw [hiK, decide_eq_true q1, decide_eq_true q2]; rfl) HNo.out])
          have q2' : (e.mask == m) = true := by simpa using q2
          clear hno hg he hiK hb H3 q1 q2
          go_wp2
          go_ret
          exact ⟨by rw [HF.out]; rfl, Hb.out⟩
        · have HK : Hid (isK p m e = false) := Lib.hid (by rw [hiK, decide_eq_false q2, Bool.and_false])
          have q2' : (e.mask == m) = false := by simpa using q2
          clear hno hg he hiK hb q1 q2
          go_wp2
          go_round
          case rel => exact ⟨k + 1, by omega, by go_num, fun j f hj hf => by
            rcases Nat.lt_succ_iff_lt_or_eq.1 hj with h | rfl
            · exact HNo.out j f h hf
            · rw [HG.out] at hf; cases hf; exact HK.out⟩
          case measure => simp [intOf]; omega
      · rw [decide_eq_false q1] at hbeq
        have HK : Hid (isK p m e = false) := Lib.hid (by rw [hiK, decide_eq_false q1, Bool.false_and])
        clear hno hg he hiK hb q1
        go_wp2
        go_round
        case rel => exact ⟨k + 1, by omega, by go_num, fun j f hj hf => by
          rcases Nat.lt_succ_iff_lt_or_eq.1 hj with h | rfl
          · exact HNo.out j f h hf
          · rw [HG.out] at hf; cases hf; exact HK.out⟩
        case measure => simp [intOf]; omega
    · have HF : Hid (foundI L p m = -1) := Lib.hid (by
        unfold foundI
        rw [found_none fun j f hf => hno j f (by have := (List.getElem?_eq_some_iff.1 hf).1; omega) hf])
      have Hb := Lib.hid hb
      clear hno hb
      go_wp2
      go_ret
      exact ⟨by rw [HF.out]; rfl, Hb.out⟩
end Go.Proofs.Ytbhnjnoblkfckaa
