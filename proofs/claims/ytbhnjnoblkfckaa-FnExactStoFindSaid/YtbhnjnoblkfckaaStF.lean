/- Walks: links, by the program: a chain made of storage. -/
import Derived.Test.YtbhnjnoblkfckaaStA
import Derived.Test.YtbhnjnoblkfckaaStE2
import Derived.Test.YtbhnjnoblkfckaaReg
namespace Go.Proofs.Ytbhnjnoblkfckaa
open Go.RowKit Go.Maps

set_option maxRecDepth 100000 in
set_option maxHeartbeats 1600000 in
theorem entries_of (v : Value) (L : List En) (w : World) (hR : ERow w v L) (hE : EnsOk 1048576 L) (hn : L.length ≤ 2000000) :
    Calls Try.prog 11 #[.agg #[v]] w fun e' w' => ∃ c mb M, e' = .returned (.pointer (some ⟨c, 0, none⟩)) ∧ Chn w' c mb (w.heap.size + 1) L.length M ∧ M.map (·.2) = L ∧ Below (w.heap.size + 1) (w.alloc (.cells #[v] 29)) w' := by
  have hmm := @run_makeMap Try.prog
  have hm0 := chn_made w v 29
  have hb0 : Below (w.heap.size + 1) (w.alloc (.cells #[v] 29)) (((w.alloc (.cells #[v] 29)).alloc (.map #[] 0)).alloc (.cells #[.pointer none, .map (some (w.heap.size + 1))] 44)) :=
    ((Below.refl _ _).alloc (by simp) _).alloc (by simp) _
  have hx0 : (w.alloc (.cells #[v] 29)).heap[w.heap.size]? = some (.cells #[v] 29 (0, 0)) := heap_alloc_new w _
  obtain ⟨a, c, rfl, h1, h2, h3⟩ := hR
  unfold maxLen at h2
  have HX := Lib.hid hx0
  have H3 := Lib.hid h3
  have HE := Lib.hid hE
  clear h3 hE hx0
  go_enter Try.func11, Try.ntmps11
  go_wp2
  clear hmm
  go_loopw [4] (fun i wr => ∃ (k : Nat) (M : List (Nat × En)), k ≤ L.length ∧ i = .int .i64 ((k : Int) - 1) ∧ Chn wr (w.heap.size + 1 + 1) (w.heap.size + 1) (w.heap.size + 1) (L.length - k) M ∧ M.map (·.2) = L.drop k ∧ Below (w.heap.size + 1) (w.alloc (.cells #[.slice a L.length c] 29)) wr)
    (fun i _ => (intOf i + 1).toNat)
  case atStart => exact ⟨L.length, [], Nat.le_refl _, rfl, by rw [Nat.sub_self]; exact hm0, by simp, hb0⟩
  case round =>
    obtain ⟨k, M, hk, rfl, hC, hM, hB⟩ := hrel
    cases k with
    | zero =>
      go_wp2
      go_ret
      exact ⟨_, _, M, rfl, hC, by rw [hM]; rfl, hB⟩
    | succ j =>
      have ej : (((j + 1 : Nat) : Int) - 1) = (j : Int) := by omega
      rw [ej]
      obtain ⟨e, hg⟩ : ∃ e, L[j]? = some e := ⟨_, List.getElem?_eq_getElem (by omega)⟩
      obtain ⟨b, o, rfl, hb, hat⟩ := H3.out j e hg
      have he := HE.out e (List.mem_of_getElem? hg)
      have HMj : Hid (L.drop j = e :: M.map (·.2)) := Lib.hid (by
        obtain ⟨hlt, rfl⟩ := List.getElem?_eq_some_iff.1 hg
        rw [hM]; exact List.drop_eq_getElem_cons hlt)
      have HX2 : Hid (∀ W, Below wr.heap.size wr W → (W.cell? ⟨w.heap.size, 0, none⟩ = some (.slice (some ⟨b, o, none⟩) L.length c) ∧ W.frozen? ⟨w.heap.size, 0, none⟩ = false) ∧ EAt W b (o + j * 9) e) := Lib.hid fun W hW => by
        have h1 : ∀ k, k < w.heap.size + 1 → W.heap[k]? = (w.alloc (.cells #[.slice (some ⟨b, o, none⟩) L.length c] 29)).heap[k]? := fun k hk => (hW.block k (by have := hB.size; simp at this; omega)).trans (hB.block k hk)
        refine ⟨one_box ((h1 _ (by omega)).trans HX.out), hat.keep ?_⟩
        rw [h1 b (by omega), Below.heap_alloc _ _ _ hb]
      have HKey := Lib.hid (fun W => key_of e W)
      have HPush : Hid (∀ W, Below wr.heap.size wr W → Calls Try.prog 16 #[.pointer (some ⟨w.heap.size + 1 + 1, 0, none⟩), .agg #[.string e.place, .int .i64 e.mask], .agg #[.string e.place, .int .i64 e.mask, .int .i64 e.rsp.code, .int .i64 e.rsp.mx, .bool e.rsp.hide, .string e.rsp.tag, .int .i64 e.rsp.cod, .string e.rsp.body, .int .i64 e.tm]] W (PushPost (w.heap.size + 1 + 1) (w.heap.size + 1) (w.heap.size + 1) (L.length - (j + 1)) M e W)) := Lib.hid fun W hW =>
        push_any _ _ _ _ M e W (hC.below hW) he (by unfold maxLen; omega)
      have HFin : Hid (∀ W w8 bl, Below wr.heap.size wr W → Chn w8 (w.heap.size + 1 + 1) (w.heap.size + 1) (w.heap.size + 1) (L.length - (j + 1) + 1) ((bl, e) :: M) → Only (Cs (w.heap.size + 1 + 1) (w.heap.size + 1) M) W w8 → Chn w8 (w.heap.size + 1 + 1) (w.heap.size + 1) (w.heap.size + 1) (L.length - j) ((bl, e) :: M) ∧ Below (w.heap.size + 1) (w.alloc (.cells #[.slice (some ⟨b, o, none⟩) L.length c] 29)) w8) := Lib.hid fun W w8 bl h1 h2 h3 => by
        refine ⟨by rw [show L.length - j = L.length - (j + 1) + 1 from by omega]; exact h2, ?_⟩
        have hs := hB.size
        simp at hs
        exact (hB.trans (h1.mono (by omega))).trans (h3.below (by have := h1.size; omega) fun q hq => (hC.cs hq).1)
      have hjl : (j : Int) < (L.length : Int) := by omega
      have hjc : (j : Int) < (c : Int) := by omega
      unfold enV keV at HKey
      clear hm0 hb0 hC hM hB hat hg he ej hk
      go_wp2_with fail
      refine wp_region_last (by kernel_rfl) 12 (by kernel_rfl) (by kernel_rfl) (by kernel_rfl)
        (fun z => { tmps := #[.agg #[.slice (some ⟨b, o, none⟩) L.length c], .pointer (some ⟨w.heap.size, 0, none⟩), .pointer none, .pointer (some ⟨w.heap.size + 1 + 1, 0, none⟩), .int .i64 (j : Int), .map (some (w.heap.size + 1)), .agg #[.pointer none, .map (some (w.heap.size + 1))], .pointer (some ⟨w.heap.size + 1 + 1, 0, none⟩), .pointer (some ⟨w.heap.size, 0, none⟩), .slice (some ⟨b, o, none⟩) L.length c, .int .i64 (L.length : Int), .int .i64 ((L.length : Int) - 1), .int .i64 (j : Int), .bool true, u14, u15, z 0, z 1, z 2, z 3, z 4, z 5, z 6, z 7, z 8, z 9, z 10, z 11, u28, undef], defers := [] })
        (fun _ W => Below wr.heap.size wr W)
        (fun i xv _ => xv = ([.pointer (some ⟨w.heap.size + 1 + 1, 0, none⟩), .pointer (some ⟨w.heap.size, 0, none⟩), .slice (some ⟨b, o, none⟩) L.length c, .int .i64 (j : Int), .pointer (some ⟨b, o + j * 9, none⟩), .agg #[.string e.place, .int .i64 e.mask, .int .i64 e.rsp.code, .int .i64 e.rsp.mx, .bool e.rsp.hide, .string e.rsp.tag, .int .i64 e.rsp.cod, .string e.rsp.body, .int .i64 e.tm], .agg #[.string e.place, .int .i64 e.mask], .pointer (some ⟨w.heap.size, 0, none⟩), .slice (some ⟨b, o, none⟩) L.length c, .int .i64 (j : Int), .pointer (some ⟨b, o + j * 9, none⟩), .agg #[.string e.place, .int .i64 e.mask, .int .i64 e.rsp.code, .int .i64 e.rsp.mx, .bool e.rsp.hide, .string e.rsp.tag, .int .i64 e.rsp.cod, .string e.rsp.body, .int .i64 e.tm]] : List Value).getD i undef)
        (fun _ _ => True) (fun i => [u16, u17, u18, u19, u20, u21, u22, u23, u24, u25, u26, u27].getD i undef) (Below.refl _ _).drew
        (fun _ _ _ _ _ h _ => h) ?_ ?_
      · intro i hi z w7 kk hkk hC hdp
        match i, hi with
        | 0, _ =>
          refine wpOp_step rfl (fun K hK => ?_)
          clear hdp
          go_simp
          exact hK _ _ ⟨.pointer (some ⟨w.heap.size + 1 + 1, 0, none⟩), rfl, rfl, trivial, hC⟩
        | 1, _ =>
          refine wpOp_step rfl (fun K hK => ?_)
          clear hdp
          go_simp
          exact hK _ _ ⟨.pointer (some ⟨w.heap.size, 0, none⟩), rfl, rfl, trivial, hC⟩
        | 2, _ =>
          obtain ⟨q0, -⟩ := (HX2.out w7 hC).1
          have e1 : z 1 = .pointer (some ⟨w.heap.size, 0, none⟩) := hdp 1 (dep_of (by kernel_rfl))
          refine wpOp_step rfl (fun K hK => ?_)
          clear hdp
          go_simp
          exact hK _ _ ⟨.slice (some ⟨b, o, none⟩) L.length c, by simp [upd, e1], rfl, trivial, hC⟩
        | 3, _ =>
          refine wpOp_step rfl (fun K hK => ?_)
          clear hdp
          go_simp
          exact hK _ _ ⟨.int .i64 (j : Int), rfl, rfl, trivial, hC⟩
        | 4, _ =>
          have e2 : z 2 = .slice (some ⟨b, o, none⟩) L.length c := hdp 2 (dep_of (by kernel_rfl))
          have e3 : z 3 = .int .i64 (j : Int) := hdp 3 (dep_of (by kernel_rfl))
          refine wpOp_step rfl (fun K hK => ?_)
          clear hdp
          go_simp
          exact hK _ _ ⟨.pointer (some ⟨b, o + j * 9, none⟩), by simp [upd, e2, e3], rfl, trivial, hC⟩
        | 5, _ =>
          obtain ⟨x0, x1, x2, x3, x4, x5, x6, x7, x8⟩ := (HX2.out w7 hC).2
          have e4 : z 4 = .pointer (some ⟨b, o + j * 9, none⟩) := hdp 4 (dep_of (by kernel_rfl))
          refine wpOp_step rfl (fun K hK => ?_)
          clear hdp
          go_simp
          exact hK _ _ ⟨.agg #[.string e.place, .int .i64 e.mask, .int .i64 e.rsp.code, .int .i64 e.rsp.mx, .bool e.rsp.hide, .string e.rsp.tag, .int .i64 e.rsp.cod, .string e.rsp.body, .int .i64 e.tm], by simp [upd, e4], rfl, trivial, hC⟩
        | 6, _ =>
          have e5 : z 5 = .agg #[.string e.place, .int .i64 e.mask, .int .i64 e.rsp.code, .int .i64 e.rsp.mx, .bool e.rsp.hide, .string e.rsp.tag, .int .i64 e.rsp.cod, .string e.rsp.body, .int .i64 e.tm] := hdp 5 (dep_of (by kernel_rfl))
          have hT := HKey.out w7
          refine wpOp_step rfl (fun K hK => ?_)
          clear hdp
          go_simp
          refine hT.mono ?_
          rintro e w8 ⟨rfl, hb8⟩
          exact hK _ _ ⟨.agg #[.string e.place, .int .i64 e.mask], by simp [upd, e5], rfl, trivial, hC.trans (hb8.mono hC.size)⟩
        | 7, _ =>
          refine wpOp_step rfl (fun K hK => ?_)
          clear hdp
          go_simp
          exact hK _ _ ⟨.pointer (some ⟨w.heap.size, 0, none⟩), rfl, rfl, trivial, hC⟩
        | 8, _ =>
          obtain ⟨q0, -⟩ := (HX2.out w7 hC).1
          have e7 : z 7 = .pointer (some ⟨w.heap.size, 0, none⟩) := hdp 7 (dep_of (by kernel_rfl))
          refine wpOp_step rfl (fun K hK => ?_)
          clear hdp
          go_simp
          exact hK _ _ ⟨.slice (some ⟨b, o, none⟩) L.length c, by simp [upd, e7], rfl, trivial, hC⟩
        | 9, _ =>
          refine wpOp_step rfl (fun K hK => ?_)
          clear hdp
          go_simp
          exact hK _ _ ⟨.int .i64 (j : Int), rfl, rfl, trivial, hC⟩
        | 10, _ =>
          have e8 : z 8 = .slice (some ⟨b, o, none⟩) L.length c := hdp 8 (dep_of (by kernel_rfl))
          have e9 : z 9 = .int .i64 (j : Int) := hdp 9 (dep_of (by kernel_rfl))
          refine wpOp_step rfl (fun K hK => ?_)
          clear hdp
          go_simp
          exact hK _ _ ⟨.pointer (some ⟨b, o + j * 9, none⟩), by simp [upd, e8, e9], rfl, trivial, hC⟩
        | 11, _ =>
          obtain ⟨x0, x1, x2, x3, x4, x5, x6, x7, x8⟩ := (HX2.out w7 hC).2
          have e10 : z 10 = .pointer (some ⟨b, o + j * 9, none⟩) := hdp 10 (dep_of (by kernel_rfl))
          refine wpOp_step rfl (fun K hK => ?_)
          clear hdp
          go_simp
          exact hK _ _ ⟨.agg #[.string e.place, .int .i64 e.mask, .int .i64 e.rsp.code, .int .i64 e.rsp.mx, .bool e.rsp.hide, .string e.rsp.tag, .int .i64 e.rsp.cod, .string e.rsp.body, .int .i64 e.tm], by simp [upd, e10], rfl, trivial, hC⟩
        | n + 12, hn => exact absurd hn (by omega)
      · intro z w7 kk hkk hC hdp
        have e0 : z 0 = .pointer (some ⟨w.heap.size + 1 + 1, 0, none⟩) := hdp 0 (by decide)
        have e6 : z 6 = .agg #[.string e.place, .int .i64 e.mask] := hdp 6 (by decide)
        have e11 : z 11 = .agg #[.string e.place, .int .i64 e.mask, .int .i64 e.rsp.code, .int .i64 e.rsp.mx, .bool e.rsp.hide, .string e.rsp.tag, .int .i64 e.rsp.cod, .string e.rsp.body, .int .i64 e.tm] := hdp 11 (by decide)
        refine wpOp_step rfl (fun K hK => ?_)
        clear hdp
        go_simp
        refine (HPush.out w7 hC).mono ?_
        rintro e' w8 ⟨rfl, bl, hbl, hC8, hO8⟩
        have HP : Hid (Chn w8 (w.heap.size + 1 + 1) (w.heap.size + 1) (w.heap.size + 1) (L.length - j) ((bl, e) :: M) ∧ Below (w.heap.size + 1) (w.alloc (.cells #[.slice (some ⟨b, o, none⟩) L.length c] 29)) w8) := Lib.hid (HFin.out w7 w8 bl hC hC8 hO8)
        refine hK _ _ ?_
        clear hK K hC hC8 hO8 hbl e11
        go_wp2
        go_roundw
        case rel => exact ⟨j, (_, e) :: M, by omega, by go_num, HP.out.1, by rw [List.map_cons, HMj.out], HP.out.2⟩
        case measure => simp [intOf]
end Go.Proofs.Ytbhnjnoblkfckaa
