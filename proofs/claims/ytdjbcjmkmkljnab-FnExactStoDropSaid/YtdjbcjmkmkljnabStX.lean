/- Walks: storage, by the specification: without what is at a path, or under it. -/
import Derived.Test.YtdjbcjmkmkljnabStV
import Derived.Test.YtdjbcjmkmkljnabStL
namespace Go.Proofs.Ytdjbcjmkmkljnab
open Go.RowKit Go.Maps

theorem drop_snoc {L : List En} {k : Nat} {e : En} (h : L[k]? = some e) (q : List UInt8) (un : Bool) : dropE (L.take (k + 1)) q un = dropE (L.take k) q un ++ (if goneB q un e = true then [] else [e]) := by
  obtain ⟨hlt, rfl⟩ := List.getElem?_eq_some_iff.1 h
  rw [List.take_add_one, h]
  unfold dropE
  rw [List.filter_append]
  cases hq : goneB q un L[k] <;> simp [hq]
theorem gone_snoc {L : List En} {k : Nat} {e : En} (h : L[k]? = some e) (q : List UInt8) (un : Bool) : goneN (L.take (k + 1)) q un = goneN (L.take k) q un + (if goneB q un e = true then 1 else 0) := by
  obtain ⟨hlt, rfl⟩ := List.getElem?_eq_some_iff.1 h
  rw [List.take_add_one, h]
  unfold goneN
  rw [List.countP_append]
  cases hq : goneB q un L[k] <;> simp [hq]
theorem gone_le (L : List En) (q : List UInt8) (un : Bool) : goneN L q un ≤ L.length := List.countP_le_length

set_option maxRecDepth 100000 in
set_option maxHeartbeats 12800000 in
theorem spec_stodrop (v : Value) (L : List En) (path : ByteArray) (un : Bool) (w : World) (hR : ERow w v L) (hE : EnsOk 1048576 L) (hn : L.length ≤ 2000000) (hp : path.size ≤ 1048576) :
    Calls Try.prog 15 #[.agg #[v], .string path, .bool un] w (SRet2 w (dropE L path.data.toList un) (goneN L path.data.toList un : Int)) := by
  obtain ⟨i0, hi0, hz0, hz1, hz2⟩ := info_parts Try.infoEn
  obtain ⟨wA, hwA⟩ : ∃ wA, wA = ((w.alloc (.cells #[v] 28)).alloc (.cells #[.slice none 0 0] 28)).alloc (.cells #[.slice none 0 0] 28) := ⟨_, rfl⟩
  have hbA : Below w.heap.size w wA := by rw [hwA]; exact (((Below.refl _ _).alloc (Nat.le_refl _) _).alloc (by simp) _).alloc (by simp; omega) _
  have hsA : wA.heap.size = w.heap.size + 3 := by rw [hwA]; simp
  have h0 : Boxed wA w.heap.size 28 v := by rw [hwA]; exact ((Boxed.new w _ _).alloc _).alloc _
  have h1 : Boxed wA (w.heap.size + 1) 28 (.slice none 0 0) := by
    rw [hwA]
    have := Boxed.new (w.alloc (.cells #[v] 28)) 28 (.slice none 0 0)
    rw [World.size_alloc] at this
    exact this.alloc _
  have h2 : Boxed wA (w.heap.size + 1 + 1) 28 (.slice none 0 0) := by
    rw [hwA]
    have := Boxed.new ((w.alloc (.cells #[v] 28)).alloc (.cells #[.slice none 0 0] 28)) 28 (.slice none 0 0)
    rw [World.size_alloc, World.size_alloc] at this
    exact this
  obtain ⟨a, c, rfl, hl1, hl2, h3⟩ := hR
  unfold maxLen at hl2
  have H3 := Lib.hid h3
  have HW := Lib.hid hwA
  have H0 := Lib.hid h0
  have H1 := Lib.hid h1
  have H2 := Lib.hid h2
  have HbA := Lib.hid hbA
  clear hwA h0 h1 h2 h3 hbA
  go_enter Try.func15, Try.ntmps15
  go_wp2_with fail
  rw [← HW.out]
  go_loopw [9, 10] (fun n i wr => ∃ (k : Nat) (xv : Value), k ≤ L.length ∧ n = .int .i64 (goneN (L.take k) path.data.toList un : Int) ∧ i = .int .i64 k ∧ Boxed wr (w.heap.size + 1 + 1) 28 xv ∧ wr.ownsRow wA.heap.size 43 9 xv (dropE (L.take k) path.data.toList un).length (ecells (dropE (L.take k) path.data.toList un)) ∧ Below (w.heap.size + 1 + 1) wA wr) (fun _ i _ => L.length - (intOf i).toNat)
  case atStart => exact ⟨0, _, Nat.zero_le _, rfl, rfl, H2.out, World.ownsRow_nil _ _ _ _, Below.refl _ _⟩
  case round =>
    obtain ⟨k, xv, hk, rfl, rfl, hv, hown, hB⟩ := hrel
    have hs0 := hB.size
    have b0 := (hB.block _ (by omega)).trans H0.out
    have t0 := one_box b0
    have t00 := t0.1
    by_cases hlt : k < L.length
    · obtain ⟨e, hg⟩ : ∃ e, L[k]? = some e := ⟨_, List.getElem?_eq_getElem hlt⟩
      obtain ⟨b, o, rfl, hbl, he⟩ := H3.out k e hg
      have hep := (hE e (List.mem_of_getElem? hg)).place
      have hbr : wr.heap[b]? = w.heap[b]? := (hB.block b (by omega)).trans (HbA.out.block b hbl)
      have c0 := (he.keep hbr).c0
      obtain ⟨ps, hps⟩ : ∃ ps : ByteArray, ps = ⟨(pathL e.place.data.toList).toArray⟩ := ⟨_, rfl⟩
      have HPath : Hid (∀ W, Calls Try.prog 30 #[.string e.place] W fun e w' => e = .returned (.string ps) ∧ Below W.heap.size W w') := Lib.hid fun W => by
        rw [hps]
        refine (spec_path e.place W (by unfold maxLen; omega)).mono ?_
        rintro e' w' ⟨rfl, n, rfl⟩
        exact ⟨rfl, below_drewN (Below.refl _ _)⟩
      have HUn : Hid (∀ W, Calls Try.prog 31 #[.string path, .string e.place] W fun e' w' => e' = .returned (.bool (underB path.data.toList e.place.data.toList)) ∧ Below W.heap.size W w') := Lib.hid fun W => by
        refine (spec_under path e.place W hp hep).mono ?_
        rintro e' w' ⟨rfl, n, rfl⟩
        exact ⟨rfl, below_drewN (Below.refl _ _)⟩
      have hgd : goneB path.data.toList un e = (decide (pathL e.place.data.toList = path.data.toList) || (un && underB path.data.toList e.place.data.toList)) := rfl
      have hbeq := bytes_beq ps path
      rw [show ps.data.toList = pathL e.place.data.toList from by rw [hps]] at hbeq
      have hsn := drop_snoc hg path.data.toList un
      have hsg := gone_snoc hg path.data.toList un
      have hgl : goneN (L.take k) path.data.toList un ≤ k := by have := gone_le (L.take k) path.data.toList un; rw [List.length_take] at this; omega
      have hdl : (dropE (L.take k) path.data.toList un).length ≤ k := by have := List.length_filter_le (fun e => !goneB path.data.toList un e) (L.take k); rw [List.length_take] at this; unfold dropE; omega
      have HP : Hid (∀ W, Below wr.heap.size wr W → Boxed W (w.heap.size + 1 + 1) 28 xv ∧ W.ownsRow wA.heap.size 43 9 xv (dropE (L.take k) path.data.toList un).length (ecells (dropE (L.take k) path.data.toList un)) ∧ Below (w.heap.size + 1 + 1) wA W) := Lib.hid fun W hW =>
        ⟨hv.kept (grown_of_below hW none) (by simp), own_below hown hW, hB.trans (hW.mono (by omega))⟩
      have HE := Lib.hid he
      have HC9 := Lib.hid (fun w7 g hg => en_cells w7 e g hg)
      have HOne := Lib.hid (en_one e)
      rw [hgd] at hsn hsg
      clear hg he hv hown hB b0 t0 hps hep hbr hgd
      cases hq : decide (pathL e.place.data.toList = path.data.toList) with
      | true =>
        rw [hq] at hbeq hsn hsg
        have HTl : Hid (dropE (L.take (k + 1)) path.data.toList un = dropE (L.take k) path.data.toList un) := Lib.hid (by rw [hsn]; simp)
        have HTn : Hid ((goneN (L.take (k + 1)) path.data.toList un : Int) = (goneN (L.take k) path.data.toList un : Int) + 1) := Lib.hid (by rw [hsg]; simp)
        clear hq hsn hsg
        go_wp2_with fail
        clear t00 c0
        refine (HPath.out wr).mono ?_
        rintro e' wq ⟨rfl, hC⟩
        obtain ⟨hv, hown, hB⟩ := HP.out wq hC
        have HF := Lib.hid (And.intro hv (And.intro hown hB))
        clear hC hv hown hB
        go_wp2
        go_roundw
        case rel => exact ⟨k + 1, xv, by omega, by rw [HTn.out], by go_num, HF.out.1, by rw [HTl.out]; exact HF.out.2.1, HF.out.2.2⟩
        case measure => simp [intOf]; omega
      | false =>
        rw [hq] at hbeq hsn hsg
        clear hq
        cases un with
        | false =>
          have HTl : Hid ((dropE (L.take (k + 1)) path.data.toList false).length = (dropE (L.take k) path.data.toList false).length + 1 ∧ ecells (dropE (L.take (k + 1)) path.data.toList false) = ecells (dropE (L.take k) path.data.toList false) ++ enL e) := Lib.hid (by rw [hsn]; simp [ecells_app])
          have HTn : Hid ((goneN (L.take (k + 1)) path.data.toList false : Int) = (goneN (L.take k) path.data.toList false : Int)) := Lib.hid (by rw [hsg]; simp)
          clear hsn hsg
          go_wp2_with fail
          clear t00 c0
          refine (HPath.out wr).mono ?_
          rintro e' wq ⟨rfl, hC⟩
          obtain ⟨hv, hown, hB⟩ := HP.out wq hC
          have hbW : wA.heap.size ≤ wq.heap.size := hB.size
          have HRow : Hid (∀ r, xv.ownBlock = some r → r < wq.heap.size ∧ wA.heap.size ≤ r) := Lib.hid fun r hr => by have := hown.lt r hr; exact ⟨this.2, this.1⟩
          have HV : Hid (∀ W7, wq.grownBy W7 xv.ownBlock → Boxed W7 (w.heap.size + 1 + 1) 28 xv) := Lib.hid fun W7 hg => hv.kept hg (hv.not_row (by decide) hown)
          have HX : Hid (∀ W7, wq.grownBy W7 xv.ownBlock → W7.cell? ⟨w.heap.size, 0, none⟩ = some (.slice (some ⟨b, o, none⟩) L.length c) ∧ W7.cell? ⟨b, o + k * 9, none⟩ = some (.string e.place) ∧ W7.cell? ⟨b, o + k * 9 + 1, none⟩ = some (.int .i64 e.mask) ∧ W7.cell? ⟨b, o + k * 9 + 2, none⟩ = some (.int .i64 e.rsp.code) ∧ W7.cell? ⟨b, o + k * 9 + 3, none⟩ = some (.int .i64 e.rsp.mx) ∧
              W7.cell? ⟨b, o + k * 9 + 4, none⟩ = some (.bool e.rsp.hide) ∧ W7.cell? ⟨b, o + k * 9 + 5, none⟩ = some (.string e.rsp.tag) ∧ W7.cell? ⟨b, o + k * 9 + 6, none⟩ = some (.int .i64 e.rsp.cod) ∧ W7.cell? ⟨b, o + k * 9 + 7, none⟩ = some (.string e.rsp.body) ∧ W7.cell? ⟨b, o + k * 9 + 8, none⟩ = some (.int .i64 e.tm)) := Lib.hid fun W7 hg => by
            have hk2 : ∀ j, j < wA.heap.size → W7.heap[j]? = wq.heap[j]? := fun j h1 => hg.block j (by omega) fun e => by have := HRow.out j e.symm; omega
            refine ⟨(one_box ((hk2 _ (by omega)).trans ((hB.block _ (by omega)).trans H0.out))).1, ?_⟩
            have hbb : W7.heap[b]? = w.heap[b]? := ((hk2 b (by omega)).trans (hB.block b (by omega))).trans (HbA.out.block b hbl)
            exact (HE.out.keep hbb).facts
          have HB7 : Hid (∀ W7, wq.grownBy W7 xv.ownBlock → Below (w.heap.size + 1 + 1) wA W7) := Lib.hid fun W7 hg => hB.grown hg (by omega) fun r hr => by have := (HRow.out r hr).2; omega
          clear hC hv hB
          go_wp2_with fail
          refine wp_region_lastL (by kernel_rfl) 10 (by kernel_rfl) (by kernel_rfl) (by kernel_rfl)
            (fun u => { tmps := #[.agg #[.slice (some ⟨b, o, none⟩) L.length c], .string path, .bool false, .pointer (some ⟨w.heap.size, 0, none⟩), undef, undef, .pointer (some ⟨w.heap.size + 1, 0, none⟩), .int .i64 0, .pointer (some ⟨w.heap.size + 1 + 1, 0, none⟩), .int .i64 (goneN (L.take k) path.data.toList false : Int), .int .i64 (k : Int), .string e.place, .agg #[.slice none 0 0], .int .i64 (k : Int), .pointer (some ⟨w.heap.size, 0, none⟩), .slice (some ⟨b, o, none⟩) L.length c, .int .i64 (L.length : Int), .bool true, u18, u19, .pointer (some ⟨w.heap.size, 0, none⟩), .slice (some ⟨b, o, none⟩) L.length c, .int .i64 (k : Int), .pointer (some ⟨b, o + k * 9, none⟩), .pointer (some ⟨b, o + k * 9, none⟩), .string e.place, .string e.place, .string ps, .string path, .bool false, .bool false, .bool false, .bool false, undef, undef, undef, .bool false, .bool false, u38, u39, u 0, u 1, u 2, u 3, u 4, u 5, u 6, u 7, u 8, u 9, undef, undef], defers := [] })
            (fun Ld _ w7 => wq.grownBy w7 (xv).ownBlock ∧ (¬ Ld 8 → Below wq.heap.size wq w7))
            (fun i z w7 => match i with
              | 0 => z = .pointer (some ⟨w.heap.size + 1 + 1, 0, none⟩)
              | 1 => z = xv
              | 2 => z = .pointer (some ⟨w.heap.size, 0, none⟩)
              | 3 => z = .slice (some ⟨b, o, none⟩) L.length c
              | 4 => z = .int .i64 (k : Int)
              | 5 => z = .pointer (some ⟨b, o + k * 9, none⟩)
              | 6 => z = .agg #[.string e.place, .int .i64 e.mask, .int .i64 e.rsp.code, .int .i64 e.rsp.mx, .bool e.rsp.hide, .string e.rsp.tag, .int .i64 e.rsp.cod, .string e.rsp.body, .int .i64 e.tm]
              | 7 => ∃ g, z = .slice (some ⟨g, 0, none⟩) 1 1 ∧ wq.heap.size ≤ g ∧ w7.heap[g]? = some (.cells (enC e) 43 (0, 0))
              | 8 => w7.ownsRow wA.heap.size 43 9 z ((dropE (L.take k) path.data.toList false).length + 1) (ecells (dropE (L.take k) path.data.toList false) ++ enL e)
              | 9 => z = .pointer (some ⟨w.heap.size + 1 + 1, 0, none⟩)
              | _ => True)
            (fun i w7 w8 => (i = 8 ∧ w7.grownBy w8 (xv).ownBlock) ∨ Below w7.heap.size w7 w8) (fun i => [u40, u41, u42, u43, u44, u45, u46, u47, u48, u49].getD i undef) ⟨grown_drewN (World.grownBy.refl _ _) 1, fun _ => (Below.refl _ _).drew⟩ ?_ ?_ ?_
          · intro i j z w7 w8 hi hj hij hR hle
            match i, hi with
            | 0, _ => exact hR
            | 1, _ => exact hR
            | 2, _ => exact hR
            | 3, _ => exact hR
            | 4, _ => exact hR
            | 5, _ => exact hR
            | 6, _ => exact hR
            | 7, _ =>
              obtain ⟨g, hz, hgW, hg7⟩ := hR
              refine ⟨g, hz, hgW, ?_⟩
              rcases hle with ⟨-, hg8⟩ | hb8
              · exact (hg8.block g (Array.getElem?_eq_some_iff.1 hg7).1 (fun e => by have := HRow.out g e.symm; omega)).trans hg7
              · exact (hb8.block g (Array.getElem?_eq_some_iff.1 hg7).1).trans hg7
            | 8, _ =>
              rcases hle with ⟨hj, -⟩ | hb8
              · exact absurd hj (Ne.symm hij)
              · exact own_below hR hb8
            | 9, _ => exact hR
            | n + 10, hn => exact absurd hn (by omega)
          · intro i hi Ld u w7 kk hkk hL hC hdp
            match i, hi with
            | 0, _ =>
              refine wpOp_step rfl (fun K hK => ?_)
              clear hdp
              go_simp
              exact hK _ _ ⟨.pointer (some ⟨w.heap.size + 1 + 1, 0, none⟩), rfl, rfl, .inr (Below.refl _ _), ⟨hC.1, fun hn => hC.2 (fun h => hn (.inr h))⟩⟩
            | 1, _ =>
              have a1 := (HV.out w7 hC.1).cell
              have e0 : u 0 = .pointer (some ⟨w.heap.size + 1 + 1, 0, none⟩) := hdp 0 (dep_of (by kernel_rfl))
              refine wpOp_step rfl (fun K hK => ?_)
              clear hdp
              go_simp
              exact hK _ _ ⟨xv, by simp [upd, e0], rfl, .inr (Below.refl _ _), ⟨hC.1, fun hn => hC.2 (fun h => hn (.inr h))⟩⟩
            | 2, _ =>
              refine wpOp_step rfl (fun K hK => ?_)
              clear hdp
              go_simp
              exact hK _ _ ⟨.pointer (some ⟨w.heap.size, 0, none⟩), rfl, rfl, .inr (Below.refl _ _), ⟨hC.1, fun hn => hC.2 (fun h => hn (.inr h))⟩⟩
            | 3, _ =>
              have a3 := (HX.out w7 hC.1).1
              have e2 : u 2 = .pointer (some ⟨w.heap.size, 0, none⟩) := hdp 2 (dep_of (by kernel_rfl))
              refine wpOp_step rfl (fun K hK => ?_)
              clear hdp
              go_simp
              exact hK _ _ ⟨.slice (some ⟨b, o, none⟩) L.length c, by simp [upd, e2], rfl, .inr (Below.refl _ _), ⟨hC.1, fun hn => hC.2 (fun h => hn (.inr h))⟩⟩
            | 4, _ =>
              refine wpOp_step rfl (fun K hK => ?_)
              clear hdp
              go_simp
              exact hK _ _ ⟨.int .i64 (k : Int), rfl, rfl, .inr (Below.refl _ _), ⟨hC.1, fun hn => hC.2 (fun h => hn (.inr h))⟩⟩
            | 5, _ =>
              have e3 : u 3 = .slice (some ⟨b, o, none⟩) L.length c := hdp 3 (dep_of (by kernel_rfl))
              have e4 : u 4 = .int .i64 (k : Int) := hdp 4 (dep_of (by kernel_rfl))
              refine wpOp_step rfl (fun K hK => ?_)
              clear hdp
              go_simp
              exact hK _ _ ⟨.pointer (some ⟨b, o + k * 9, none⟩), by simp [upd, e3, e4], rfl, .inr (Below.refl _ _), ⟨hC.1, fun hn => hC.2 (fun h => hn (.inr h))⟩⟩
            | 6, _ =>
              obtain ⟨-, x0, x1, x2, x3, x4, x5, x6, x7, x8⟩ := HX.out w7 hC.1
              have e5 : u 5 = .pointer (some ⟨b, o + k * 9, none⟩) := hdp 5 (dep_of (by kernel_rfl))
              refine wpOp_step rfl (fun K hK => ?_)
              clear hdp
              go_simp
              exact hK _ _ ⟨.agg #[.string e.place, .int .i64 e.mask, .int .i64 e.rsp.code, .int .i64 e.rsp.mx, .bool e.rsp.hide, .string e.rsp.tag, .int .i64 e.rsp.cod, .string e.rsp.body, .int .i64 e.tm], by simp [upd, e5], rfl, .inr (Below.refl _ _), ⟨hC.1, fun hn => hC.2 (fun h => hn (.inr h))⟩⟩
            | 7, _ =>
              have e6 : u 6 = .agg #[.string e.place, .int .i64 e.mask, .int .i64 e.rsp.code, .int .i64 e.rsp.mx, .bool e.rsp.hide, .string e.rsp.tag, .int .i64 e.rsp.cod, .string e.rsp.body, .int .i64 e.tm] := hdp 6 (dep_of (by kernel_rfl))
              refine wpOp_step rfl (fun K hK => ?_)
              clear hdp
              go_simp
              exact hK _ _ ⟨_, by simp [upd, e6], ⟨_, rfl, hC.1.size, heap_alloc_new w7 _⟩, .inr ((Below.refl _ _).alloc (Nat.le_refl _) _), grown_trans hC.1 (World.grownBy_alloc _ _ _), fun hn => (hC.2 fun h => hn (.inr h)).alloc hC.1.size _⟩
            | 8, _ =>
              have e1 : u 1 = xv := hdp 1 (dep_of (by kernel_rfl))
              obtain ⟨g, e7, hgW, hg7⟩ : ∃ g, u 7 = .slice (some ⟨g, 0, none⟩) 1 1 ∧ wq.heap.size ≤ g ∧ w7.heap[g]? = some (.cells (enC e) 43 (0, 0)) := hdp 7 (dep_of (by kernel_rfl))
              have hB7 := hC.2 hL
              have ho7 := own_below hown hB7
              have hcl := HC9.out w7 g hg7
              refine wpOp_step rfl (fun K hK => ?_)
              clear hdp
              refine step_append_row rfl (.tmp 41) (.tmp 47) 26 rfl wA.heap.size 43 i0 _ 9 96 Try.underlying26 hi0 hz0 hz1 hz2 rfl (by decide) (xv) (dropE (L.take k) path.data.toList false).length (ecells (dropE (L.take k) path.data.toList false)) (by simp [Act.eval, e1]) ho7 ⟨g, 0, none⟩ 1 1 (enL e) (by simp [Act.eval, e7]) rfl hcl (HOne.out) (by unfold maxLen; omega) (by omega) (Nat.le_trans hbW hC.1.size) ?_
              intro v' w8 ho8 hg8
              exact hK _ _ ⟨v', by simp [Act.put, upd], ho8, .inl ⟨rfl, hg8⟩, grown_trans hC.1 hg8, fun hn => absurd (.inl rfl) hn⟩
            | 9, _ =>
              refine wpOp_step rfl (fun K hK => ?_)
              clear hdp
              go_simp
              exact hK _ _ ⟨.pointer (some ⟨w.heap.size + 1 + 1, 0, none⟩), rfl, rfl, .inr (Below.refl _ _), ⟨hC.1, fun hn => hC.2 (fun h => hn (.inr h))⟩⟩
            | n + 10, hn => exact absurd hn (by omega)
          · intro Ld u w7 kk hkk hC hdp
            have ho8 : w7.ownsRow wA.heap.size 43 9 (u 8) ((dropE (L.take k) path.data.toList false).length + 1) (ecells (dropE (L.take k) path.data.toList false) ++ enL e) := hdp 8 (by decide)
            have e9 : u 9 = .pointer (some ⟨w.heap.size + 1 + 1, 0, none⟩) := hdp 9 (by decide)
            obtain ⟨g8, cap8, e8⟩ := ownsRow_succ ho8
            rw [e8] at ho8
            have hv7 := HV.out w7 hC.1
            have a1 := hv7.cell
            have a2 := hv7.frozen
            have HG7 := Lib.hid hC.1
            obtain ⟨hv8, ho9⟩ := told_row hv7 (by decide) ho8
            have HO8 := Lib.hid (And.intro ho9 hv8)
            refine wpOp_step rfl (fun K hK => ?_)
            clear hdp hC ho8 hv7 ho9 hv8
            go_simp
            refine hK _ _ ?_
            clear hK K e8 e9
            go_wp2
            go_roundw
            case rel =>
              obtain ⟨ho9, hv8⟩ := HO8.out
              refine ⟨k + 1, _, by omega, by rw [HTn.out], by go_num, hv8, by rw [HTl.out.1, HTl.out.2]; exact ho9, ?_⟩
              exact (HB7.out _ HG7.out).setCell (p := ⟨w.heap.size + 1 + 1, 0, none⟩) (by simp) _
            case measure => simp [intOf]; omega
        | true =>
          generalize underB path.data.toList e.place.data.toList = ub at HUn hsn hsg
          cases ub with
          | true =>
            have HTl : Hid (dropE (L.take (k + 1)) path.data.toList true = (dropE (L.take k) path.data.toList true)) := Lib.hid (by rw [hsn]; simp)
            have HTn : Hid ((goneN (L.take (k + 1)) path.data.toList true : Int) = (goneN (L.take k) path.data.toList true : Int) + 1) := Lib.hid (by rw [hsg]; simp)
            clear hsn hsg
            go_wp2_with fail
            clear t00 c0
            refine (HPath.out wr).mono ?_
            rintro e' wq ⟨rfl, hC⟩
            go_wp2_with fail
            refine (HUn.out wq).mono ?_
            rintro e' wp ⟨rfl, hC2⟩
            replace hC := hC.trans (hC2.mono hC.size)
            clear hC2
            obtain ⟨hv, hown, hB⟩ := HP.out wp hC
            have HF := Lib.hid (And.intro hv (And.intro hown hB))
            clear hC hv hown hB
            go_wp2
            go_roundw
            case rel => exact ⟨k + 1, xv, by omega, by rw [HTn.out], by go_num, HF.out.1, by rw [HTl.out]; exact HF.out.2.1, HF.out.2.2⟩
            case measure => simp [intOf]; omega
          | false =>
            have HTl : Hid ((dropE (L.take (k + 1)) path.data.toList true).length = (dropE (L.take k) path.data.toList true).length + 1 ∧ ecells (dropE (L.take (k + 1)) path.data.toList true) = ecells (dropE (L.take k) path.data.toList true) ++ enL e) := Lib.hid (by rw [hsn]; simp [ecells_app])
            have HTn : Hid ((goneN (L.take (k + 1)) path.data.toList true : Int) = (goneN (L.take k) path.data.toList true : Int)) := Lib.hid (by rw [hsg]; simp)
            clear hsn hsg
            go_wp2_with fail
            clear t00 c0
            refine (HPath.out wr).mono ?_
            rintro e' wq ⟨rfl, hC⟩
            go_wp2_with fail
            refine (HUn.out wq).mono ?_
            rintro e' wp ⟨rfl, hC2⟩
            replace hC := hC.trans (hC2.mono hC.size)
            clear hC2
            obtain ⟨hv, hown, hB⟩ := HP.out wp hC
            have hbW : wA.heap.size ≤ wp.heap.size := hB.size
            have HRow : Hid (∀ r, xv.ownBlock = some r → r < wp.heap.size ∧ wA.heap.size ≤ r) := Lib.hid fun r hr => by have := hown.lt r hr; exact ⟨this.2, this.1⟩
            have HV : Hid (∀ W7, wp.grownBy W7 xv.ownBlock → Boxed W7 (w.heap.size + 1 + 1) 28 xv) := Lib.hid fun W7 hg => hv.kept hg (hv.not_row (by decide) hown)
            have HX : Hid (∀ W7, wp.grownBy W7 xv.ownBlock → W7.cell? ⟨w.heap.size, 0, none⟩ = some (.slice (some ⟨b, o, none⟩) L.length c) ∧ W7.cell? ⟨b, o + k * 9, none⟩ = some (.string e.place) ∧ W7.cell? ⟨b, o + k * 9 + 1, none⟩ = some (.int .i64 e.mask) ∧ W7.cell? ⟨b, o + k * 9 + 2, none⟩ = some (.int .i64 e.rsp.code) ∧ W7.cell? ⟨b, o + k * 9 + 3, none⟩ = some (.int .i64 e.rsp.mx) ∧
                W7.cell? ⟨b, o + k * 9 + 4, none⟩ = some (.bool e.rsp.hide) ∧ W7.cell? ⟨b, o + k * 9 + 5, none⟩ = some (.string e.rsp.tag) ∧ W7.cell? ⟨b, o + k * 9 + 6, none⟩ = some (.int .i64 e.rsp.cod) ∧ W7.cell? ⟨b, o + k * 9 + 7, none⟩ = some (.string e.rsp.body) ∧ W7.cell? ⟨b, o + k * 9 + 8, none⟩ = some (.int .i64 e.tm)) := Lib.hid fun W7 hg => by
              have hk2 : ∀ j, j < wA.heap.size → W7.heap[j]? = wp.heap[j]? := fun j h1 => hg.block j (by omega) fun e => by have := HRow.out j e.symm; omega
              refine ⟨(one_box ((hk2 _ (by omega)).trans ((hB.block _ (by omega)).trans H0.out))).1, ?_⟩
              have hbb : W7.heap[b]? = w.heap[b]? := ((hk2 b (by omega)).trans (hB.block b (by omega))).trans (HbA.out.block b hbl)
              exact (HE.out.keep hbb).facts
            have HB7 : Hid (∀ W7, wp.grownBy W7 xv.ownBlock → Below (w.heap.size + 1 + 1) wA W7) := Lib.hid fun W7 hg => hB.grown hg (by omega) fun r hr => by have := (HRow.out r hr).2; omega
            clear hC hv hB
            go_wp2_with fail
            refine wp_region_lastL (by kernel_rfl) 10 (by kernel_rfl) (by kernel_rfl) (by kernel_rfl)
              (fun u => { tmps := #[.agg #[.slice (some ⟨b, o, none⟩) L.length c], .string path, .bool true, .pointer (some ⟨w.heap.size, 0, none⟩), undef, undef, .pointer (some ⟨w.heap.size + 1, 0, none⟩), .int .i64 0, .pointer (some ⟨w.heap.size + 1 + 1, 0, none⟩), .int .i64 (goneN (L.take k) path.data.toList true : Int), .int .i64 (k : Int), .string e.place, .agg #[.slice none 0 0], .int .i64 (k : Int), .pointer (some ⟨w.heap.size, 0, none⟩), .slice (some ⟨b, o, none⟩) L.length c, .int .i64 (L.length : Int), .bool true, u18, u19, .pointer (some ⟨w.heap.size, 0, none⟩), .slice (some ⟨b, o, none⟩) L.length c, .int .i64 (k : Int), .pointer (some ⟨b, o + k * 9, none⟩), .pointer (some ⟨b, o + k * 9, none⟩), .string e.place, .string e.place, .string ps, .string path, .bool false, .bool false, .bool true, .bool true, .string path, .string e.place, .bool false, .bool false, .bool false, u38, u39, u 0, u 1, u 2, u 3, u 4, u 5, u 6, u 7, u 8, u 9, undef, undef], defers := [] })
              (fun Ld _ w7 => wp.grownBy w7 (xv).ownBlock ∧ (¬ Ld 8 → Below wp.heap.size wp w7))
              (fun i z w7 => match i with
                | 0 => z = .pointer (some ⟨w.heap.size + 1 + 1, 0, none⟩)
                | 1 => z = xv
                | 2 => z = .pointer (some ⟨w.heap.size, 0, none⟩)
                | 3 => z = .slice (some ⟨b, o, none⟩) L.length c
                | 4 => z = .int .i64 (k : Int)
                | 5 => z = .pointer (some ⟨b, o + k * 9, none⟩)
                | 6 => z = .agg #[.string e.place, .int .i64 e.mask, .int .i64 e.rsp.code, .int .i64 e.rsp.mx, .bool e.rsp.hide, .string e.rsp.tag, .int .i64 e.rsp.cod, .string e.rsp.body, .int .i64 e.tm]
                | 7 => ∃ g, z = .slice (some ⟨g, 0, none⟩) 1 1 ∧ wp.heap.size ≤ g ∧ w7.heap[g]? = some (.cells (enC e) 43 (0, 0))
                | 8 => w7.ownsRow wA.heap.size 43 9 z ((dropE (L.take k) path.data.toList true).length + 1) (ecells (dropE (L.take k) path.data.toList true) ++ enL e)
                | 9 => z = .pointer (some ⟨w.heap.size + 1 + 1, 0, none⟩)
                | _ => True)
              (fun i w7 w8 => (i = 8 ∧ w7.grownBy w8 (xv).ownBlock) ∨ Below w7.heap.size w7 w8) (fun i => [u40, u41, u42, u43, u44, u45, u46, u47, u48, u49].getD i undef) ⟨grown_drewN (World.grownBy.refl _ _) 1, fun _ => (Below.refl _ _).drew⟩ ?_ ?_ ?_
            · intro i j z w7 w8 hi hj hij hR hle
              match i, hi with
              | 0, _ => exact hR
              | 1, _ => exact hR
              | 2, _ => exact hR
              | 3, _ => exact hR
              | 4, _ => exact hR
              | 5, _ => exact hR
              | 6, _ => exact hR
              | 7, _ =>
                obtain ⟨g, hz, hgW, hg7⟩ := hR
                refine ⟨g, hz, hgW, ?_⟩
                rcases hle with ⟨-, hg8⟩ | hb8
                · exact (hg8.block g (Array.getElem?_eq_some_iff.1 hg7).1 (fun e => by have := HRow.out g e.symm; omega)).trans hg7
                · exact (hb8.block g (Array.getElem?_eq_some_iff.1 hg7).1).trans hg7
              | 8, _ =>
                rcases hle with ⟨hj, -⟩ | hb8
                · exact absurd hj (Ne.symm hij)
                · exact own_below hR hb8
              | 9, _ => exact hR
              | n + 10, hn => exact absurd hn (by omega)
            · intro i hi Ld u w7 kk hkk hL hC hdp
              match i, hi with
              | 0, _ =>
                refine wpOp_step rfl (fun K hK => ?_)
                clear hdp
                go_simp
                exact hK _ _ ⟨.pointer (some ⟨w.heap.size + 1 + 1, 0, none⟩), rfl, rfl, .inr (Below.refl _ _), ⟨hC.1, fun hn => hC.2 (fun h => hn (.inr h))⟩⟩
              | 1, _ =>
                have a1 := (HV.out w7 hC.1).cell
                have e0 : u 0 = .pointer (some ⟨w.heap.size + 1 + 1, 0, none⟩) := hdp 0 (dep_of (by kernel_rfl))
                refine wpOp_step rfl (fun K hK => ?_)
                clear hdp
                go_simp
                exact hK _ _ ⟨xv, by simp [upd, e0], rfl, .inr (Below.refl _ _), ⟨hC.1, fun hn => hC.2 (fun h => hn (.inr h))⟩⟩
              | 2, _ =>
                refine wpOp_step rfl (fun K hK => ?_)
                clear hdp
                go_simp
                exact hK _ _ ⟨.pointer (some ⟨w.heap.size, 0, none⟩), rfl, rfl, .inr (Below.refl _ _), ⟨hC.1, fun hn => hC.2 (fun h => hn (.inr h))⟩⟩
              | 3, _ =>
                have a3 := (HX.out w7 hC.1).1
                have e2 : u 2 = .pointer (some ⟨w.heap.size, 0, none⟩) := hdp 2 (dep_of (by kernel_rfl))
                refine wpOp_step rfl (fun K hK => ?_)
                clear hdp
                go_simp
                exact hK _ _ ⟨.slice (some ⟨b, o, none⟩) L.length c, by simp [upd, e2], rfl, .inr (Below.refl _ _), ⟨hC.1, fun hn => hC.2 (fun h => hn (.inr h))⟩⟩
              | 4, _ =>
                refine wpOp_step rfl (fun K hK => ?_)
                clear hdp
                go_simp
                exact hK _ _ ⟨.int .i64 (k : Int), rfl, rfl, .inr (Below.refl _ _), ⟨hC.1, fun hn => hC.2 (fun h => hn (.inr h))⟩⟩
              | 5, _ =>
                have e3 : u 3 = .slice (some ⟨b, o, none⟩) L.length c := hdp 3 (dep_of (by kernel_rfl))
                have e4 : u 4 = .int .i64 (k : Int) := hdp 4 (dep_of (by kernel_rfl))
                refine wpOp_step rfl (fun K hK => ?_)
                clear hdp
                go_simp
                exact hK _ _ ⟨.pointer (some ⟨b, o + k * 9, none⟩), by simp [upd, e3, e4], rfl, .inr (Below.refl _ _), ⟨hC.1, fun hn => hC.2 (fun h => hn (.inr h))⟩⟩
              | 6, _ =>
                obtain ⟨-, x0, x1, x2, x3, x4, x5, x6, x7, x8⟩ := HX.out w7 hC.1
                have e5 : u 5 = .pointer (some ⟨b, o + k * 9, none⟩) := hdp 5 (dep_of (by kernel_rfl))
                refine wpOp_step rfl (fun K hK => ?_)
                clear hdp
                go_simp
                exact hK _ _ ⟨.agg #[.string e.place, .int .i64 e.mask, .int .i64 e.rsp.code, .int .i64 e.rsp.mx, .bool e.rsp.hide, .string e.rsp.tag, .int .i64 e.rsp.cod, .string e.rsp.body, .int .i64 e.tm], by simp [upd, e5], rfl, .inr (Below.refl _ _), ⟨hC.1, fun hn => hC.2 (fun h => hn (.inr h))⟩⟩
              | 7, _ =>
                have e6 : u 6 = .agg #[.string e.place, .int .i64 e.mask, .int .i64 e.rsp.code, .int .i64 e.rsp.mx, .bool e.rsp.hide, .string e.rsp.tag, .int .i64 e.rsp.cod, .string e.rsp.body, .int .i64 e.tm] := hdp 6 (dep_of (by kernel_rfl))
                refine wpOp_step rfl (fun K hK => ?_)
                clear hdp
                go_simp
                exact hK _ _ ⟨_, by simp [upd, e6], ⟨_, rfl, hC.1.size, heap_alloc_new w7 _⟩, .inr ((Below.refl _ _).alloc (Nat.le_refl _) _), grown_trans hC.1 (World.grownBy_alloc _ _ _), fun hn => (hC.2 fun h => hn (.inr h)).alloc hC.1.size _⟩
              | 8, _ =>
                have e1 : u 1 = xv := hdp 1 (dep_of (by kernel_rfl))
                obtain ⟨g, e7, hgW, hg7⟩ : ∃ g, u 7 = .slice (some ⟨g, 0, none⟩) 1 1 ∧ wp.heap.size ≤ g ∧ w7.heap[g]? = some (.cells (enC e) 43 (0, 0)) := hdp 7 (dep_of (by kernel_rfl))
                have hB7 := hC.2 hL
                have ho7 := own_below hown hB7
                have hcl := HC9.out w7 g hg7
                refine wpOp_step rfl (fun K hK => ?_)
                clear hdp
                refine step_append_row rfl (.tmp 41) (.tmp 47) 26 rfl wA.heap.size 43 i0 _ 9 96 Try.underlying26 hi0 hz0 hz1 hz2 rfl (by decide) (xv) (dropE (L.take k) path.data.toList true).length (ecells (dropE (L.take k) path.data.toList true)) (by simp [Act.eval, e1]) ho7 ⟨g, 0, none⟩ 1 1 (enL e) (by simp [Act.eval, e7]) rfl hcl (HOne.out) (by unfold maxLen; omega) (by omega) (Nat.le_trans hbW hC.1.size) ?_
                intro v' w8 ho8 hg8
                exact hK _ _ ⟨v', by simp [Act.put, upd], ho8, .inl ⟨rfl, hg8⟩, grown_trans hC.1 hg8, fun hn => absurd (.inl rfl) hn⟩
              | 9, _ =>
                refine wpOp_step rfl (fun K hK => ?_)
                clear hdp
                go_simp
                exact hK _ _ ⟨.pointer (some ⟨w.heap.size + 1 + 1, 0, none⟩), rfl, rfl, .inr (Below.refl _ _), ⟨hC.1, fun hn => hC.2 (fun h => hn (.inr h))⟩⟩
              | n + 10, hn => exact absurd hn (by omega)
            · intro Ld u w7 kk hkk hC hdp
              have ho8 : w7.ownsRow wA.heap.size 43 9 (u 8) ((dropE (L.take k) path.data.toList true).length + 1) (ecells (dropE (L.take k) path.data.toList true) ++ enL e) := hdp 8 (by decide)
              have e9 : u 9 = .pointer (some ⟨w.heap.size + 1 + 1, 0, none⟩) := hdp 9 (by decide)
              obtain ⟨g8, cap8, e8⟩ := ownsRow_succ ho8
              rw [e8] at ho8
              have hv7 := HV.out w7 hC.1
              have a1 := hv7.cell
              have a2 := hv7.frozen
              have HG7 := Lib.hid hC.1
              obtain ⟨hv8, ho9⟩ := told_row hv7 (by decide) ho8
              have HO8 := Lib.hid (And.intro ho9 hv8)
              refine wpOp_step rfl (fun K hK => ?_)
              clear hdp hC ho8 hv7 ho9 hv8
              go_simp
              refine hK _ _ ?_
              clear hK K e8 e9
              go_wp2
              go_roundw
              case rel =>
                obtain ⟨ho9, hv8⟩ := HO8.out
                refine ⟨k + 1, _, by omega, by rw [HTn.out], by go_num, hv8, by rw [HTl.out.1, HTl.out.2]; exact ho9, ?_⟩
                exact (HB7.out _ HG7.out).setCell (p := ⟨w.heap.size + 1 + 1, 0, none⟩) (by simp) _
              case measure => simp [intOf]; omega
    · obtain rfl : k = L.length := by omega
      rw [List.take_length] at hown
      rw [List.take_length]
      obtain ⟨a', c', rfl⟩ := own_slice hown
      have b1 := (hB.block _ (by omega)).trans H1.out
      have u0 := hv.cell
      obtain ⟨u1, u2⟩ := one_box b1
      obtain ⟨k1, k2⟩ := told_row b1 (by decide) hown
      have k3 := Boxed.cell k1
      have HF := Lib.hid (And.intro k3 (And.intro (own_lowB k2 (show w.heap.size ≤ wA.heap.size from by omega)) ((HbA.out.trans (hB.mono (by omega))).setCell (p := ⟨w.heap.size + 1, 0, none⟩) (by simp) (.slice a' (dropE L path.data.toList un).length c'))))
      clear hv hown hB b0 t0 b1 k1 k2 k3
      go_wp2
      obtain ⟨k3, k2, k4⟩ := HF.out
      refine bodyPost_ret (v := .tuple #[.agg #[.slice a' (dropE L path.data.toList un).length c'], .int .i64 (goneN L path.data.toList un : Int)]) (by simp [results, Try.results15, go_sem, k3]) rfl ⟨_, rfl, k2, k4⟩
end Go.Proofs.Ytdjbcjmkmkljnab
