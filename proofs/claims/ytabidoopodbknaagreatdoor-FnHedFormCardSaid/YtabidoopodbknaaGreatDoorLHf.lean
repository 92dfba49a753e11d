/- The law on two texts that ask for the same, in two forms. -/
import Derived.Test.YtabidoopodbknaaGreatDoorTwP
import Derived.Test.YtabidoopodbknaaGreatDoorGGdH
import Derived.Test.YtabidoopodbknaaGreatDoorGimp
import Derived.Test.YtabidoopodbknaaGreatDoorGdOk
import Derived.Test.YtabidoopodbknaaGreatDoorLaidN
import Derived.Test.YtabidoopodbknaaGreatDoorGCa
namespace Go.Proofs.YtabidoopodbknaaGreatDoor
open Go.RowKit Go.Maps

theorem own_frowL {w : World} {B : Nat} {T : TypeId} {v : Value} {fs : List Fd} (h : w.ownsRow B T 2 v fs.length (fcells fs)) : FRow w v fs := by
  rcases h.2 with ⟨rfl, h0⟩ | ⟨b, cap, cur, rfl, hb, hh, hn, hm, _, _⟩
  · have : fs = [] := List.eq_nil_of_length_eq_zero h0
    subst this
    exact ⟨none, 0, rfl, Nat.le_refl _, Nat.zero_le _, fun j f hj => by simp at hj⟩
  · have hadd : ∀ k, (⟨b, 0, none⟩ : Addr).add k = ⟨b, k, none⟩ := fun k => by unfold Addr.add; split <;> simp_all
    refine ⟨_, cap, rfl, hn, hm, fun j f hj => ⟨b, 0, rfl, (Array.getElem?_eq_some_iff.1 hh).1, ?_, ?_⟩⟩
    · have := h.cells (g := b) rfl _ _ (fcells_at hj).1
      rw [hadd] at this
      rw [Nat.zero_add]; exact this
    · have := h.cells (g := b) rfl _ _ (fcells_at hj).2
      rw [hadd] at this
      rw [Nat.zero_add]; exact this
theorem lines_len {fs : List Fd} (h : FOk fs 40) : (fs.flatMap twLine).length ≤ 82 * fs.length := by
  induction fs with
  | nil => simp
  | cons f fs ih =>
    have e := ih fun g hg => h g (List.mem_cons_of_mem _ hg)
    obtain ⟨h1, h2⟩ := h f (List.mem_cons_self ..)
    rw [size_len] at h1 h2
    rw [List.flatMap_cons, List.length_append, List.length_cons]
    have : (twLine f).length = f.1.data.toList.length + (f.2.data.toList.length + 2) := by simp [twLine]
    omega
theorem wr_size (h : Hd) : (wrB h).size ≤ 400 := by
  unfold wrB
  split
  · rename_i hb
    have hlen := (hedB_iff.1 hb).len
    have hbody := (hed_sizes hb).2.2.2.1
    have hTT : (hedT h).length = (headT h).length + h.body.data.toList.length := by simp [hedT]
    have hT : (headT h).length = (joinL (hedLines h)).length + 1 := by simp [headT]
    rw [size_len] at hbody ⊢
    rw [List.toList_toArray]
    omega
  · exact Nat.zero_le _
theorem twin_size {s t : ByteArray} (hT : TwinR s t) : s.size ≤ 2000 ∧ t.size ≤ 2000 := by
  obtain ⟨h, host, ex, hO, hh, hex, hl, rfl, ht⟩ := hT
  refine ⟨Nat.le_trans (wr_size h) (by omega), ?_⟩
  rcases ht with rfl | ht
  · exact Nat.le_trans (wr_size _) (by omega)
  · rw [size_len, ht, twin_text]
    have h1 := lines_len (ex_ok hO hex)
    have h2 := hl_size hh
    have h3 := tl_size hO.target
    have h4 := hO.len
    rw [size_len] at h2 h3
    have h5 : (ex ++ h.fs.reverse).length ≤ 4 := by simp; omega
    have h6 : (twPre host.data.toList h.target.data.toList).length = 22 + 2 * host.data.toList.length + h.target.data.toList.length := by simp [twPre]; omega
    rw [List.length_append, List.length_append, h6]
    simp only [List.length_cons, List.length_nil]
    omega
theorem read_few {s : List UInt8} {h : Hd} {u what : Nat} (hr : readL s = (h, u, what)) : h.fs.length ≤ 6 := by
  by_cases hd : what = 1
  · have h1 : (readL s).2.2 = 1 := by rw [hr]; exact hd
    obtain ⟨k1, _⟩ := read_done h1
    rw [hr] at k1
    exact (hed_sizes k1).2.2.2.2.1
  · have h1 : (readL s).2.2 ≠ 1 := by rw [hr]; exact hd
    rcases read_not h1 with e | e
    all_goals
      rw [hr] at e
      obtain ⟨rfl, rfl, rfl⟩ : h = noHd ∧ u = 0 ∧ _ := by simpa using e
      simp [noHd]
theorem read_okF {s : List UInt8} {h : Hd} {u : Nat} (hr : readL s = (h, u, 1)) : FOk h.fs 300 := by
  have h1 : (readL s).2.2 = 1 := by rw [hr]
  obtain ⟨k1, _⟩ := read_done h1
  rw [hr] at k1
  exact (hed_sizes k1).2.2.2.2.2

set_option maxRecDepth 100000 in
set_option maxHeartbeats 6400000 in
theorem law_hedform (a : Option Addr) (len cap : Nat) (zs : List Int) (w : World) (ha : IsRow .u8 w a len cap zs) (hcds : Cds w) (hcls : Cls w) (htab : Tab w) (herr : Errs w) :
    Calls Tryz.prog 3 #[.slice a len cap] w fun e w' => e = .returned (.bool true) ∧ Below w.heap.size w w' := by
  have hl := isrow_len ha
  by_cases hbig : 1048576 < len
  · clear hcls ha htab herr hcds
    go_enter Tryz.func3, Tryz.ntmps3
    go_wp2_with fail
    go_ret
    exact ⟨rfl, Below.refl _ _⟩
  have c1 := draw_twin a len cap zs w ha
  clear ha
  have HX : Hid (∀ W, Below w.heap.size w W → Cds W ∧ Cls W ∧ Tab W ∧ Errs W) := Lib.hid fun W hW => ⟨hcds.below hW (Nat.le_refl _), hcls.below hW (Nat.le_refl _), htab.below hW (Nat.le_refl _), herr.below hW (Nat.le_refl _)⟩
  clear hcls htab herr hcds
  go_enter Tryz.func3, Tryz.ntmps3
  go_wp2_with fail
  refine c1.mono ?_
  rintro e w1 ⟨⟨s, t, rfl, hT⟩, hb1⟩
  clear c1
  obtain ⟨hss, hts⟩ := twin_size hT
  obtain ⟨h, u, wh, hr⟩ : ∃ (h : Hd) (u wh : Nat), readL s.data.toList = (h, u, wh) := ⟨_, _, _, rfl⟩
  obtain ⟨k, u', wh', hr'⟩ : ∃ (k : Hd) (u' wh' : Nat), readL t.data.toList = (k, u', wh') := ⟨_, _, _, rfl⟩
  have iR : ∀ W, Below w.heap.size w W → Calls Tryz.prog 5 #[.string s] W fun e w' => (∃ v, e = .returned (.tuple #[.agg #[.string h.verb, .string h.target, .string h.host, v, .string h.body], .int .i64 (u : Nat), .int .i64 (wh : Nat)]) ∧ w'.ownsRow W.heap.size 39 2 v h.fs.length (fcells h.fs)) ∧ Below W.heap.size W w' := fun W hW => by
    obtain ⟨_, q1, q2, q3⟩ := HX.out W hW
    have c := impl_hedread s W (by omega) q1 q2 q3
    rw [hr] at c; exact c
  have iR' : ∀ W, Below w.heap.size w W → Calls Tryz.prog 5 #[.string t] W fun e w' => (∃ v, e = .returned (.tuple #[.agg #[.string k.verb, .string k.target, .string k.host, v, .string k.body], .int .i64 (u' : Nat), .int .i64 (wh' : Nat)]) ∧ w'.ownsRow W.heap.size 39 2 v k.fs.length (fcells k.fs)) ∧ Below W.heap.size W w' := fun W hW => by
    obtain ⟨_, q1, q2, q3⟩ := HX.out W hW
    have c := impl_hedread t W (by omega) q1 q2 q3
    rw [hr'] at c; exact c
  have sR : ∀ W, Calls Tryz.prog 6 #[.string s] W fun e w' => (∃ v, e = .returned (.tuple #[.agg #[.string h.verb, .string h.target, .string h.host, v, .string h.body], .int .i64 (u : Nat), .int .i64 (wh : Nat)]) ∧ w'.ownsRow W.heap.size 39 2 v h.fs.length (fcells h.fs)) ∧ Below W.heap.size W w' := fun W => by
    have c := spec_hedread s W (by omega)
    rw [hr] at c; exact c
  have hfew := read_few hr
  have hfew' := read_few hr'
  have HLaw : Hid (wh = 1 → wh' = 1 → (h.verb = k.verb ∧ h.target = k.target ∧ codOfF h.fs = codOfF k.fs ∧ h.body = k.body) ∧ FOk h.fs 300 ∧ FOk k.fs 300) := Lib.hid fun e1 e2 => by
    subst e1 e2
    exact ⟨twin_law hT hr hr', read_okF hr, read_okF hr'⟩
  have c1 := iR w1 hb1
  have HSR := Lib.hid sR
  have HIR := Lib.hid iR'
  have HB1 := Lib.hid hb1
  have hs1 := hb1.size
  clear iR iR' sR hb1 hr hr' hT
  go_wp2_with fail
  refine c1.mono ?_
  rintro e w7 ⟨⟨v7, rfl, o7⟩, hb7⟩
  obtain ⟨a7, c7, rfl⟩ := own_len2 o7
  obtain ⟨w8, hw8⟩ : ∃ w8, w8 = w7.alloc (.cells #[.string h.verb, .string h.target, .string h.host, .slice a7 h.fs.length c7, .string h.body] 27) := ⟨_, rfl⟩
  have hs7 := hb7.size
  have hs8 : w8.heap.size = w7.heap.size + 1 := by rw [hw8]; simp
  have hb78 : Below w7.heap.size w7 w8 := by rw [hw8]; exact (Below.refl _ _).alloc (Nat.le_refl _) _
  have hx8 : w8.heap[w7.heap.size]? = some (.cells #[.string h.verb, .string h.target, .string h.host, .slice a7 h.fs.length c7, .string h.body] 27 (0, 0)) := by rw [hw8]; exact heap_alloc_new w7 _
  have hb18 := HB1.out.trans ((hb7.trans (hb78.mono hs7)).mono hs1)
  have f8 := own_frowL (own_below o7 hb78)
  have c8 := HIR.out w8 hb18
  have HW8 := Lib.hid hw8
  clear c1 hb7 hb78 o7 hw8 HIR
  go_wp2_with fail
  rw [← HW8.out]
  refine c8.mono ?_
  rintro e w9 ⟨⟨v9, rfl, o9⟩, hb9⟩
  obtain ⟨a9, c9, rfl⟩ := own_len2 o9
  obtain ⟨w10, hw10⟩ : ∃ w10, w10 = w9.alloc (.cells #[.string k.verb, .string k.target, .string k.host, .slice a9 k.fs.length c9, .string k.body] 27) := ⟨_, rfl⟩
  have hs9 := hb9.size
  have hs10 : w10.heap.size = w9.heap.size + 1 := by rw [hw10]; simp
  have hb910 : Below w9.heap.size w9 w10 := by rw [hw10]; exact (Below.refl _ _).alloc (Nat.le_refl _) _
  have hx10 : w10.heap[w9.heap.size]? = some (.cells #[.string k.verb, .string k.target, .string k.host, .slice a9 k.fs.length c9, .string k.body] 27 (0, 0)) := by rw [hw10]; exact heap_alloc_new w9 _
  have hb810 : Below w8.heap.size w8 w10 := hb9.trans (hb910.mono hs9)
  have hb010 := hb18.trans (hb810.mono hb18.size)
  have f9 := own_frowL (own_below o9 hb910)
  have f10 := f8.below (Nat.le_refl _) hb810
  have hx10' := (hb810.block w7.heap.size (by omega)).trans hx8
  have c10 := HSR.out w10
  have HW10 := Lib.hid hw10
  clear c8 hb9 hb910 o9 hw10 hb810 f8 hx8 hb18 HSR
  go_wp2_with fail
  rw [← HW10.out]
  refine c10.mono ?_
  rintro e w11 ⟨⟨v11, rfl, o11⟩, hb11⟩
  obtain ⟨a11, c11, rfl⟩ := own_len2 o11
  obtain ⟨w12, hw12⟩ : ∃ w12, w12 = w11.alloc (.cells #[.string h.verb, .string h.target, .string h.host, .slice a11 h.fs.length c11, .string h.body] 27) := ⟨_, rfl⟩
  have hs11 := hb11.size
  have hs12 : w12.heap.size = w11.heap.size + 1 := by rw [hw12]; simp
  have hb1112 : Below w11.heap.size w11 w12 := by rw [hw12]; exact (Below.refl _ _).alloc (Nat.le_refl _) _
  have hx12 : w12.heap[w11.heap.size]? = some (.cells #[.string h.verb, .string h.target, .string h.host, .slice a11 h.fs.length c11, .string h.body] 27 (0, 0)) := by rw [hw12]; exact heap_alloc_new w11 _
  have hb1012 : Below w10.heap.size w10 w12 := hb11.trans (hb1112.mono hs11)
  have hb012 := hb010.trans (hb1012.mono hb010.size)
  have f12 := own_frowL (own_below o11 hb1112)
  have fh := f10.below (Nat.le_refl _) hb1012
  have fk := f9.below (Nat.le_refl _) hb1012
  have hxh := (hb1012.block w7.heap.size (by omega)).trans hx10'
  have hxk := (hb1012.block w9.heap.size (by omega)).trans hx10
  have g1 := gd_head h _ _ w12 fh f12 (by omega)
  unfold headV at g1
  have hall : ∀ W, Below w12.heap.size w12 W → Below w.heap.size w W ∧ FRow W (.slice a7 h.fs.length c7) h.fs ∧ FRow W (.slice a9 k.fs.length c9) k.fs ∧ Cds W ∧ Cls W ∧ Errs W ∧ W.heap[w7.heap.size]? = some (.cells #[.string h.verb, .string h.target, .string h.host, .slice a7 h.fs.length c7, .string h.body] 27 (0, 0)) ∧ W.heap[w9.heap.size]? = some (.cells #[.string k.verb, .string k.target, .string k.host, .slice a9 k.fs.length c9, .string k.body] 27 (0, 0)) := fun W hW => by
    have h0 := hb012.trans (hW.mono hb012.size)
    obtain ⟨k0, k1, k2, k3⟩ := HX.out W h0
    exact ⟨h0, fh.below (Nat.le_refl _) hW, fk.below (Nat.le_refl _) hW, k0, k1, k3, (hW.block w7.heap.size (by omega)).trans hxh, (hW.block w9.heap.size (by omega)).trans hxk⟩
  have HA := Lib.hid hall
  obtain ⟨x0, x1, x2, x3, x4, _⟩ := five_facts hxh
  obtain ⟨y0, y1, y2, y3, y4, _⟩ := five_facts hx12
  rw [hw12] at x0 x1 x2 x3 x4 y0 y1 y2 y3 y4
  have HW12 := Lib.hid hw12
  clear c10 hb11 hb1112 o11 hw12 hx10 hx10' hx12 hb1012 hb012 hb010 f9 f10 f12 fh fk hxh hxk hall HX
  have eu : ((u : Int) != (u : Int)) = false := by simp
  have ew : ((wh : Int) != (wh : Int)) = false := by simp
  go_wp2_with fail
  rw [← HW12.out]
  refine g1.mono ?_
  rintro e w13 ⟨rfl, hb13⟩
  clear g1 x0 x1 x2 x3 x4 y0 y1 y2 y3 y4
  obtain ⟨hfin, _, _, _, k1, _, _, _⟩ := HA.out w13 hb13
  have HFin := Lib.hid hfin
  have HB13 := Lib.hid hb13
  have hgo := gd_ok w13 k1
  have HGo := Lib.hid hgo
  clear hfin hb13 k1 hgo
  by_cases d1 : wh = 1
  case neg =>
    have b1 : ((wh : Int) != 1) = true := by simp; omega
    go_wp2_with fail
    refine HGo.out.mono ?_
    rintro e w14 ⟨rfl, rfl⟩
    go_wp2
    go_ret
    exact ⟨rfl, HFin.out⟩
  subst d1
  by_cases d2 : wh' = 1
  case neg =>
    have b1 : ((wh' : Int) != 1) = true := by simp; omega
    go_wp2_with fail
    refine HGo.out.mono ?_
    rintro e w14 ⟨rfl, rfl⟩
    go_wp2
    go_ret
    exact ⟨rfl, HFin.out⟩
  subst d2
  by_cases d3 : u = s.size
  case neg =>
    have b1 : ((u : Int) != (s.size : Int)) = true := by simp; omega
    go_wp2_with fail
    refine HGo.out.mono ?_
    rintro e w14 ⟨rfl, rfl⟩
    go_wp2
    go_ret
    exact ⟨rfl, HFin.out⟩
  subst d3
  by_cases d4 : u' = t.size
  case neg =>
    have b1 : ((u' : Int) != (t.size : Int)) = true := by simp; omega
    have b0 : ((s.size : Int) != (s.size : Int)) = false := by simp
    go_wp2_with fail
    refine HGo.out.mono ?_
    rintro e w14 ⟨rfl, rfl⟩
    go_wp2
    go_ret
    exact ⟨rfl, HFin.out⟩
  subst d4
  have b0 : ((s.size : Int) != (s.size : Int)) = false := by simp
  have b1 : ((t.size : Int) != (t.size : Int)) = false := by simp
  have HLw := Lib.hid (HLaw.out rfl rfl)
  clear HLaw HGo
  go_upto_region 11 with fail
  obtain ⟨⟨e1, e2, e3, e4⟩, ok1, ok2⟩ := HLw.out
  have hb2 := fun W (hW : Below w13.heap.size w13 W) => HA.out W (HB13.out.trans (hW.mono HB13.out.size))
  have hc1 : ∀ W, Below w13.heap.size w13 W → Calls Tryz.prog 9 #[.slice a7 h.fs.length c7] W fun e w' => e = .returned (.int .i64 (codOfF k.fs : Int)) ∧ Below W.heap.size W w' := fun W hW => by
    obtain ⟨_, fh, fk, k0, k1, k3, _, _⟩ := hb2 W hW
    have c := impl_codof _ h.fs W fh (fun f hf => ⟨Nat.le_trans (ok1 f hf).1 (by omega), Nat.le_trans (ok1 f hf).2 (by omega)⟩) (by omega) k0 k1 k3
    rw [e3] at c; exact c
  have hc2 : ∀ W, Below w13.heap.size w13 W → Calls Tryz.prog 9 #[.slice a9 k.fs.length c9] W fun e w' => e = .returned (.int .i64 (codOfF k.fs : Int)) ∧ Below W.heap.size W w' := fun W hW => by
    obtain ⟨_, fh, fk, k0, k1, k3, _, _⟩ := hb2 W hW
    exact impl_codof _ k.fs W fk (fun f hf => ⟨Nat.le_trans (ok2 f hf).1 (by omega), Nat.le_trans (ok2 f hf).2 (by omega)⟩) (by omega) k0 k1 k3
  have hxh : ∀ W, Below w13.heap.size w13 W → W.heap[w7.heap.size]? = some (.cells #[.string k.verb, .string k.target, .string h.host, .slice a7 h.fs.length c7, .string k.body] 27 (0, 0)) := fun W hW => by
    obtain ⟨_, _, _, _, _, _, x, _⟩ := hb2 W hW
    rw [e1, e2, e4] at x; exact x
  have hxk : ∀ W, Below w13.heap.size w13 W → W.heap[w9.heap.size]? = some (.cells #[.string k.verb, .string k.target, .string k.host, .slice a9 k.fs.length c9, .string k.body] 27 (0, 0)) := fun W hW => (hb2 W hW).2.2.2.2.2.2.2
  have HC1 := Lib.hid hc1; have HC2 := Lib.hid hc2; have HXH := Lib.hid hxh; have HXK := Lib.hid hxk
  clear hc1 hc2 hxh hxk hb2 e1 e2 e3 e4 ok1 ok2 HLw HA b0 b1
  refine wp_region_last (by kernel_rfl) 28 (by kernel_rfl) (by kernel_rfl) (by kernel_rfl)
    (fun y => { tmps := #[Value.slice a len cap, undef, Value.bool false, Value.string s, Value.string t, Value.pointer (some { block := w7.heap.size, off := 0 }), Value.int IntKind.i64 ↑s.size, Value.int IntKind.i64 1, Value.pointer (some { block := w9.heap.size, off := 0 }), Value.int IntKind.i64 ↑t.size, Value.int IntKind.i64 1, Value.pointer (some { block := w11.heap.size, off := 0 }), Value.int IntKind.i64 ↑s.size, Value.int IntKind.i64 1, Value.slice a len cap, Value.int IntKind.i64 ↑len, Value.bool (decide ((1048576 : Int) < (len : Int))), Value.tuple #[Value.string s, Value.string t], Value.slice a len cap, Value.tuple #[Value.string s, Value.string t], Value.string s, Value.string t, Value.tuple #[Value.agg #[Value.string h.verb, Value.string h.target, Value.string h.host, Value.slice a7 h.fs.length c7, Value.string h.body], Value.int IntKind.i64 ↑s.size, Value.int IntKind.i64 1], Value.string s, Value.tuple #[Value.agg #[Value.string h.verb, Value.string h.target, Value.string h.host, Value.slice a7 h.fs.length c7, Value.string h.body], Value.int IntKind.i64 ↑s.size, Value.int IntKind.i64 1], Value.agg #[Value.string h.verb, Value.string h.target, Value.string h.host, Value.slice a7 h.fs.length c7, Value.string h.body], Value.int IntKind.i64 ↑s.size, Value.int IntKind.i64 1, Value.tuple #[Value.agg #[Value.string k.verb, Value.string k.target, Value.string k.host, Value.slice a9 k.fs.length c9, Value.string k.body], Value.int IntKind.i64 ↑t.size, Value.int IntKind.i64 1], Value.string t, Value.tuple #[Value.agg #[Value.string k.verb, Value.string k.target, Value.string k.host, Value.slice a9 k.fs.length c9, Value.string k.body], Value.int IntKind.i64 ↑t.size, Value.int IntKind.i64 1], Value.agg #[Value.string k.verb, Value.string k.target, Value.string k.host, Value.slice a9 k.fs.length c9, Value.string k.body], Value.int IntKind.i64 ↑t.size, Value.int IntKind.i64 1, Value.tuple #[Value.agg #[Value.string h.verb, Value.string h.target, Value.string h.host, Value.slice a11 h.fs.length c11, Value.string h.body], Value.int IntKind.i64 ↑s.size, Value.int IntKind.i64 1], Value.string s, Value.tuple #[Value.agg #[Value.string h.verb, Value.string h.target, Value.string h.host, Value.slice a11 h.fs.length c11, Value.string h.body], Value.int IntKind.i64 ↑s.size, Value.int IntKind.i64 1], Value.agg #[Value.string h.verb, Value.string h.target, Value.string h.host, Value.slice a11 h.fs.length c11, Value.string h.body], Value.int IntKind.i64 ↑s.size, Value.int IntKind.i64 1, Value.agg #[Value.string h.verb, Value.string h.target, Value.string h.host, Value.slice a7 h.fs.length c7, Value.string h.body], Value.agg #[Value.string h.verb, Value.string h.target, Value.string h.host, Value.slice a11 h.fs.length c11, Value.string h.body], Value.bool true, Value.bool false, Value.bool false, Value.int IntKind.i64 ↑s.size, Value.int IntKind.i64 ↑s.size, Value.bool false, Value.bool false, Value.bool false, Value.int IntKind.i64 1, Value.int IntKind.i64 1, Value.bool false, Value.bool false, Value.int IntKind.i64 1, Value.bool false, Value.bool false, Value.int IntKind.i64 1, Value.bool false, Value.bool false, Value.bool false, Value.int IntKind.i64 ↑s.size, Value.string s, Value.int IntKind.i64 ↑s.size, Value.bool false, Value.bool false, Value.bool false, Value.int IntKind.i64 ↑t.size, Value.string t, Value.int IntKind.i64 ↑t.size, Value.bool false, Value.bool false, undef, y 0, y 1, y 2, y 3, y 4, y 5, y 6, y 7, y 8, y 9, y 10, y 11, y 12, y 13, y 14, y 15, y 16, y 17, y 18, y 19, y 20, y 21, y 22, y 23, y 24, y 25, y 26, y 27], defers := [] })
    (fun _ W => Below w13.heap.size w13 W)
    (fun i x _ => x = [.pointer (some ⟨w7.heap.size, 0, none⟩), .string k.verb, .pointer (some ⟨w9.heap.size, 0, none⟩), .string k.verb, .bool true, .bool true, .pointer (some ⟨w7.heap.size, 1, none⟩), .string k.target, .pointer (some ⟨w9.heap.size, 1, none⟩), .string k.target, .bool true, .bool true, .bool true, .pointer (some ⟨w7.heap.size, 3, none⟩), .slice a7 h.fs.length c7, .int .i64 (codOfF k.fs : Int), .pointer (some ⟨w9.heap.size, 3, none⟩), .slice a9 k.fs.length c9, .int .i64 (codOfF k.fs : Int), .bool true, .bool true, .bool true, .pointer (some ⟨w7.heap.size, 4, none⟩), .string k.body, .pointer (some ⟨w9.heap.size, 4, none⟩), .string k.body, .bool true, .bool true].getD i undef) (fun _ _ => True) (fun _ => undef) (Below.refl _ _).drew (fun _ _ _ _ _ h _ => h) ?_ ?_
  · intro i hi' z W kk hk hC hd'
    match i, hi' with
    | 0, _ =>
      refine wpOp_step rfl (fun K hK => ?_)
      clear hd'
      go_simp
      exact hK _ _ ⟨.pointer (some ⟨w7.heap.size, 0, none⟩), rfl, rfl, trivial, hC⟩
    | 1, _ =>
      obtain ⟨q0, q1, q2, q3, q4, _⟩ := five_facts (HXH.out W hC)
      have e0 : z 0 = .pointer (some ⟨w7.heap.size, 0, none⟩) := hd' 0 (dep_of (by kernel_rfl))
      refine wpOp_step rfl (fun K hK => ?_)
      clear hd'
      go_simp
      exact hK _ _ ⟨.string k.verb, by simp [upd, e0], rfl, trivial, hC⟩
    | 2, _ =>
      refine wpOp_step rfl (fun K hK => ?_)
      clear hd'
      go_simp
      exact hK _ _ ⟨.pointer (some ⟨w9.heap.size, 0, none⟩), rfl, rfl, trivial, hC⟩
    | 3, _ =>
      obtain ⟨q0, q1, q2, q3, q4, _⟩ := five_facts (HXK.out W hC)
      have e2 : z 2 = .pointer (some ⟨w9.heap.size, 0, none⟩) := hd' 2 (dep_of (by kernel_rfl))
      refine wpOp_step rfl (fun K hK => ?_)
      clear hd'
      go_simp
      exact hK _ _ ⟨.string k.verb, by simp [upd, e2], rfl, trivial, hC⟩
    | 4, _ =>
      have e1 : z 1 = .string k.verb := hd' 1 (dep_of (by kernel_rfl))
      have e3 : z 3 = .string k.verb := hd' 3 (dep_of (by kernel_rfl))
      have er : (k.verb.toList == k.verb.toList) = true := by simp
      refine wpOp_step rfl (fun K hK => ?_)
      clear hd'
      go_simp
      exact hK _ _ ⟨.bool true, by simp [upd, e1, e3], rfl, trivial, hC⟩
    | 5, _ =>
      have e4 : z 4 = .bool true := hd' 4 (dep_of (by kernel_rfl))
      refine wpOp_step rfl (fun K hK => ?_)
      clear hd'
      go_simp
      exact hK _ _ ⟨.bool true, by simp [upd, e4], rfl, trivial, hC⟩
    | 6, _ =>
      have e5 : z 5 = .bool true := hd' 5 (dep_of (by kernel_rfl))
      refine wpOp_step rfl (fun K hK => ?_)
      clear hd'
      go_simp
      exact hK _ _ ⟨.pointer (some ⟨w7.heap.size, 1, none⟩), by simp [upd, e5], rfl, trivial, hC⟩
    | 7, _ =>
      obtain ⟨q0, q1, q2, q3, q4, _⟩ := five_facts (HXH.out W hC)
      have e5 : z 5 = .bool true := hd' 5 (dep_of (by kernel_rfl))
      have e6 : z 6 = .pointer (some ⟨w7.heap.size, 1, none⟩) := hd' 6 (dep_of (by kernel_rfl))
      refine wpOp_step rfl (fun K hK => ?_)
      clear hd'
      go_simp
      exact hK _ _ ⟨.string k.target, by simp [upd, e5, e6], rfl, trivial, hC⟩
    | 8, _ =>
      have e5 : z 5 = .bool true := hd' 5 (dep_of (by kernel_rfl))
      refine wpOp_step rfl (fun K hK => ?_)
      clear hd'
      go_simp
      exact hK _ _ ⟨.pointer (some ⟨w9.heap.size, 1, none⟩), by simp [upd, e5], rfl, trivial, hC⟩
    | 9, _ =>
      obtain ⟨q0, q1, q2, q3, q4, _⟩ := five_facts (HXK.out W hC)
      have e5 : z 5 = .bool true := hd' 5 (dep_of (by kernel_rfl))
      have e8 : z 8 = .pointer (some ⟨w9.heap.size, 1, none⟩) := hd' 8 (dep_of (by kernel_rfl))
      refine wpOp_step rfl (fun K hK => ?_)
      clear hd'
      go_simp
      exact hK _ _ ⟨.string k.target, by simp [upd, e5, e8], rfl, trivial, hC⟩
    | 10, _ =>
      have e5 : z 5 = .bool true := hd' 5 (dep_of (by kernel_rfl))
      have e7 : z 7 = .string k.target := hd' 7 (dep_of (by kernel_rfl))
      have e9 : z 9 = .string k.target := hd' 9 (dep_of (by kernel_rfl))
      have er : (k.target.toList == k.target.toList) = true := by simp
      refine wpOp_step rfl (fun K hK => ?_)
      clear hd'
      go_simp
      exact hK _ _ ⟨.bool true, by simp [upd, e5, e7, e9], rfl, trivial, hC⟩
    | 11, _ =>
      have e5 : z 5 = .bool true := hd' 5 (dep_of (by kernel_rfl))
      have e10 : z 10 = .bool true := hd' 10 (dep_of (by kernel_rfl))
      refine wpOp_step rfl (fun K hK => ?_)
      clear hd'
      go_simp
      exact hK _ _ ⟨.bool true, by simp [upd, e5, e10], rfl, trivial, hC⟩
    | 12, _ =>
      have e11 : z 11 = .bool true := hd' 11 (dep_of (by kernel_rfl))
      refine wpOp_step rfl (fun K hK => ?_)
      clear hd'
      go_simp
      exact hK _ _ ⟨.bool true, by simp [upd, e11], rfl, trivial, hC⟩
    | 13, _ =>
      have e12 : z 12 = .bool true := hd' 12 (dep_of (by kernel_rfl))
      refine wpOp_step rfl (fun K hK => ?_)
      clear hd'
      go_simp
      exact hK _ _ ⟨.pointer (some ⟨w7.heap.size, 3, none⟩), by simp [upd, e12], rfl, trivial, hC⟩
    | 14, _ =>
      obtain ⟨q0, q1, q2, q3, q4, _⟩ := five_facts (HXH.out W hC)
      have e12 : z 12 = .bool true := hd' 12 (dep_of (by kernel_rfl))
      have e13 : z 13 = .pointer (some ⟨w7.heap.size, 3, none⟩) := hd' 13 (dep_of (by kernel_rfl))
      refine wpOp_step rfl (fun K hK => ?_)
      clear hd'
      go_simp
      exact hK _ _ ⟨.slice a7 h.fs.length c7, by simp [upd, e12, e13], rfl, trivial, hC⟩
    | 15, _ =>
      have e12 : z 12 = .bool true := hd' 12 (dep_of (by kernel_rfl))
      have e14 : z 14 = .slice a7 h.fs.length c7 := hd' 14 (dep_of (by kernel_rfl))
      refine wpOp_step rfl (fun K hK => ?_)
      clear hd'
      go_simp
      refine (HC1.out W hC).mono ?_
      rintro e w9 ⟨rfl, hb9⟩
      exact hK _ _ ⟨.int .i64 (codOfF k.fs : Int), by simp [upd, e12, e14], rfl, trivial, hC.trans (hb9.mono hC.size)⟩
    | 16, _ =>
      have e12 : z 12 = .bool true := hd' 12 (dep_of (by kernel_rfl))
      refine wpOp_step rfl (fun K hK => ?_)
      clear hd'
      go_simp
      exact hK _ _ ⟨.pointer (some ⟨w9.heap.size, 3, none⟩), by simp [upd, e12], rfl, trivial, hC⟩
    | 17, _ =>
      obtain ⟨q0, q1, q2, q3, q4, _⟩ := five_facts (HXK.out W hC)
      have e12 : z 12 = .bool true := hd' 12 (dep_of (by kernel_rfl))
      have e16 : z 16 = .pointer (some ⟨w9.heap.size, 3, none⟩) := hd' 16 (dep_of (by kernel_rfl))
      refine wpOp_step rfl (fun K hK => ?_)
      clear hd'
      go_simp
      exact hK _ _ ⟨.slice a9 k.fs.length c9, by simp [upd, e12, e16], rfl, trivial, hC⟩
    | 18, _ =>
      have e12 : z 12 = .bool true := hd' 12 (dep_of (by kernel_rfl))
      have e17 : z 17 = .slice a9 k.fs.length c9 := hd' 17 (dep_of (by kernel_rfl))
      refine wpOp_step rfl (fun K hK => ?_)
      clear hd'
      go_simp
      refine (HC2.out W hC).mono ?_
      rintro e w9 ⟨rfl, hb9⟩
      exact hK _ _ ⟨.int .i64 (codOfF k.fs : Int), by simp [upd, e12, e17], rfl, trivial, hC.trans (hb9.mono hC.size)⟩
    | 19, _ =>
      have e12 : z 12 = .bool true := hd' 12 (dep_of (by kernel_rfl))
      have e15 : z 15 = .int .i64 (codOfF k.fs : Int) := hd' 15 (dep_of (by kernel_rfl))
      have e18 : z 18 = .int .i64 (codOfF k.fs : Int) := hd' 18 (dep_of (by kernel_rfl))
      refine wpOp_step rfl (fun K hK => ?_)
      clear hd'
      go_simp
      exact hK _ _ ⟨.bool true, by simp [upd, e12, e15, e18], rfl, trivial, hC⟩
    | 20, _ =>
      have e12 : z 12 = .bool true := hd' 12 (dep_of (by kernel_rfl))
      have e19 : z 19 = .bool true := hd' 19 (dep_of (by kernel_rfl))
      refine wpOp_step rfl (fun K hK => ?_)
      clear hd'
      go_simp
      exact hK _ _ ⟨.bool true, by simp [upd, e12, e19], rfl, trivial, hC⟩
    | 21, _ =>
      have e20 : z 20 = .bool true := hd' 20 (dep_of (by kernel_rfl))
      refine wpOp_step rfl (fun K hK => ?_)
      clear hd'
      go_simp
      exact hK _ _ ⟨.bool true, by simp [upd, e20], rfl, trivial, hC⟩
    | 22, _ =>
      have e21 : z 21 = .bool true := hd' 21 (dep_of (by kernel_rfl))
      refine wpOp_step rfl (fun K hK => ?_)
      clear hd'
      go_simp
      exact hK _ _ ⟨.pointer (some ⟨w7.heap.size, 4, none⟩), by simp [upd, e21], rfl, trivial, hC⟩
    | 23, _ =>
      obtain ⟨q0, q1, q2, q3, q4, _⟩ := five_facts (HXH.out W hC)
      have e21 : z 21 = .bool true := hd' 21 (dep_of (by kernel_rfl))
      have e22 : z 22 = .pointer (some ⟨w7.heap.size, 4, none⟩) := hd' 22 (dep_of (by kernel_rfl))
      refine wpOp_step rfl (fun K hK => ?_)
      clear hd'
      go_simp
      exact hK _ _ ⟨.string k.body, by simp [upd, e21, e22], rfl, trivial, hC⟩
    | 24, _ =>
      have e21 : z 21 = .bool true := hd' 21 (dep_of (by kernel_rfl))
      refine wpOp_step rfl (fun K hK => ?_)
      clear hd'
      go_simp
      exact hK _ _ ⟨.pointer (some ⟨w9.heap.size, 4, none⟩), by simp [upd, e21], rfl, trivial, hC⟩
    | 25, _ =>
      obtain ⟨q0, q1, q2, q3, q4, _⟩ := five_facts (HXK.out W hC)
      have e21 : z 21 = .bool true := hd' 21 (dep_of (by kernel_rfl))
      have e24 : z 24 = .pointer (some ⟨w9.heap.size, 4, none⟩) := hd' 24 (dep_of (by kernel_rfl))
      refine wpOp_step rfl (fun K hK => ?_)
      clear hd'
      go_simp
      exact hK _ _ ⟨.string k.body, by simp [upd, e21, e24], rfl, trivial, hC⟩
    | 26, _ =>
      have e21 : z 21 = .bool true := hd' 21 (dep_of (by kernel_rfl))
      have e23 : z 23 = .string k.body := hd' 23 (dep_of (by kernel_rfl))
      have e25 : z 25 = .string k.body := hd' 25 (dep_of (by kernel_rfl))
      have er : (k.body.toList == k.body.toList) = true := by simp
      refine wpOp_step rfl (fun K hK => ?_)
      clear hd'
      go_simp
      exact hK _ _ ⟨.bool true, by simp [upd, e21, e23, e25], rfl, trivial, hC⟩
    | 27, _ =>
      have e21 : z 21 = .bool true := hd' 21 (dep_of (by kernel_rfl))
      have e26 : z 26 = .bool true := hd' 26 (dep_of (by kernel_rfl))
      refine wpOp_step rfl (fun K hK => ?_)
      clear hd'
      go_simp
      exact hK _ _ ⟨.bool true, by simp [upd, e21, e26], rfl, trivial, hC⟩
    | n + 28, hn => exact absurd hn (by omega)
  · intro z W kk hk hC hd'
    have e27 : z 27 = .bool true := hd' 27 (by decide)
    have HF := Lib.hid (HFin.out.trans (hC.mono HFin.out.size))
    refine wpOp_step rfl (fun K hK => ?_)
    clear hd' hC
    go_simp
    refine hK _ _ ?_
    clear hK K
    go_wp2
    go_ret
    exact ⟨rfl, HF.out⟩
namespace Lw
theorem fnHedForm (w : World) (hL : laidMetH Tryz.prog Rows.fnHedFormRow.laid w) (a : Option Addr) (len cap : Nat) (zs : List Int) (h : IsRow .u8 w a len cap zs) :
    Calls Tryz.prog 3 #[.slice a len cap] w fun e w' => e = .returned (.bool true) ∧ Below w.heap.size w w' := by
  have hL' : laidMet Tryz.prog Rows.fnHedFormRow.laid w := hL
  exact law_hedform a len cap zs w h (cds_of_head hL'.tail.tail.tail.tail.tail.tail.tail) (cls_of_head hL'.tail.tail.tail.tail.tail.tail) (tab_of_head hL'.tail.tail) (errs_of_heads hL'.tail.tail.tail.tail)
end Lw
end Go.Proofs.YtabidoopodbknaaGreatDoor
