/- Walks: what a request that clears says, by the specification. -/
import Derived.Test.YtbhnjnoblkfckabGreatDoorSlT
import Derived.Test.YtbhnjnoblkfckabGreatDoorGA06
import Derived.Test.YtbhnjnoblkfckabGreatDoorGA02
import Derived.Test.YtbhnjnoblkfckabGreatDoorGA03
import Derived.Test.YtbhnjnoblkfckabGreatDoorGA08
namespace Go.Proofs.YtbhnjnoblkfckabGreatDoor
open Go.RowKit

set_option maxRecDepth 100000 in
set_option maxHeartbeats 1600000 in
theorem spec_num (v : Value) (fs : List Fd) (name : List UInt8) (w : World) (hF : FRow w v fs) (hok : FOk fs 281474976710656) (hn : fs.length ≤ 2000000) :
    Calls Tryz.prog 38 #[v, strV name] w fun e w' => e = .returned (.int .i64 (numI fs name)) ∧ Below w.heap.size w w' := by
  have hO := spec_one v fs ⟨name.toArray⟩ w hF hn
  have hle := field_le (fun f hf => (hok f hf).2) name
  have hno := fun h => num_none (fs := fs) (name := name) h
  unfold numI
  unfold numF at *
  unfold fieldF at *
  generalize oneOf (allTo fs ⟨name.toArray⟩ fs.length) = r at *
  obtain ⟨x, b⟩ := r
  dsimp only at hO hle hno ⊢
  have hN := fun W => spec_numread x W (by unfold maxLen; omega)
  generalize numR x.data.toList = q at *
  obtain ⟨y, c⟩ := q
  dsimp only at hN hno ⊢
  have HN := Lib.hid hN
  obtain ⟨a, l, cc, rfl⟩ : ∃ a l c, v = .slice a l c := by obtain ⟨a, c, h, _⟩ := hF; exact ⟨a, _, c, h⟩
  have hbc : b = false → c = false := fun h => congrArg Prod.snd (hno h)
  clear hF hok hle hN hno
  cases b
  · obtain rfl := hbc rfl
    rw [if_neg (by decide)]
    clear hbc
    go_enter Tryz.func38, Tryz.ntmps38
    go_wp2_with fail
    refine hO.mono ?_
    rintro e w1 ⟨rfl, hb1⟩
    clear hO
    go_wp2_with fail
    refine (HN.out _).mono ?_
    rintro e w2 ⟨rfl, hb2⟩
    have HB := Lib.hid (hb1.trans (hb2.mono hb1.size))
    clear hb1 hb2
    go_wp2
    go_ret
    exact ⟨rfl, HB.out⟩
  · clear hbc
    cases c
    · rw [if_neg (by decide)]
      go_enter Tryz.func38, Tryz.ntmps38
      go_wp2_with fail
      refine hO.mono ?_
      rintro e w1 ⟨rfl, hb1⟩
      clear hO
      go_wp2_with fail
      refine (HN.out _).mono ?_
      rintro e w2 ⟨rfl, hb2⟩
      have HB := Lib.hid (hb1.trans (hb2.mono hb1.size))
      clear hb1 hb2
      go_wp2
      go_ret
      exact ⟨rfl, HB.out⟩
    · rw [if_pos rfl]
      go_enter Tryz.func38, Tryz.ntmps38
      go_wp2_with fail
      refine hO.mono ?_
      rintro e w1 ⟨rfl, hb1⟩
      clear hO
      go_wp2_with fail
      refine (HN.out _).mono ?_
      rintro e w2 ⟨rfl, hb2⟩
      have HB := Lib.hid (hb1.trans (hb2.mono hb1.size))
      clear hb1 hb2
      go_wp2
      go_ret
      exact ⟨rfl, HB.out⟩

theorem scope_split (fs : List Fd) : scopeB fs = ((fieldF fs bScope).2 && (((fieldF fs bScope).1.toList == [97, 108, 108]) || ((fieldF fs bScope).1.toList == [111, 110, 101]))) := by
  unfold scopeB underF scopeF
  rw [Lib.toList_data]
  cases h : (fieldF fs bScope).2 with
  | true => rfl
  | false => rw [field_none h]; rfl
theorem read_split2 (h : Hd) : readB h = (hedB h && ((h.verb.toList == [112, 117, 114, 103, 101]) && (decide ((⟨(pathL h.target.data.toList).toArray⟩ : ByteArray) = h.target) && ((fieldF h.fs bScope).2 && (((((fieldF h.fs bScope).1.toList == [97, 108, 108]) || ((fieldF h.fs bScope).1.toList == [111, 110, 101]))) && ((numF h.fs bUntil).2 && ((numF h.fs bNonce).2 && (numF h.fs bSeal).2))))))) := by
  unfold readB
  rw [clear_split, scope_split]
  generalize hedB h = a
  generalize (h.verb.toList == [112, 117, 114, 103, 101]) = b
  generalize decide ((⟨(pathL h.target.data.toList).toArray⟩ : ByteArray) = h.target) = c
  generalize (fieldF h.fs bScope).2 = d
  generalize (((fieldF h.fs bScope).1.toList == [97, 108, 108]) || ((fieldF h.fs bScope).1.toList == [111, 110, 101])) = e
  cases a <;> cases b <;> cases c <;> cases d <;> simp

set_option maxRecDepth 100000 in
set_option maxHeartbeats 6400000 in
theorem spec_selread (h : Hd) (v : Value) (w : World) (hv : FRow w v h.fs) (hz : HSz h) :
    Calls Tryz.prog 9 #[.agg #[.string h.verb, .string h.target, .string h.host, v, .string h.body]] w (SelRet h w) := by
  have hle := hz.len
  obtain ⟨wA, hwA⟩ : ∃ wA, wA = (w.alloc (.cells #[.string h.verb, .string h.target, .string h.host, v, .string h.body] 32)).alloc (.cells #[.string ⟨#[]⟩, .bool false, .int .i64 0, .int .i64 0, .int .i64 0] 27) := ⟨_, rfl⟩
  have hsA : wA.heap.size = w.heap.size + 2 := by rw [hwA]; simp
  have hbA : Below w.heap.size w wA := by rw [hwA]; exact ((Below.refl _ _).alloc (Nat.le_refl _) _).alloc (by simp) _
  have hH : wA.heap[w.heap.size]? = some (.cells #[.string h.verb, .string h.target, .string h.host, v, .string h.body] 32 (0, 0)) := by rw [hwA]; exact (Below.heap_alloc _ _ _ (by simp)).trans (heap_alloc_new w _)
  have hS : wA.heap[w.heap.size + 1]? = some (.cells #[.string ⟨#[]⟩, .bool false, .int .i64 0, .int .i64 0, .int .i64 0] 27 (0, 0)) := by
    rw [hwA]
    have := heap_alloc_new (w.alloc (.cells #[.string h.verb, .string h.target, .string h.host, v, .string h.body] 32)) (.cells #[.string ⟨#[]⟩, .bool false, .int .i64 0, .int .i64 0, .int .i64 0] 27)
    rwa [World.size_alloc] at this
  have HX : Hid (∀ W, Below wA.heap.size wA W → FRow W v h.fs ∧ Below w.heap.size w W ∧ W.heap[w.heap.size]? = some (.cells #[.string h.verb, .string h.target, .string h.host, v, .string h.body] 32 (0, 0)) ∧ W.heap[w.heap.size + 1]? = some (.cells #[.string ⟨#[]⟩, .bool false, .int .i64 0, .int .i64 0, .int .i64 0] 27 (0, 0))) := Lib.hid fun W hW => by
    have hb := hbA.trans (hW.mono (by omega))
    exact ⟨hv.below (Nat.le_refl _) hb, hb, (hW.block _ (by omega)).trans hH, (hW.block _ (by omega)).trans hS⟩
  have HHed := Lib.hid fun W (hW : FRow W v h.fs) => spec_hedok h v W hW (by omega) (fun f hf => ⟨Nat.le_trans (hz.fs f hf).1 (by decide), Nat.le_trans (hz.fs f hf).2 (by decide)⟩) hz.verb hz.target hz.host hz.body
  have HP : Hid (∀ W, Calls Tryz.prog 36 #[.string h.target] W fun e w' => e = .returned (.string ⟨(pathL h.target.data.toList).toArray⟩) ∧ Below W.heap.size W w') := Lib.hid fun W => (spec_path h.target W (Nat.le_trans hz.target (by decide))).mono fun _ _ ⟨h1, n, h2⟩ => ⟨h1, by rw [h2]; exact below_drewN (Below.refl _ _)⟩
  have HOn : Hid (∀ W, FRow W v h.fs → Calls Tryz.prog 37 #[v, .string ⟨#[115, 99, 111, 112, 101]⟩] W fun e w' => e = .returned (.tuple #[.string (fieldF h.fs bScope).1, .bool (fieldF h.fs bScope).2]) ∧ Below W.heap.size W w') := Lib.hid fun W hW => spec_one v h.fs ⟨bScope.toArray⟩ W hW (by omega)
  have HNu : Hid (∀ (name : List UInt8) W, FRow W v h.fs → Calls Tryz.prog 38 #[v, .string ⟨name.toArray⟩] W fun e w' => e = .returned (.int .i64 (numI h.fs name)) ∧ Below W.heap.size W w') := Lib.hid fun name W hW => spec_num v h.fs name W hW (ok8 hz.fs) (by omega)
  have hRd : readS h = if readB h = true then ⟨h.target, (fieldF h.fs bScope).1.toList == [97, 108, 108], ((numF h.fs bUntil).1 : Int), ((numF h.fs bNonce).1 : Int), ((numF h.fs bSeal).1 : Int)⟩ else noSl := by
    unfold readS saysS underF scopeF; rw [Lib.toList_data]; rfl
  have HRb := Lib.hid (read_split2 h)
  have HRs := Lib.hid hRd
  clear hRd
  have hU := HNu.out bUntil
  have hNo := HNu.out bNonce
  have hSe := HNu.out bSeal
  have n1 : (numF h.fs bUntil).2 = false → numI h.fs bUntil < 0 := numI_neg.2
  have n2 : (numF h.fs bNonce).2 = false → numI h.fs bNonce < 0 := numI_neg.2
  have n3 : (numF h.fs bSeal).2 = false → numI h.fs bSeal < 0 := numI_neg.2
  have m1 : (numF h.fs bUntil).2 = true → numI h.fs bUntil = ((numF h.fs bUntil).1 : Int) := numI_yes
  have m2 : (numF h.fs bNonce).2 = true → numI h.fs bNonce = ((numF h.fs bNonce).1 : Int) := numI_yes
  have m3 : (numF h.fs bSeal).2 = true → numI h.fs bSeal = ((numF h.fs bSeal).1 : Int) := numI_yes
  generalize numI h.fs bUntil = U at *
  generalize numI h.fs bNonce = No at *
  generalize numI h.fs bSeal = Se at *
  generalize (numF h.fs bUntil).1 = y1 at *
  generalize (numF h.fs bNonce).1 = y2 at *
  generalize (numF h.fs bSeal).1 = y3 at *
  generalize (numF h.fs bUntil).2 = b1 at *
  generalize (numF h.fs bNonce).2 = b2 at *
  generalize (numF h.fs bSeal).2 = b3 at *
  generalize hedB h = HK at *
  generalize hP : (⟨(pathL h.target.data.toList).toArray⟩ : ByteArray) = P at *
  generalize (fieldF h.fs bScope).2 = OK at *
  generalize (fieldF h.fs bScope).1 = sc at *
  obtain ⟨va, vn, vc, rfl⟩ : ∃ a l c, v = .slice a l c := by obtain ⟨a, c, hh, _⟩ := hv; exact ⟨a, _, c, hh⟩
  have HW := Lib.hid hwA
  have HU : Hid (∀ W, FRow W (.slice va vn vc) h.fs → Calls Tryz.prog 38 #[.slice va vn vc, .string ⟨#[117, 110, 116, 105, 108]⟩] W fun e w' => e = .returned (.int .i64 U) ∧ Below W.heap.size W w') := Lib.hid fun W hW => hU W hW
  have HNo : Hid (∀ W, FRow W (.slice va vn vc) h.fs → Calls Tryz.prog 38 #[.slice va vn vc, .string ⟨#[110, 111, 110, 99, 101]⟩] W fun e w' => e = .returned (.int .i64 No) ∧ Below W.heap.size W w') := Lib.hid fun W hW => hNo W hW
  have HSe : Hid (∀ W, FRow W (.slice va vn vc) h.fs → Calls Tryz.prog 38 #[.slice va vn vc, .string ⟨#[115, 101, 97, 108]⟩] W fun e w' => e = .returned (.int .i64 Se) ∧ Below W.heap.size W w') := Lib.hid fun W hW => hSe W hW
  have HM := Lib.hid (And.intro (And.intro n1 (And.intro n2 n3)) (And.intro m1 (And.intro m2 m3)))
  clear hwA hH hS hbA hv hz hU hNo hSe HNu hle hP n1 n2 n3 m1 m2 m3
  cases HK
  · clear HM
    go_enter Tryz.func9, Tryz.ntmps9
    go_wp2_with fail
    rw [← HW.out]
    refine wp_region_last (by kernel_rfl) 15 (by kernel_rfl) (by kernel_rfl) (by kernel_rfl)
      (fun z => { tmps := #[.agg #[.string h.verb, .string h.target, .string h.host, .slice va vn vc, .string h.body], .pointer (some ⟨w.heap.size, 0, none⟩), .pointer (some ⟨w.heap.size + 1, 0, none⟩), .bool false, undef, undef, undef, z 0, z 1, z 2, z 3, z 4, z 5, z 6, z 7, z 8, z 9, z 10, z 11, z 12, z 13, z 14, undef, undef, undef, undef, undef, undef, undef, undef, undef, undef, undef, undef, undef, undef, undef, undef, undef, undef, undef, undef, undef, undef, undef, undef, undef, undef, undef, undef, undef, undef, undef, undef, undef, undef, undef, undef, undef, undef, undef, undef, undef, undef, undef, undef, undef, undef, undef, undef, undef], defers := [] })
      (fun _ W => Below wA.heap.size wA W)
      (fun i xv _ => xv = ([.agg #[.string h.verb, .string h.target, .string h.host, .slice va vn vc, .string h.body], .bool false, .bool true, .bool true, undef, undef, undef, .bool true, .bool true, undef, undef, undef, undef, undef, undef] : List Value).getD i undef)
      (fun _ _ => True) (fun _ => undef) (Below.refl _ _).drew
      (fun _ _ _ _ _ h _ => h) ?_ ?_
    · intro i hi z w7 kk hkk hC hdp
      match i, hi with
      | 0, _ =>
        obtain ⟨q0, q1, q2, q3, q4⟩ := sl_facts (HX.out w7 hC).2.2.1
        refine wpOp_step rfl (fun K hK => ?_)
        clear hdp
        go_simp
        exact hK _ _ ⟨.agg #[.string h.verb, .string h.target, .string h.host, .slice va vn vc, .string h.body], rfl, rfl, trivial, hC⟩
      | 1, _ =>
        have e0 : z 0 = .agg #[.string h.verb, .string h.target, .string h.host, .slice va vn vc, .string h.body] := hdp 0 (dep_of (by kernel_rfl))
        have hT := HHed.out w7 (HX.out w7 hC).1
        refine wpOp_step rfl (fun K hK => ?_)
        clear hdp
        go_simp
        refine hT.mono ?_
        rintro e w8 ⟨rfl, hb8⟩
        exact hK _ _ ⟨.bool false, by simp [upd, e0], rfl, trivial, hC.trans (hb8.mono hC.size)⟩
      | 2, _ =>
        have e1 : z 1 = .bool false := hdp 1 (dep_of (by kernel_rfl))
        refine wpOp_step rfl (fun K hK => ?_)
        clear hdp
        go_simp
        exact hK _ _ ⟨.bool true, by simp [upd, e1], rfl, trivial, hC⟩
      | 3, _ =>
        have e2 : z 2 = .bool true := hdp 2 (dep_of (by kernel_rfl))
        refine wpOp_step rfl (fun K hK => ?_)
        clear hdp
        go_simp
        exact hK _ _ ⟨.bool true, by simp [upd, e2], rfl, trivial, hC⟩
      | 4, _ =>
        have e3 : z 3 = .bool true := hdp 3 (dep_of (by kernel_rfl))
        refine wpOp_step rfl (fun K hK => ?_)
        clear hdp
        go_simp
        exact hK _ _ ⟨undef, by simp [upd, e3], rfl, trivial, hC⟩
      | 5, _ =>
        have e3 : z 3 = .bool true := hdp 3 (dep_of (by kernel_rfl))
        refine wpOp_step rfl (fun K hK => ?_)
        clear hdp
        go_simp
        exact hK _ _ ⟨undef, by simp [upd, e3], rfl, trivial, hC⟩
      | 6, _ =>
        have e3 : z 3 = .bool true := hdp 3 (dep_of (by kernel_rfl))
        refine wpOp_step rfl (fun K hK => ?_)
        clear hdp
        go_simp
        exact hK _ _ ⟨undef, by simp [upd, e3], rfl, trivial, hC⟩
      | 7, _ =>
        have e3 : z 3 = .bool true := hdp 3 (dep_of (by kernel_rfl))
        have e6 : z 6 = undef := hdp 6 (dep_of (by kernel_rfl))
        refine wpOp_step rfl (fun K hK => ?_)
        clear hdp
        go_simp
        exact hK _ _ ⟨.bool true, by simp [upd, e3, e6], rfl, trivial, hC⟩
      | 8, _ =>
        have e7 : z 7 = .bool true := hdp 7 (dep_of (by kernel_rfl))
        refine wpOp_step rfl (fun K hK => ?_)
        clear hdp
        go_simp
        exact hK _ _ ⟨.bool true, by simp [upd, e7], rfl, trivial, hC⟩
      | 9, _ =>
        have e8 : z 8 = .bool true := hdp 8 (dep_of (by kernel_rfl))
        refine wpOp_step rfl (fun K hK => ?_)
        clear hdp
        go_simp
        exact hK _ _ ⟨undef, by simp [upd, e8], rfl, trivial, hC⟩
      | 10, _ =>
        have e8 : z 8 = .bool true := hdp 8 (dep_of (by kernel_rfl))
        refine wpOp_step rfl (fun K hK => ?_)
        clear hdp
        go_simp
        exact hK _ _ ⟨undef, by simp [upd, e8], rfl, trivial, hC⟩
      | 11, _ =>
        have e8 : z 8 = .bool true := hdp 8 (dep_of (by kernel_rfl))
        refine wpOp_step rfl (fun K hK => ?_)
        clear hdp
        go_simp
        exact hK _ _ ⟨undef, by simp [upd, e8], rfl, trivial, hC⟩
      | 12, _ =>
        have e8 : z 8 = .bool true := hdp 8 (dep_of (by kernel_rfl))
        refine wpOp_step rfl (fun K hK => ?_)
        clear hdp
        go_simp
        exact hK _ _ ⟨undef, by simp [upd, e8], rfl, trivial, hC⟩
      | 13, _ =>
        have e8 : z 8 = .bool true := hdp 8 (dep_of (by kernel_rfl))
        refine wpOp_step rfl (fun K hK => ?_)
        clear hdp
        go_simp
        exact hK _ _ ⟨undef, by simp [upd, e8], rfl, trivial, hC⟩
      | 14, _ =>
        have e8 : z 8 = .bool true := hdp 8 (dep_of (by kernel_rfl))
        refine wpOp_step rfl (fun K hK => ?_)
        clear hdp
        go_simp
        exact hK _ _ ⟨undef, by simp [upd, e8], rfl, trivial, hC⟩
      | n + 15, hn => exact absurd hn (by omega)
    · intro z w7 kk hkk hC hdp
      have e8 : z 8 = .bool true := hdp 8 (by decide)
      have e14 : z 14 = undef := hdp 14 (by decide)
      refine wpOp_step rfl (fun K hK => ?_)
      clear hdp
      go_simp
      refine hK _ _ ?_
      clear hK K e8 e14
      have HB5 := Lib.hid (HX.out w7 hC).2.1
      have HBx := Lib.hid (HX.out w7 hC).2.2.2
      obtain ⟨r0, r1, r2, r3, r4⟩ := sl_facts (HX.out w7 hC).2.2.2
      obtain ⟨f0, f1, f2, f3, f4⟩ := sl_frozen (HX.out w7 hC).2.2.2
      clear hC
      have HZ := Lib.hid (sl_facts (sl_set HBx.out (.string ⟨#[]⟩) (.bool false) (.int .i64 0) (.int .i64 0) (.int .i64 0)))
      have HBl := Lib.hid (sl_below HB5.out (b := w.heap.size + 1) (by omega) (.string ⟨#[]⟩) (.bool false) (.int .i64 0) (.int .i64 0) (.int .i64 0))
      go_wp2
      obtain ⟨z0, z1, z2, z3, z4⟩ := HZ.out
      exact bodyPost_ret (v := .tuple #[.agg #[.string ⟨#[]⟩, .bool false, .int .i64 0, .int .i64 0, .int .i64 0], .bool false]) (by simp [results, Tryz.results9, go_sem, z0, z1, z2, z3, z4]) rfl ⟨by rw [HRs.out, HRb.out]; rfl, HBl.out⟩
  generalize hV : (h.verb.toList == [112, 117, 114, 103, 101]) = X0 at *
  cases X0
  · clear HM
    go_enter Tryz.func9, Tryz.ntmps9
    go_wp2_with fail
    rw [← HW.out]
    refine wp_region_last (by kernel_rfl) 15 (by kernel_rfl) (by kernel_rfl) (by kernel_rfl)
      (fun z => { tmps := #[.agg #[.string h.verb, .string h.target, .string h.host, .slice va vn vc, .string h.body], .pointer (some ⟨w.heap.size, 0, none⟩), .pointer (some ⟨w.heap.size + 1, 0, none⟩), .bool false, undef, undef, undef, z 0, z 1, z 2, z 3, z 4, z 5, z 6, z 7, z 8, z 9, z 10, z 11, z 12, z 13, z 14, undef, undef, undef, undef, undef, undef, undef, undef, undef, undef, undef, undef, undef, undef, undef, undef, undef, undef, undef, undef, undef, undef, undef, undef, undef, undef, undef, undef, undef, undef, undef, undef, undef, undef, undef, undef, undef, undef, undef, undef, undef, undef, undef, undef, undef, undef, undef, undef, undef], defers := [] })
      (fun _ W => Below wA.heap.size wA W)
      (fun i xv _ => xv = ([.agg #[.string h.verb, .string h.target, .string h.host, .slice va vn vc, .string h.body], .bool true, .bool false, .bool false, .pointer (some ⟨w.heap.size, 0, none⟩), .string h.verb, .bool true, .bool true, .bool true, undef, undef, undef, undef, undef, undef] : List Value).getD i undef)
      (fun _ _ => True) (fun _ => undef) (Below.refl _ _).drew
      (fun _ _ _ _ _ h _ => h) ?_ ?_
    · intro i hi z w7 kk hkk hC hdp
      match i, hi with
      | 0, _ =>
        obtain ⟨q0, q1, q2, q3, q4⟩ := sl_facts (HX.out w7 hC).2.2.1
        refine wpOp_step rfl (fun K hK => ?_)
        clear hdp
        go_simp
        exact hK _ _ ⟨.agg #[.string h.verb, .string h.target, .string h.host, .slice va vn vc, .string h.body], rfl, rfl, trivial, hC⟩
      | 1, _ =>
        have e0 : z 0 = .agg #[.string h.verb, .string h.target, .string h.host, .slice va vn vc, .string h.body] := hdp 0 (dep_of (by kernel_rfl))
        have hT := HHed.out w7 (HX.out w7 hC).1
        refine wpOp_step rfl (fun K hK => ?_)
        clear hdp
        go_simp
        refine hT.mono ?_
        rintro e w8 ⟨rfl, hb8⟩
        exact hK _ _ ⟨.bool true, by simp [upd, e0], rfl, trivial, hC.trans (hb8.mono hC.size)⟩
      | 2, _ =>
        have e1 : z 1 = .bool true := hdp 1 (dep_of (by kernel_rfl))
        refine wpOp_step rfl (fun K hK => ?_)
        clear hdp
        go_simp
        exact hK _ _ ⟨.bool false, by simp [upd, e1], rfl, trivial, hC⟩
      | 3, _ =>
        have e2 : z 2 = .bool false := hdp 2 (dep_of (by kernel_rfl))
        refine wpOp_step rfl (fun K hK => ?_)
        clear hdp
        go_simp
        exact hK _ _ ⟨.bool false, by simp [upd, e2], rfl, trivial, hC⟩
      | 4, _ =>
        have e3 : z 3 = .bool false := hdp 3 (dep_of (by kernel_rfl))
        refine wpOp_step rfl (fun K hK => ?_)
        clear hdp
        go_simp
        exact hK _ _ ⟨.pointer (some ⟨w.heap.size, 0, none⟩), by simp [upd, e3], rfl, trivial, hC⟩
      | 5, _ =>
        obtain ⟨q0, q1, q2, q3, q4⟩ := sl_facts (HX.out w7 hC).2.2.1
        have e3 : z 3 = .bool false := hdp 3 (dep_of (by kernel_rfl))
        have e4 : z 4 = .pointer (some ⟨w.heap.size, 0, none⟩) := hdp 4 (dep_of (by kernel_rfl))
        refine wpOp_step rfl (fun K hK => ?_)
        clear hdp
        go_simp
        exact hK _ _ ⟨.string h.verb, by simp [upd, e3, e4], rfl, trivial, hC⟩
      | 6, _ =>
        have e3 : z 3 = .bool false := hdp 3 (dep_of (by kernel_rfl))
        have e5 : z 5 = .string h.verb := hdp 5 (dep_of (by kernel_rfl))
        refine wpOp_step rfl (fun K hK => ?_)
        clear hdp
        go_simp
        exact hK _ _ ⟨.bool true, by simp [upd, e3, e5], rfl, trivial, hC⟩
      | 7, _ =>
        have e3 : z 3 = .bool false := hdp 3 (dep_of (by kernel_rfl))
        have e6 : z 6 = .bool true := hdp 6 (dep_of (by kernel_rfl))
        refine wpOp_step rfl (fun K hK => ?_)
        clear hdp
        go_simp
        exact hK _ _ ⟨.bool true, by simp [upd, e3, e6], rfl, trivial, hC⟩
      | 8, _ =>
        have e7 : z 7 = .bool true := hdp 7 (dep_of (by kernel_rfl))
        refine wpOp_step rfl (fun K hK => ?_)
        clear hdp
        go_simp
        exact hK _ _ ⟨.bool true, by simp [upd, e7], rfl, trivial, hC⟩
      | 9, _ =>
        have e8 : z 8 = .bool true := hdp 8 (dep_of (by kernel_rfl))
        refine wpOp_step rfl (fun K hK => ?_)
        clear hdp
        go_simp
        exact hK _ _ ⟨undef, by simp [upd, e8], rfl, trivial, hC⟩
      | 10, _ =>
        have e8 : z 8 = .bool true := hdp 8 (dep_of (by kernel_rfl))
        refine wpOp_step rfl (fun K hK => ?_)
        clear hdp
        go_simp
        exact hK _ _ ⟨undef, by simp [upd, e8], rfl, trivial, hC⟩
      | 11, _ =>
        have e8 : z 8 = .bool true := hdp 8 (dep_of (by kernel_rfl))
        refine wpOp_step rfl (fun K hK => ?_)
        clear hdp
        go_simp
        exact hK _ _ ⟨undef, by simp [upd, e8], rfl, trivial, hC⟩
      | 12, _ =>
        have e8 : z 8 = .bool true := hdp 8 (dep_of (by kernel_rfl))
        refine wpOp_step rfl (fun K hK => ?_)
        clear hdp
        go_simp
        exact hK _ _ ⟨undef, by simp [upd, e8], rfl, trivial, hC⟩
      | 13, _ =>
        have e8 : z 8 = .bool true := hdp 8 (dep_of (by kernel_rfl))
        refine wpOp_step rfl (fun K hK => ?_)
        clear hdp
        go_simp
        exact hK _ _ ⟨undef, by simp [upd, e8], rfl, trivial, hC⟩
      | 14, _ =>
        have e8 : z 8 = .bool true := hdp 8 (dep_of (by kernel_rfl))
        refine wpOp_step rfl (fun K hK => ?_)
        clear hdp
        go_simp
        exact hK _ _ ⟨undef, by simp [upd, e8], rfl, trivial, hC⟩
      | n + 15, hn => exact absurd hn (by omega)
    · intro z w7 kk hkk hC hdp
      have e8 : z 8 = .bool true := hdp 8 (by decide)
      have e14 : z 14 = undef := hdp 14 (by decide)
      refine wpOp_step rfl (fun K hK => ?_)
      clear hdp
      go_simp
      refine hK _ _ ?_
      clear hK K e8 e14
      have HB5 := Lib.hid (HX.out w7 hC).2.1
      have HBx := Lib.hid (HX.out w7 hC).2.2.2
      obtain ⟨r0, r1, r2, r3, r4⟩ := sl_facts (HX.out w7 hC).2.2.2
      obtain ⟨f0, f1, f2, f3, f4⟩ := sl_frozen (HX.out w7 hC).2.2.2
      clear hC
      have HZ := Lib.hid (sl_facts (sl_set HBx.out (.string ⟨#[]⟩) (.bool false) (.int .i64 0) (.int .i64 0) (.int .i64 0)))
      have HBl := Lib.hid (sl_below HB5.out (b := w.heap.size + 1) (by omega) (.string ⟨#[]⟩) (.bool false) (.int .i64 0) (.int .i64 0) (.int .i64 0))
      go_wp2
      obtain ⟨z0, z1, z2, z3, z4⟩ := HZ.out
      exact bodyPost_ret (v := .tuple #[.agg #[.string ⟨#[]⟩, .bool false, .int .i64 0, .int .i64 0, .int .i64 0], .bool false]) (by simp [results, Tryz.results9, go_sem, z0, z1, z2, z3, z4]) rfl ⟨by rw [HRs.out, HRb.out]; rfl, HBl.out⟩
  by_cases hP : P = h.target
  rotate_left
  · have hn := str_ne9 hP
    rw [decide_eq_false hP] at HRb
    clear hP HM
    go_enter Tryz.func9, Tryz.ntmps9
    go_wp2_with fail
    rw [← HW.out]
    refine wp_region_last (by kernel_rfl) 15 (by kernel_rfl) (by kernel_rfl) (by kernel_rfl)
      (fun z => { tmps := #[.agg #[.string h.verb, .string h.target, .string h.host, .slice va vn vc, .string h.body], .pointer (some ⟨w.heap.size, 0, none⟩), .pointer (some ⟨w.heap.size + 1, 0, none⟩), .bool false, undef, undef, undef, z 0, z 1, z 2, z 3, z 4, z 5, z 6, z 7, z 8, z 9, z 10, z 11, z 12, z 13, z 14, undef, undef, undef, undef, undef, undef, undef, undef, undef, undef, undef, undef, undef, undef, undef, undef, undef, undef, undef, undef, undef, undef, undef, undef, undef, undef, undef, undef, undef, undef, undef, undef, undef, undef, undef, undef, undef, undef, undef, undef, undef, undef, undef, undef, undef, undef, undef, undef, undef], defers := [] })
      (fun _ W => Below wA.heap.size wA W)
      (fun i xv _ => xv = ([.agg #[.string h.verb, .string h.target, .string h.host, .slice va vn vc, .string h.body], .bool true, .bool false, .bool false, .pointer (some ⟨w.heap.size, 0, none⟩), .string h.verb, .bool false, .bool false, .bool false, .pointer (some ⟨w.heap.size, 1, none⟩), .string h.target, .string P, .pointer (some ⟨w.heap.size, 1, none⟩), .string h.target, .bool true] : List Value).getD i undef)
      (fun _ _ => True) (fun _ => undef) (Below.refl _ _).drew
      (fun _ _ _ _ _ h _ => h) ?_ ?_
    · intro i hi z w7 kk hkk hC hdp
      match i, hi with
      | 0, _ =>
        obtain ⟨q0, q1, q2, q3, q4⟩ := sl_facts (HX.out w7 hC).2.2.1
        refine wpOp_step rfl (fun K hK => ?_)
        clear hdp
        go_simp
        exact hK _ _ ⟨.agg #[.string h.verb, .string h.target, .string h.host, .slice va vn vc, .string h.body], rfl, rfl, trivial, hC⟩
      | 1, _ =>
        have e0 : z 0 = .agg #[.string h.verb, .string h.target, .string h.host, .slice va vn vc, .string h.body] := hdp 0 (dep_of (by kernel_rfl))
        have hT := HHed.out w7 (HX.out w7 hC).1
        refine wpOp_step rfl (fun K hK => ?_)
        clear hdp
        go_simp
        refine hT.mono ?_
        rintro e w8 ⟨rfl, hb8⟩
        exact hK _ _ ⟨.bool true, by simp [upd, e0], rfl, trivial, hC.trans (hb8.mono hC.size)⟩
      | 2, _ =>
        have e1 : z 1 = .bool true := hdp 1 (dep_of (by kernel_rfl))
        refine wpOp_step rfl (fun K hK => ?_)
        clear hdp
        go_simp
        exact hK _ _ ⟨.bool false, by simp [upd, e1], rfl, trivial, hC⟩
      | 3, _ =>
        have e2 : z 2 = .bool false := hdp 2 (dep_of (by kernel_rfl))
        refine wpOp_step rfl (fun K hK => ?_)
        clear hdp
        go_simp
        exact hK _ _ ⟨.bool false, by simp [upd, e2], rfl, trivial, hC⟩
      | 4, _ =>
        have e3 : z 3 = .bool false := hdp 3 (dep_of (by kernel_rfl))
        refine wpOp_step rfl (fun K hK => ?_)
        clear hdp
        go_simp
        exact hK _ _ ⟨.pointer (some ⟨w.heap.size, 0, none⟩), by simp [upd, e3], rfl, trivial, hC⟩
      | 5, _ =>
        obtain ⟨q0, q1, q2, q3, q4⟩ := sl_facts (HX.out w7 hC).2.2.1
        have e3 : z 3 = .bool false := hdp 3 (dep_of (by kernel_rfl))
        have e4 : z 4 = .pointer (some ⟨w.heap.size, 0, none⟩) := hdp 4 (dep_of (by kernel_rfl))
        refine wpOp_step rfl (fun K hK => ?_)
        clear hdp
        go_simp
        exact hK _ _ ⟨.string h.verb, by simp [upd, e3, e4], rfl, trivial, hC⟩
      | 6, _ =>
        have e3 : z 3 = .bool false := hdp 3 (dep_of (by kernel_rfl))
        have e5 : z 5 = .string h.verb := hdp 5 (dep_of (by kernel_rfl))
        refine wpOp_step rfl (fun K hK => ?_)
        clear hdp
        go_simp
        exact hK _ _ ⟨.bool false, by simp [upd, e3, e5], rfl, trivial, hC⟩
      | 7, _ =>
        have e3 : z 3 = .bool false := hdp 3 (dep_of (by kernel_rfl))
        have e6 : z 6 = .bool false := hdp 6 (dep_of (by kernel_rfl))
        refine wpOp_step rfl (fun K hK => ?_)
        clear hdp
        go_simp
        exact hK _ _ ⟨.bool false, by simp [upd, e3, e6], rfl, trivial, hC⟩
      | 8, _ =>
        have e7 : z 7 = .bool false := hdp 7 (dep_of (by kernel_rfl))
        refine wpOp_step rfl (fun K hK => ?_)
        clear hdp
        go_simp
        exact hK _ _ ⟨.bool false, by simp [upd, e7], rfl, trivial, hC⟩
      | 9, _ =>
        have e8 : z 8 = .bool false := hdp 8 (dep_of (by kernel_rfl))
        refine wpOp_step rfl (fun K hK => ?_)
        clear hdp
        go_simp
        exact hK _ _ ⟨.pointer (some ⟨w.heap.size, 1, none⟩), by simp [upd, e8], rfl, trivial, hC⟩
      | 10, _ =>
        obtain ⟨q0, q1, q2, q3, q4⟩ := sl_facts (HX.out w7 hC).2.2.1
        have e8 : z 8 = .bool false := hdp 8 (dep_of (by kernel_rfl))
        have e9 : z 9 = .pointer (some ⟨w.heap.size, 1, none⟩) := hdp 9 (dep_of (by kernel_rfl))
        refine wpOp_step rfl (fun K hK => ?_)
        clear hdp
        go_simp
        exact hK _ _ ⟨.string h.target, by simp [upd, e8, e9], rfl, trivial, hC⟩
      | 11, _ =>
        have e8 : z 8 = .bool false := hdp 8 (dep_of (by kernel_rfl))
        have e10 : z 10 = .string h.target := hdp 10 (dep_of (by kernel_rfl))
        have hT := HP.out w7
        refine wpOp_step rfl (fun K hK => ?_)
        clear hdp
        go_simp
        refine hT.mono ?_
        rintro e w8 ⟨rfl, hb8⟩
        exact hK _ _ ⟨.string P, by simp [upd, e8, e10], rfl, trivial, hC.trans (hb8.mono hC.size)⟩
      | 12, _ =>
        have e8 : z 8 = .bool false := hdp 8 (dep_of (by kernel_rfl))
        refine wpOp_step rfl (fun K hK => ?_)
        clear hdp
        go_simp
        exact hK _ _ ⟨.pointer (some ⟨w.heap.size, 1, none⟩), by simp [upd, e8], rfl, trivial, hC⟩
      | 13, _ =>
        obtain ⟨q0, q1, q2, q3, q4⟩ := sl_facts (HX.out w7 hC).2.2.1
        have e8 : z 8 = .bool false := hdp 8 (dep_of (by kernel_rfl))
        have e12 : z 12 = .pointer (some ⟨w.heap.size, 1, none⟩) := hdp 12 (dep_of (by kernel_rfl))
        refine wpOp_step rfl (fun K hK => ?_)
        clear hdp
        go_simp
        exact hK _ _ ⟨.string h.target, by simp [upd, e8, e12], rfl, trivial, hC⟩
      | 14, _ =>
        have e8 : z 8 = .bool false := hdp 8 (dep_of (by kernel_rfl))
        have e11 : z 11 = .string P := hdp 11 (dep_of (by kernel_rfl))
        have e13 : z 13 = .string h.target := hdp 13 (dep_of (by kernel_rfl))
        refine wpOp_step rfl (fun K hK => ?_)
        clear hdp
        go_simp
        exact hK _ _ ⟨.bool true, by simp [upd, e8, e11, e13], rfl, trivial, hC⟩
      | n + 15, hn => exact absurd hn (by omega)
    · intro z w7 kk hkk hC hdp
      have e8 : z 8 = .bool false := hdp 8 (by decide)
      have e14 : z 14 = .bool true := hdp 14 (by decide)
      refine wpOp_step rfl (fun K hK => ?_)
      clear hdp
      go_simp
      refine hK _ _ ?_
      clear hK K e8 e14
      have HB5 := Lib.hid (HX.out w7 hC).2.1
      have HBx := Lib.hid (HX.out w7 hC).2.2.2
      obtain ⟨r0, r1, r2, r3, r4⟩ := sl_facts (HX.out w7 hC).2.2.2
      obtain ⟨f0, f1, f2, f3, f4⟩ := sl_frozen (HX.out w7 hC).2.2.2
      clear hC
      have HZ := Lib.hid (sl_facts (sl_set HBx.out (.string ⟨#[]⟩) (.bool false) (.int .i64 0) (.int .i64 0) (.int .i64 0)))
      have HBl := Lib.hid (sl_below HB5.out (b := w.heap.size + 1) (by omega) (.string ⟨#[]⟩) (.bool false) (.int .i64 0) (.int .i64 0) (.int .i64 0))
      go_wp2
      obtain ⟨z0, z1, z2, z3, z4⟩ := HZ.out
      exact bodyPost_ret (v := .tuple #[.agg #[.string ⟨#[]⟩, .bool false, .int .i64 0, .int .i64 0, .int .i64 0], .bool false]) (by simp [results, Tryz.results9, go_sem, z0, z1, z2, z3, z4]) rfl ⟨by rw [HRs.out, HRb.out]; rfl, HBl.out⟩
  have hn := str_same9 h.target
  rw [decide_eq_true hP] at HRb
  subst hP
  go_enter Tryz.func9, Tryz.ntmps9
  go_wp2_with fail
  rw [← HW.out]
  refine wp_region_last (by kernel_rfl) 15 (by kernel_rfl) (by kernel_rfl) (by kernel_rfl)
    (fun z => { tmps := #[.agg #[.string h.verb, .string h.target, .string h.host, .slice va vn vc, .string h.body], .pointer (some ⟨w.heap.size, 0, none⟩), .pointer (some ⟨w.heap.size + 1, 0, none⟩), .bool false, undef, undef, undef, z 0, z 1, z 2, z 3, z 4, z 5, z 6, z 7, z 8, z 9, z 10, z 11, z 12, z 13, z 14, undef, undef, undef, undef, undef, undef, undef, undef, undef, undef, undef, undef, undef, undef, undef, undef, undef, undef, undef, undef, undef, undef, undef, undef, undef, undef, undef, undef, undef, undef, undef, undef, undef, undef, undef, undef, undef, undef, undef, undef, undef, undef, undef, undef, undef, undef, undef, undef, undef], defers := [] })
    (fun _ W => Below wA.heap.size wA W)
    (fun i xv _ => xv = ([.agg #[.string h.verb, .string h.target, .string h.host, .slice va vn vc, .string h.body], .bool true, .bool false, .bool false, .pointer (some ⟨w.heap.size, 0, none⟩), .string h.verb, .bool false, .bool false, .bool false, .pointer (some ⟨w.heap.size, 1, none⟩), .string h.target, .string h.target, .pointer (some ⟨w.heap.size, 1, none⟩), .string h.target, .bool false] : List Value).getD i undef)
    (fun _ _ => True) (fun _ => undef) (Below.refl _ _).drew
    (fun _ _ _ _ _ h _ => h) ?_ ?_
  · intro i hi z w7 kk hkk hC hdp
    match i, hi with
    | 0, _ =>
      obtain ⟨q0, q1, q2, q3, q4⟩ := sl_facts (HX.out w7 hC).2.2.1
      refine wpOp_step rfl (fun K hK => ?_)
      clear hdp
      go_simp
      exact hK _ _ ⟨.agg #[.string h.verb, .string h.target, .string h.host, .slice va vn vc, .string h.body], rfl, rfl, trivial, hC⟩
    | 1, _ =>
      have e0 : z 0 = .agg #[.string h.verb, .string h.target, .string h.host, .slice va vn vc, .string h.body] := hdp 0 (dep_of (by kernel_rfl))
      have hT := HHed.out w7 (HX.out w7 hC).1
      refine wpOp_step rfl (fun K hK => ?_)
      clear hdp
      go_simp
      refine hT.mono ?_
      rintro e w8 ⟨rfl, hb8⟩
      exact hK _ _ ⟨.bool true, by simp [upd, e0], rfl, trivial, hC.trans (hb8.mono hC.size)⟩
    | 2, _ =>
      have e1 : z 1 = .bool true := hdp 1 (dep_of (by kernel_rfl))
      refine wpOp_step rfl (fun K hK => ?_)
      clear hdp
      go_simp
      exact hK _ _ ⟨.bool false, by simp [upd, e1], rfl, trivial, hC⟩
    | 3, _ =>
      have e2 : z 2 = .bool false := hdp 2 (dep_of (by kernel_rfl))
      refine wpOp_step rfl (fun K hK => ?_)
      clear hdp
      go_simp
      exact hK _ _ ⟨.bool false, by simp [upd, e2], rfl, trivial, hC⟩
    | 4, _ =>
      have e3 : z 3 = .bool false := hdp 3 (dep_of (by kernel_rfl))
      refine wpOp_step rfl (fun K hK => ?_)
      clear hdp
      go_simp
      exact hK _ _ ⟨.pointer (some ⟨w.heap.size, 0, none⟩), by simp [upd, e3], rfl, trivial, hC⟩
    | 5, _ =>
      obtain ⟨q0, q1, q2, q3, q4⟩ := sl_facts (HX.out w7 hC).2.2.1
      have e3 : z 3 = .bool false := hdp 3 (dep_of (by kernel_rfl))
      have e4 : z 4 = .pointer (some ⟨w.heap.size, 0, none⟩) := hdp 4 (dep_of (by kernel_rfl))
      refine wpOp_step rfl (fun K hK => ?_)
      clear hdp
      go_simp
      exact hK _ _ ⟨.string h.verb, by simp [upd, e3, e4], rfl, trivial, hC⟩
    | 6, _ =>
      have e3 : z 3 = .bool false := hdp 3 (dep_of (by kernel_rfl))
      have e5 : z 5 = .string h.verb := hdp 5 (dep_of (by kernel_rfl))
      refine wpOp_step rfl (fun K hK => ?_)
      clear hdp
      go_simp
      exact hK _ _ ⟨.bool false, by simp [upd, e3, e5], rfl, trivial, hC⟩
    | 7, _ =>
      have e3 : z 3 = .bool false := hdp 3 (dep_of (by kernel_rfl))
      have e6 : z 6 = .bool false := hdp 6 (dep_of (by kernel_rfl))
      refine wpOp_step rfl (fun K hK => ?_)
      clear hdp
      go_simp
      exact hK _ _ ⟨.bool false, by simp [upd, e3, e6], rfl, trivial, hC⟩
    | 8, _ =>
      have e7 : z 7 = .bool false := hdp 7 (dep_of (by kernel_rfl))
      refine wpOp_step rfl (fun K hK => ?_)
      clear hdp
      go_simp
      exact hK _ _ ⟨.bool false, by simp [upd, e7], rfl, trivial, hC⟩
    | 9, _ =>
      have e8 : z 8 = .bool false := hdp 8 (dep_of (by kernel_rfl))
      refine wpOp_step rfl (fun K hK => ?_)
      clear hdp
      go_simp
      exact hK _ _ ⟨.pointer (some ⟨w.heap.size, 1, none⟩), by simp [upd, e8], rfl, trivial, hC⟩
    | 10, _ =>
      obtain ⟨q0, q1, q2, q3, q4⟩ := sl_facts (HX.out w7 hC).2.2.1
      have e8 : z 8 = .bool false := hdp 8 (dep_of (by kernel_rfl))
      have e9 : z 9 = .pointer (some ⟨w.heap.size, 1, none⟩) := hdp 9 (dep_of (by kernel_rfl))
      refine wpOp_step rfl (fun K hK => ?_)
      clear hdp
      go_simp
      exact hK _ _ ⟨.string h.target, by simp [upd, e8, e9], rfl, trivial, hC⟩
    | 11, _ =>
      have e8 : z 8 = .bool false := hdp 8 (dep_of (by kernel_rfl))
      have e10 : z 10 = .string h.target := hdp 10 (dep_of (by kernel_rfl))
      have hT := HP.out w7
      refine wpOp_step rfl (fun K hK => ?_)
      clear hdp
      go_simp
      refine hT.mono ?_
      rintro e w8 ⟨rfl, hb8⟩
      exact hK _ _ ⟨.string h.target, by simp [upd, e8, e10], rfl, trivial, hC.trans (hb8.mono hC.size)⟩
    | 12, _ =>
      have e8 : z 8 = .bool false := hdp 8 (dep_of (by kernel_rfl))
      refine wpOp_step rfl (fun K hK => ?_)
      clear hdp
      go_simp
      exact hK _ _ ⟨.pointer (some ⟨w.heap.size, 1, none⟩), by simp [upd, e8], rfl, trivial, hC⟩
    | 13, _ =>
      obtain ⟨q0, q1, q2, q3, q4⟩ := sl_facts (HX.out w7 hC).2.2.1
      have e8 : z 8 = .bool false := hdp 8 (dep_of (by kernel_rfl))
      have e12 : z 12 = .pointer (some ⟨w.heap.size, 1, none⟩) := hdp 12 (dep_of (by kernel_rfl))
      refine wpOp_step rfl (fun K hK => ?_)
      clear hdp
      go_simp
      exact hK _ _ ⟨.string h.target, by simp [upd, e8, e12], rfl, trivial, hC⟩
    | 14, _ =>
      have e8 : z 8 = .bool false := hdp 8 (dep_of (by kernel_rfl))
      have e11 : z 11 = .string h.target := hdp 11 (dep_of (by kernel_rfl))
      have e13 : z 13 = .string h.target := hdp 13 (dep_of (by kernel_rfl))
      refine wpOp_step rfl (fun K hK => ?_)
      clear hdp
      go_simp
      exact hK _ _ ⟨.bool false, by simp [upd, e8, e11, e13], rfl, trivial, hC⟩
    | n + 15, hn => exact absurd hn (by omega)
  · intro z w7 kk hkk hC hdp
    have e8 : z 8 = .bool false := hdp 8 (by decide)
    have e14 : z 14 = .bool false := hdp 14 (by decide)
    refine wpOp_step rfl (fun K hK => ?_)
    clear hdp
    go_simp
    refine hK _ _ ?_
    clear hK K e8 e14
    have HB7 : Hid (Below wA.heap.size wA w7) := Lib.hid hC
    obtain ⟨q0, q1, q2, q3, q4⟩ := sl_facts (HX.out w7 hC).2.2.1
    clear hC
    go_wp2_with fail
    refine (HOn.out _ (HX.out _ HB7.out).1).mono ?_
    rintro e w8 ⟨rfl, hb8⟩
    have HB8 := Lib.hid (HB7.out.trans (hb8.mono HB7.out.size))
    clear hb8 q0 q1 q2 q3 q4
    obtain ⟨q0, q1, q2, q3, q4⟩ := sl_facts (HX.out w8 HB8.out).2.2.1
    generalize hX : (sc.toList == [97, 108, 108]) = X at *
    generalize hY : (sc.toList == [111, 110, 101]) = Y at *
    obtain ⟨wQ, hwQ⟩ : ∃ x, x = w8 := ⟨_, rfl⟩
    rw [← hwQ] at HB8 q0 q1 q2 q3 q4 ⊢
    clear hwQ
    go_wp2_with fail
    refine wp_region_last (by kernel_rfl) 15 (by kernel_rfl) (by kernel_rfl) (by kernel_rfl)
      (fun y => { tmps := #[Value.agg #[Value.string h.verb, Value.string h.target, Value.string h.host, Value.slice va vn vc, Value.string h.body], .pointer (some ⟨w.heap.size, 0, none⟩), .pointer (some ⟨w.heap.size + 1, 0, none⟩), .bool false, Value.string sc, .bool OK, y 14, z 0, z 1, z 2, z 3, z 4, z 5, z 6, z 7, .bool false, z 9, z 10, z 11, z 12, z 13, .bool false, .bool false, undef, Value.tuple #[Value.string sc, Value.bool OK], .pointer (some ⟨w.heap.size, 3, none⟩), Value.slice va vn vc, Value.tuple #[Value.string sc, Value.bool OK], Value.string sc, .bool OK, y 0, y 1, y 2, y 3, y 4, y 5, y 6, y 7, y 8, y 9, y 10, y 11, y 12, y 13, undef, undef, undef, undef, undef, undef, undef, undef, undef, undef, undef, undef, undef, undef, undef, undef, undef, undef, undef, undef, undef, undef, undef, undef, undef, undef, undef], defers := [] })
      (fun _ w7 => Below wQ.heap.size wQ w7)
      (fun i z w7 => match i with
        | 0 => z = .pointer (some ⟨w.heap.size, 1, none⟩)
        | 1 => z = .string h.target
        | 2 => z = .string sc
        | 3 => z = .bool X
        | 4 => z = .pointer (some ⟨w.heap.size, 3, none⟩)
        | 5 => z = .slice va vn vc
        | 6 => z = .int .i64 U
        | 7 => z = .pointer (some ⟨w.heap.size, 3, none⟩)
        | 8 => z = .slice va vn vc
        | 9 => z = .int .i64 No
        | 10 => z = .pointer (some ⟨w.heap.size, 3, none⟩)
        | 11 => z = .slice va vn vc
        | 12 => z = .int .i64 Se
        | 13 => z = .agg #[.string h.target, .bool X, .int .i64 U, .int .i64 No, .int .i64 Se]
        | 14 => ∃ b, z = .pointer (some ⟨b, 0, none⟩) ∧ wQ.heap.size ≤ b ∧ w7.heap[b]? = some (.cells #[.string ⟨#[]⟩, .bool false, .int .i64 0, .int .i64 0, .int .i64 0] 27 (0, 0))
        | _ => True)
      (fun w7 w8 => Below w7.heap.size w7 w8) (fun _ => undef) (Below.refl _ _).drew ?_ ?_ ?_
    · intro i z w7 w8 hi hR hle
      match i, hi with
      | 0, _ =>
        exact hR
      | 1, _ =>
        exact hR
      | 2, _ =>
        exact hR
      | 3, _ =>
        exact hR
      | 4, _ =>
        exact hR
      | 5, _ =>
        exact hR
      | 6, _ =>
        exact hR
      | 7, _ =>
        exact hR
      | 8, _ =>
        exact hR
      | 9, _ =>
        exact hR
      | 10, _ =>
        exact hR
      | 11, _ =>
        exact hR
      | 12, _ =>
        exact hR
      | 13, _ =>
        exact hR
      | 14, _ =>
        obtain ⟨b, h1, h2, h3⟩ := hR
        exact ⟨b, h1, h2, (hle.block b (Array.getElem?_eq_some_iff.1 h3).1).trans h3⟩
      | n + 15, hn => exact absurd hn (by omega)
    · intro i hi y w7 kk hkk hC hdp
      match i, hi with
      | 0, _ =>
        refine wpOp_step rfl (fun K hK => ?_)
        clear hdp
        go_simp
        exact hK _ _ ⟨.pointer (some ⟨w.heap.size, 1, none⟩), rfl, rfl, Below.refl _ _, hC⟩
      | 1, _ =>
        obtain ⟨q0, q1, q2, q3, q4⟩ := sl_facts (HX.out w7 (HB8.out.trans (hC.mono HB8.out.size))).2.2.1
        have e0 : y 0 = .pointer (some ⟨w.heap.size, 1, none⟩) := hdp 0 (dep_of (by kernel_rfl))
        refine wpOp_step rfl (fun K hK => ?_)
        clear hdp
        go_simp
        exact hK _ _ ⟨.string h.target, by simp [upd, e0], rfl, Below.refl _ _, hC⟩
      | 2, _ =>
        refine wpOp_step rfl (fun K hK => ?_)
        clear hdp
        go_simp
        exact hK _ _ ⟨.string sc, rfl, rfl, Below.refl _ _, hC⟩
      | 3, _ =>
        have e2 : y 2 = .string sc := hdp 2 (dep_of (by kernel_rfl))
        refine wpOp_step rfl (fun K hK => ?_)
        clear hdp
        go_simp
        exact hK _ _ ⟨.bool X, by simp [upd, e2], rfl, Below.refl _ _, hC⟩
      | 4, _ =>
        refine wpOp_step rfl (fun K hK => ?_)
        clear hdp
        go_simp
        exact hK _ _ ⟨.pointer (some ⟨w.heap.size, 3, none⟩), rfl, rfl, Below.refl _ _, hC⟩
      | 5, _ =>
        obtain ⟨q0, q1, q2, q3, q4⟩ := sl_facts (HX.out w7 (HB8.out.trans (hC.mono HB8.out.size))).2.2.1
        have e4 : y 4 = .pointer (some ⟨w.heap.size, 3, none⟩) := hdp 4 (dep_of (by kernel_rfl))
        refine wpOp_step rfl (fun K hK => ?_)
        clear hdp
        go_simp
        exact hK _ _ ⟨.slice va vn vc, by simp [upd, e4], rfl, Below.refl _ _, hC⟩
      | 6, _ =>
        have e5 : y 5 = .slice va vn vc := hdp 5 (dep_of (by kernel_rfl))
        have hT := HU.out w7 (HX.out w7 (HB8.out.trans (hC.mono HB8.out.size))).1
        refine wpOp_step rfl (fun K hK => ?_)
        clear hdp
        go_simp
        refine hT.mono ?_
        rintro e w8 ⟨rfl, hb8⟩
        exact hK _ _ ⟨.int .i64 U, by simp [upd, e5], rfl, hb8, hC.trans (hb8.mono hC.size)⟩
      | 7, _ =>
        refine wpOp_step rfl (fun K hK => ?_)
        clear hdp
        go_simp
        exact hK _ _ ⟨.pointer (some ⟨w.heap.size, 3, none⟩), rfl, rfl, Below.refl _ _, hC⟩
      | 8, _ =>
        obtain ⟨q0, q1, q2, q3, q4⟩ := sl_facts (HX.out w7 (HB8.out.trans (hC.mono HB8.out.size))).2.2.1
        have e7 : y 7 = .pointer (some ⟨w.heap.size, 3, none⟩) := hdp 7 (dep_of (by kernel_rfl))
        refine wpOp_step rfl (fun K hK => ?_)
        clear hdp
        go_simp
        exact hK _ _ ⟨.slice va vn vc, by simp [upd, e7], rfl, Below.refl _ _, hC⟩
      | 9, _ =>
        have e8 : y 8 = .slice va vn vc := hdp 8 (dep_of (by kernel_rfl))
        have hT := HNo.out w7 (HX.out w7 (HB8.out.trans (hC.mono HB8.out.size))).1
        refine wpOp_step rfl (fun K hK => ?_)
        clear hdp
        go_simp
        refine hT.mono ?_
        rintro e w8 ⟨rfl, hb8⟩
        exact hK _ _ ⟨.int .i64 No, by simp [upd, e8], rfl, hb8, hC.trans (hb8.mono hC.size)⟩
      | 10, _ =>
        refine wpOp_step rfl (fun K hK => ?_)
        clear hdp
        go_simp
        exact hK _ _ ⟨.pointer (some ⟨w.heap.size, 3, none⟩), rfl, rfl, Below.refl _ _, hC⟩
      | 11, _ =>
        obtain ⟨q0, q1, q2, q3, q4⟩ := sl_facts (HX.out w7 (HB8.out.trans (hC.mono HB8.out.size))).2.2.1
        have e10 : y 10 = .pointer (some ⟨w.heap.size, 3, none⟩) := hdp 10 (dep_of (by kernel_rfl))
        refine wpOp_step rfl (fun K hK => ?_)
        clear hdp
        go_simp
        exact hK _ _ ⟨.slice va vn vc, by simp [upd, e10], rfl, Below.refl _ _, hC⟩
      | 12, _ =>
        have e11 : y 11 = .slice va vn vc := hdp 11 (dep_of (by kernel_rfl))
        have hT := HSe.out w7 (HX.out w7 (HB8.out.trans (hC.mono HB8.out.size))).1
        refine wpOp_step rfl (fun K hK => ?_)
        clear hdp
        go_simp
        refine hT.mono ?_
        rintro e w8 ⟨rfl, hb8⟩
        exact hK _ _ ⟨.int .i64 Se, by simp [upd, e11], rfl, hb8, hC.trans (hb8.mono hC.size)⟩
      | 13, _ =>
        have e1 : y 1 = .string h.target := hdp 1 (dep_of (by kernel_rfl))
        have e3 : y 3 = .bool X := hdp 3 (dep_of (by kernel_rfl))
        have e6 : y 6 = .int .i64 U := hdp 6 (dep_of (by kernel_rfl))
        have e9 : y 9 = .int .i64 No := hdp 9 (dep_of (by kernel_rfl))
        have e12 : y 12 = .int .i64 Se := hdp 12 (dep_of (by kernel_rfl))
        refine wpOp_step rfl (fun K hK => ?_)
        clear hdp
        go_simp
        exact hK _ _ ⟨.agg #[.string h.target, .bool X, .int .i64 U, .int .i64 No, .int .i64 Se], by simp [upd, e1, e3, e6, e9, e12], rfl, Below.refl _ _, hC⟩
      | 14, _ =>
        refine wpOp_step rfl (fun K hK => ?_)
        clear hdp
        go_simp
        exact hK _ _ ⟨_, rfl, ⟨_, rfl, hC.size, heap_alloc_new w7 _⟩, (Below.refl _ _).alloc (Nat.le_refl _) _, hC.alloc hC.size _⟩
      | n + 15, hn => exact absurd hn (by omega)
    · intro y w7 kk hkk hC hdp
      have e13 : y 13 = .agg #[.string h.target, .bool X, .int .i64 U, .int .i64 No, .int .i64 Se] := hdp 13 (by decide)
      have r14 : ∃ b, (y 14) = .pointer (some ⟨b, 0, none⟩) ∧ wQ.heap.size ≤ b ∧ w7.heap[b]? = some (.cells #[.string ⟨#[]⟩, .bool false, .int .i64 0, .int .i64 0, .int .i64 0] 27 (0, 0)) := hdp 14 (by decide)
      obtain ⟨b, e14, hbw, hbx⟩ := r14
      have hst := sl_set hbx (.string h.target) (.bool X) (.int .i64 U) (.int .i64 No) (.int .i64 Se)
      have hb0 := HB8.out.trans (hC.mono HB8.out.size)
      have hbl := sl_below hb0 (b := b) (by have := HB8.out.size; omega) (.string h.target) (.bool X) (.int .i64 U) (.int .i64 No) (.int .i64 Se)
      obtain ⟨r0, r1, r2, r3, r4⟩ := sl_facts hbx
      obtain ⟨f0, f1, f2, f3, f4⟩ := sl_frozen hbx
      refine wpOp_step rfl (fun K hK => ?_)
      clear hdp
      go_simp
      refine hK _ _ ?_
      clear hK K e13 e14 hC hbx r0 r1 r2 r3 r4 f0 f1 f2 f3 f4
      obtain ⟨wS, hwS⟩ : ∃ x, x = (((((w7.setCell ⟨b, 0, none⟩ (.string h.target)).setCell ⟨b, 1, none⟩ (.bool X)).setCell ⟨b, 2, none⟩ (.int .i64 U)).setCell ⟨b, 3, none⟩ (.int .i64 No)).setCell ⟨b, 4, none⟩ (.int .i64 Se)) := ⟨_, rfl⟩
      rw [← hwS] at hst hbl ⊢
      clear hwS hb0
      obtain ⟨s0, s1, s2, s3, s4⟩ := sl_facts hst
      have HB5 := Lib.hid (HX.out wS hbl).2.1
      have HBx := Lib.hid (HX.out wS hbl).2.2.2
      obtain ⟨r0, r1, r2, r3, r4⟩ := sl_facts (HX.out wS hbl).2.2.2
      obtain ⟨f0, f1, f2, f3, f4⟩ := sl_frozen (HX.out wS hbl).2.2.2
      obtain ⟨⟨n1, n2, n3⟩, m1, m2, m3⟩ := HM.out
      clear hst hbl
      cases OK
      · clear n1 n2 n3 m1 m2 m3
        have HZ := Lib.hid (sl_facts (sl_set HBx.out (.string ⟨#[]⟩) (.bool false) (.int .i64 0) (.int .i64 0) (.int .i64 0)))
        have HBl := Lib.hid (sl_below HB5.out (b := w.heap.size + 1) (by omega) (.string ⟨#[]⟩) (.bool false) (.int .i64 0) (.int .i64 0) (.int .i64 0))
        go_wp2
        obtain ⟨z0, z1, z2, z3, z4⟩ := HZ.out
        exact bodyPost_ret (v := .tuple #[.agg #[.string ⟨#[]⟩, .bool false, .int .i64 0, .int .i64 0, .int .i64 0], .bool false]) (by simp [results, Tryz.results9, go_sem, z0, z1, z2, z3, z4]) rfl ⟨by rw [HRs.out, HRb.out]; rfl, HBl.out⟩
      cases X
      · cases Y
        · clear n1 n2 n3 m1 m2 m3
          have HZ := Lib.hid (sl_facts (sl_set HBx.out (.string ⟨#[]⟩) (.bool false) (.int .i64 0) (.int .i64 0) (.int .i64 0)))
          have HBl := Lib.hid (sl_below HB5.out (b := w.heap.size + 1) (by omega) (.string ⟨#[]⟩) (.bool false) (.int .i64 0) (.int .i64 0) (.int .i64 0))
          go_wp2
          obtain ⟨z0, z1, z2, z3, z4⟩ := HZ.out
          exact bodyPost_ret (v := .tuple #[.agg #[.string ⟨#[]⟩, .bool false, .int .i64 0, .int .i64 0, .int .i64 0], .bool false]) (by simp [results, Tryz.results9, go_sem, z0, z1, z2, z3, z4]) rfl ⟨by rw [HRs.out, HRb.out]; rfl, HBl.out⟩
        cases b1
        · have j1 := n1 rfl
          clear n1 n2 n3 m1 m2 m3
          have HZ := Lib.hid (sl_facts (sl_set HBx.out (.string ⟨#[]⟩) (.bool false) (.int .i64 0) (.int .i64 0) (.int .i64 0)))
          have HBl := Lib.hid (sl_below HB5.out (b := w.heap.size + 1) (by omega) (.string ⟨#[]⟩) (.bool false) (.int .i64 0) (.int .i64 0) (.int .i64 0))
          go_wp2
          obtain ⟨z0, z1, z2, z3, z4⟩ := HZ.out
          exact bodyPost_ret (v := .tuple #[.agg #[.string ⟨#[]⟩, .bool false, .int .i64 0, .int .i64 0, .int .i64 0], .bool false]) (by simp [results, Tryz.results9, go_sem, z0, z1, z2, z3, z4]) rfl ⟨by rw [HRs.out, HRb.out]; rfl, HBl.out⟩
        obtain rfl := m1 rfl
        have j1 : ¬ (y1 : Int) < 0 := by omega
        cases b2
        · have j2 := n2 rfl
          clear n1 n2 n3 m1 m2 m3
          have HZ := Lib.hid (sl_facts (sl_set HBx.out (.string ⟨#[]⟩) (.bool false) (.int .i64 0) (.int .i64 0) (.int .i64 0)))
          have HBl := Lib.hid (sl_below HB5.out (b := w.heap.size + 1) (by omega) (.string ⟨#[]⟩) (.bool false) (.int .i64 0) (.int .i64 0) (.int .i64 0))
          go_wp2
          obtain ⟨z0, z1, z2, z3, z4⟩ := HZ.out
          exact bodyPost_ret (v := .tuple #[.agg #[.string ⟨#[]⟩, .bool false, .int .i64 0, .int .i64 0, .int .i64 0], .bool false]) (by simp [results, Tryz.results9, go_sem, z0, z1, z2, z3, z4]) rfl ⟨by rw [HRs.out, HRb.out]; rfl, HBl.out⟩
        obtain rfl := m2 rfl
        have j2 : ¬ (y2 : Int) < 0 := by omega
        cases b3
        · have j3 := n3 rfl
          clear n1 n2 n3 m1 m2 m3
          have HZ := Lib.hid (sl_facts (sl_set HBx.out (.string ⟨#[]⟩) (.bool false) (.int .i64 0) (.int .i64 0) (.int .i64 0)))
          have HBl := Lib.hid (sl_below HB5.out (b := w.heap.size + 1) (by omega) (.string ⟨#[]⟩) (.bool false) (.int .i64 0) (.int .i64 0) (.int .i64 0))
          go_wp2
          obtain ⟨z0, z1, z2, z3, z4⟩ := HZ.out
          exact bodyPost_ret (v := .tuple #[.agg #[.string ⟨#[]⟩, .bool false, .int .i64 0, .int .i64 0, .int .i64 0], .bool false]) (by simp [results, Tryz.results9, go_sem, z0, z1, z2, z3, z4]) rfl ⟨by rw [HRs.out, HRb.out]; rfl, HBl.out⟩
        obtain rfl := m3 rfl
        have j3 : ¬ (y3 : Int) < 0 := by omega
        clear n1 n2 n3 m1 m2 m3
        have HZ := Lib.hid (sl_facts (sl_set HBx.out (.string h.target) (.bool false) (.int .i64 (y1 : Int)) (.int .i64 (y2 : Int)) (.int .i64 (y3 : Int))))
        have HBl := Lib.hid (sl_below HB5.out (b := w.heap.size + 1) (by omega) (.string h.target) (.bool false) (.int .i64 (y1 : Int)) (.int .i64 (y2 : Int)) (.int .i64 (y3 : Int)))
        go_wp2
        obtain ⟨z0, z1, z2, z3, z4⟩ := HZ.out
        exact bodyPost_ret (v := .tuple #[.agg #[.string h.target, .bool false, .int .i64 (y1 : Int), .int .i64 (y2 : Int), .int .i64 (y3 : Int)], .bool true]) (by simp [results, Tryz.results9, go_sem, z0, z1, z2, z3, z4]) rfl ⟨by rw [HRs.out, HRb.out]; rfl, HBl.out⟩
      cases b1
      · have j1 := n1 rfl
        clear n1 n2 n3 m1 m2 m3
        have HZ := Lib.hid (sl_facts (sl_set HBx.out (.string ⟨#[]⟩) (.bool false) (.int .i64 0) (.int .i64 0) (.int .i64 0)))
        have HBl := Lib.hid (sl_below HB5.out (b := w.heap.size + 1) (by omega) (.string ⟨#[]⟩) (.bool false) (.int .i64 0) (.int .i64 0) (.int .i64 0))
        go_wp2
        obtain ⟨z0, z1, z2, z3, z4⟩ := HZ.out
        exact bodyPost_ret (v := .tuple #[.agg #[.string ⟨#[]⟩, .bool false, .int .i64 0, .int .i64 0, .int .i64 0], .bool false]) (by simp [results, Tryz.results9, go_sem, z0, z1, z2, z3, z4]) rfl ⟨by rw [HRs.out, HRb.out]; rfl, HBl.out⟩
      obtain rfl := m1 rfl
      have j1 : ¬ (y1 : Int) < 0 := by omega
      cases b2
      · have j2 := n2 rfl
        clear n1 n2 n3 m1 m2 m3
        have HZ := Lib.hid (sl_facts (sl_set HBx.out (.string ⟨#[]⟩) (.bool false) (.int .i64 0) (.int .i64 0) (.int .i64 0)))
        have HBl := Lib.hid (sl_below HB5.out (b := w.heap.size + 1) (by omega) (.string ⟨#[]⟩) (.bool false) (.int .i64 0) (.int .i64 0) (.int .i64 0))
        go_wp2
        obtain ⟨z0, z1, z2, z3, z4⟩ := HZ.out
        exact bodyPost_ret (v := .tuple #[.agg #[.string ⟨#[]⟩, .bool false, .int .i64 0, .int .i64 0, .int .i64 0], .bool false]) (by simp [results, Tryz.results9, go_sem, z0, z1, z2, z3, z4]) rfl ⟨by rw [HRs.out, HRb.out]; rfl, HBl.out⟩
      obtain rfl := m2 rfl
      have j2 : ¬ (y2 : Int) < 0 := by omega
      cases b3
      · have j3 := n3 rfl
        clear n1 n2 n3 m1 m2 m3
        have HZ := Lib.hid (sl_facts (sl_set HBx.out (.string ⟨#[]⟩) (.bool false) (.int .i64 0) (.int .i64 0) (.int .i64 0)))
        have HBl := Lib.hid (sl_below HB5.out (b := w.heap.size + 1) (by omega) (.string ⟨#[]⟩) (.bool false) (.int .i64 0) (.int .i64 0) (.int .i64 0))
        go_wp2
        obtain ⟨z0, z1, z2, z3, z4⟩ := HZ.out
        exact bodyPost_ret (v := .tuple #[.agg #[.string ⟨#[]⟩, .bool false, .int .i64 0, .int .i64 0, .int .i64 0], .bool false]) (by simp [results, Tryz.results9, go_sem, z0, z1, z2, z3, z4]) rfl ⟨by rw [HRs.out, HRb.out]; rfl, HBl.out⟩
      obtain rfl := m3 rfl
      have j3 : ¬ (y3 : Int) < 0 := by omega
      clear n1 n2 n3 m1 m2 m3
      have HZ := Lib.hid (sl_facts (sl_set HBx.out (.string h.target) (.bool true) (.int .i64 (y1 : Int)) (.int .i64 (y2 : Int)) (.int .i64 (y3 : Int))))
      have HBl := Lib.hid (sl_below HB5.out (b := w.heap.size + 1) (by omega) (.string h.target) (.bool true) (.int .i64 (y1 : Int)) (.int .i64 (y2 : Int)) (.int .i64 (y3 : Int)))
      go_wp2
      obtain ⟨z0, z1, z2, z3, z4⟩ := HZ.out
      exact bodyPost_ret (v := .tuple #[.agg #[.string h.target, .bool true, .int .i64 (y1 : Int), .int .i64 (y2 : Int), .int .i64 (y3 : Int)], .bool true]) (by simp [results, Tryz.results9, go_sem, z0, z1, z2, z3, z4]) rfl ⟨by rw [HRs.out, HRb.out]; rfl, HBl.out⟩
end Go.Proofs.YtbhnjnoblkfckabGreatDoor
