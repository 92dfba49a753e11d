/- Walks: the drawing of a text with spaces around it. -/
import Derived.Test.YthmljebpjohibaaDoorDraw3
namespace Go.Proofs.YthmljebpjohibaaDoor
open Go.RowKit

theorem sp_at (r : Nat) (h : r < 3) : ∃ s : ByteArray, (#[Value.string ⟨#[]⟩, .string ⟨#[32]⟩, .string ⟨#[32, 32]⟩] : Array Value)[r]? = some (.string s) ∧ s.size ≤ 2 :=
  strs_at (cs := #[Value.string ⟨#[]⟩, .string ⟨#[32]⟩, .string ⟨#[32, 32]⟩]) (K := 2) (by decide) (r := r) h
/-- The literal of spaces lies in block b, above the reader's. -/
def Sp (g : Nat) (w : World) (b : Nat) : Prop := g < b ∧ w.heap[b]? = some (.cells #[.string ⟨#[]⟩, .string ⟨#[32]⟩, .string ⟨#[32, 32]⟩] 9 (0, 0))
theorem Sp.new {g B m : Nat} {w : World} (h : RdAt w B g m) : Sp g (w.alloc (.cells #[.string ⟨#[]⟩, .string ⟨#[32]⟩, .string ⟨#[32, 32]⟩] 9)) w.heap.size := ⟨h.lt, heap_alloc_new w _⟩
theorem Sp.lt {g b : Nat} {w : World} (h : Sp g w b) : b < w.heap.size := by
  rcases Nat.lt_or_ge b w.heap.size with h1 | h1
  · exact h1
  · have := h.2; rw [Array.getElem?_eq_none h1] at this; cases this
theorem Sp.old {g b : Nat} {w : World} (h : Sp g w b) (o : Obj) : Sp g (w.alloc o) b := ⟨h.1, (Below.heap_alloc w o b h.lt).trans h.2⟩
theorem Sp.two {g B m : Nat} {w : World} (h : RdAt w B g m) (o : Obj) : Sp g ((w.alloc o).alloc (.cells #[.string ⟨#[]⟩, .string ⟨#[32]⟩, .string ⟨#[32, 32]⟩] 9)) (w.heap.size + 1) := by
  have e : (w.alloc o).heap.size = w.heap.size + 1 := by simp
  rw [← e]; exact Sp.new (h.alloc o)
theorem sp_new2 (w : World) (o : Obj) {r : Nat} {v : Value} (hx : (#[Value.string ⟨#[]⟩, .string ⟨#[32]⟩, .string ⟨#[32, 32]⟩] : Array Value)[r]? = some v) : ((w.alloc o).alloc (.cells #[.string ⟨#[]⟩, .string ⟨#[32]⟩, .string ⟨#[32, 32]⟩] 9)).cell? ⟨w.heap.size + 1, r, none⟩ = some v := by
  have e : (w.alloc o).heap.size = w.heap.size + 1 := by simp
  rw [← e]; exact new_cell (w.alloc o) _ hx
theorem Sp.drew {g b : Nat} {w : World} (h : Sp g w b) : Sp g w.drew b := h
theorem Sp.to {g b B m : Nat} {w w' : World} (h : Sp g w b) (hd : Drawn w w' B g m) : Sp g w' b :=
  ⟨h.1, (hd.2.block b h.lt (by have := h.1; simp; omega)).trans h.2⟩
theorem Sp.cell {g b r : Nat} {w : World} {v : Value} (h : Sp g w b) (hx : (#[Value.string ⟨#[]⟩, .string ⟨#[32]⟩, .string ⟨#[32, 32]⟩] : Array Value)[r]? = some v) : w.cell? ⟨b, r, none⟩ = some v := by
  rw [cell_of_row w b r _ _ (0, 0) h.2, hx]
theorem Sp.cell1 {g b r : Nat} {w : World} {v : Value} (h : Sp g w b) (hx : (#[Value.string ⟨#[]⟩, .string ⟨#[32]⟩, .string ⟨#[32, 32]⟩] : Array Value)[r]? = some v) : ∀ o : Obj, (w.alloc o).cell? ⟨b, r, none⟩ = some v := fun o => (h.old o).cell hx
theorem sp_new (w : World) {r : Nat} {v : Value} (hx : (#[Value.string ⟨#[]⟩, .string ⟨#[32]⟩, .string ⟨#[32, 32]⟩] : Array Value)[r]? = some v) : (w.alloc (.cells #[.string ⟨#[]⟩, .string ⟨#[32]⟩, .string ⟨#[32, 32]⟩] 9)).cell? ⟨w.heap.size, r, none⟩ = some v := new_cell w _ hx
theorem sp_new1 (w : World) {r : Nat} {v : Value} (hx : (#[Value.string ⟨#[]⟩, .string ⟨#[32]⟩, .string ⟨#[32, 32]⟩] : Array Value)[r]? = some v) (o : Obj) : ((w.alloc (.cells #[.string ⟨#[]⟩, .string ⟨#[32]⟩, .string ⟨#[32, 32]⟩] 9)).alloc o).cell? ⟨w.heap.size, r, none⟩ = some v := by
  rw [World.cell?_alloc_lt _ _ _ (by simp)]; exact new_cell w _ hx

set_option maxRecDepth 100000 in
set_option maxHeartbeats 20000000 in
theorem draw_trim (a : Option Addr) (len cap : Nat) (zs : List Int) (w : World) (h : IsRow .u8 w a len cap zs) :
    Calls Tryd.prog 10 #[.slice a len cap] w fun e w' => ∃ s : ByteArray, e = .returned (.string s) ∧ s.size ≤ 60 ∧ Below w.heap.size w w' := by
  go_enter Tryd.func10, Tryd.ntmps10
  go_wp2_with fail
  refine (open_any a len cap zs w h).mono ?_
  rintro e w0 ⟨g, rfl, hr0, hb0⟩
  clear h
  go_wp2_with fail
  go_region_with (first
    | (go_at_call 28; have h1 := q1.1; refine (text_any g w.heap.size (0 + 1) _ (by decide) ?_).mono ?_; (first | with_reducible exact h1 | with_reducible exact (h1.alloc _) | with_reducible exact ((h1.alloc _).alloc _)); rintro e w2 ⟨s2, rfl, hs2, hd2⟩; have q2 : Drawn w1 w2 w.heap.size g (0 + 1 + 6) := (by first | with_reducible exact hd2 | with_reducible exact hd2.of_alloc | with_reducible exact hd2.of_alloc.of_alloc); (try (have ka := ka.to q2)); (try (have kb := kb.to q2)); (first | (have kc : Sp g w2 w1.heap.size := (by with_reducible exact (Sp.new h1).to hd2)) | (have kc : Sp g w2 w1.heap.size := (by with_reducible exact ((Sp.new h1).old _).to hd2); have kd : Sp g w2 (w1.heap.size + 1) := (by with_reducible exact (Sp.two h1 _).to hd2)) | skip); (try (have lka1 := ka.cell hx1; have mka1 := ka.cell1 hx1)); (try (have lkb1 := kb.cell hx1; have mkb1 := kb.cell1 hx1)); (try (have lkc1 := kc.cell hx1; have mkc1 := kc.cell1 hx1)); (try (have lkd1 := kd.cell hx1; have mkd1 := kd.cell1 hx1)); clear hd2)
    | (go_at_call 27; have h2 := q2.1; refine (pick_lit g 3 3 rfl (by decide) w.heap.size (0 + 1 + 6) _ (by decide) (by decide) ?_).mono ?_; (first | with_reducible exact h2 | with_reducible exact (h2.alloc _) | with_reducible exact ((h2.alloc _).alloc _)); rintro e w3 ⟨r3, rfl, hr3, hr3', hd3⟩; obtain ⟨s3, hx3, hs3⟩ := sp_at r3 hr3; have q3 : Drawn w2 w3 w.heap.size g (0 + 1 + 6 + 1) := (by first | with_reducible exact hd3 | with_reducible exact hd3.of_alloc | with_reducible exact hd3.of_alloc.of_alloc); (try (have ka := ka.to q3)); (try (have kb := kb.to q3)); (try (have kc := kc.to q3)); (try (have kd := kd.to q3)); (first | (have ke : Sp g w3 w2.heap.size := (by with_reducible exact (Sp.new h2).to hd3)) | (have ke : Sp g w3 w2.heap.size := (by with_reducible exact ((Sp.new h2).old _).to hd3); have kf : Sp g w3 (w2.heap.size + 1) := (by with_reducible exact (Sp.two h2 _).to hd3)) | skip); (try (have lka1 := ka.cell hx1; have mka1 := ka.cell1 hx1)); (try (have lkb1 := kb.cell hx1; have mkb1 := kb.cell1 hx1)); (try (have lkc1 := kc.cell hx1; have mkc1 := kc.cell1 hx1)); (try (have lkd1 := kd.cell hx1; have mkd1 := kd.cell1 hx1)); (try (have lke1 := ke.cell hx1; have mke1 := ke.cell1 hx1)); (try (have lkf1 := kf.cell hx1; have mkf1 := kf.cell1 hx1)); (try (have lka3 := ka.cell hx3; have mka3 := ka.cell1 hx3)); (try (have lkb3 := kb.cell hx3; have mkb3 := kb.cell1 hx3)); (try (have lkc3 := kc.cell hx3; have mkc3 := kc.cell1 hx3)); (try (have lkd3 := kd.cell hx3; have mkd3 := kd.cell1 hx3)); (try (have lke3 := ke.cell hx3; have mke3 := ke.cell1 hx3)); (try (have lkf3 := kf.cell hx3; have mkf3 := kf.cell1 hx3)); have n3 := fun W : World => sp_new W hx3; have o3 := fun W : World => sp_new1 W hx3; have p3 := fun (W : World) (o : Obj) => sp_new2 W o hx3; clear hd3)
    | (go_at_call 27; refine (pick_lit g 3 3 rfl (by decide) w.heap.size 0 _ (by decide) (by decide) ?_).mono ?_; (first | with_reducible exact hr0.drew | with_reducible exact (hr0.alloc _).drew | with_reducible exact ((hr0.alloc _).alloc _).drew); rintro e w1 ⟨r1, rfl, hr1, hr1', hd1⟩; obtain ⟨s1, hx1, hs1⟩ := sp_at r1 hr1; have q1 : Drawn w0 w1 w.heap.size g (0 + 1) := (by first | with_reducible exact hd1.of_drew | with_reducible exact hd1.of_drew.of_alloc | with_reducible exact hd1.of_drew.of_alloc.of_alloc); (first | (have ka : Sp g w1 w0.heap.size := (by with_reducible exact (Sp.new hr0).drew.to hd1)) | (have ka : Sp g w1 w0.heap.size := (by with_reducible exact ((Sp.new hr0).old _).drew.to hd1); have kb : Sp g w1 (w0.heap.size + 1) := (by with_reducible exact (Sp.two hr0 _).drew.to hd1)) | skip); (try (have lka1 := ka.cell hx1; have mka1 := ka.cell1 hx1)); (try (have lkb1 := kb.cell hx1; have mkb1 := kb.cell1 hx1)); have n1 := fun W : World => sp_new W hx1; have o1 := fun W : World => sp_new1 W hx1; have p1 := fun (W : World) (o : Obj) => sp_new2 W o hx1; clear hd1))
  all_goals go_wp2
  all_goals go_ret
  all_goals (refine ⟨s1 ++ s2 ++ s3, rfl, by rw [bytes_app, bytes_app]; omega, hb0.trans ?_⟩)
  all_goals (first
    | with_reducible exact (((q1.trans q2).trans q3).below hr0.lt)
    | with_reducible exact ((((q1.trans q2).trans q3).alloc _).below hr0.lt)
    | with_reducible exact (((((q1.trans q2).trans q3).alloc _).alloc _).below hr0.lt))
end Go.Proofs.YthmljebpjohibaaDoor
