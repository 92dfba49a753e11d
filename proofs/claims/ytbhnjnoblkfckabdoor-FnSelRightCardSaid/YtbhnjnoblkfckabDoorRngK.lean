/- A range over a function whose rounds are numbered, with a word on what each of them leaves alone. No function of the program. -/
import Derived.Test.YtbhnjnoblkfckabDoorStR
namespace Go.Proofs.YtbhnjnoblkfckabDoor
open Go.RowKit

variable {F : Fence} {n : Nat} {P : Program}

/-- As CntSeq; each call of yield leaves the world K-related to what it was. -/
def CntSeqK (F : Fence) (n : Nat) (P : Program) (g : Nat) (lb : Array Value) (encs : Nat → Array Value) (Fact : Nat → World → Prop) (N : Nat) (K : World → World → Prop) : Prop :=
  ∀ (l : Nat) (J Jx : Nat → World → Prop) (W : World), AbidesFrom W.heap.size J → AbidesFrom W.heap.size Jx → (∀ k W1, J k W1 → Fact k W1) →
    (∀ k W1, k < N → J k W1 → YieldAt F (n - 1) P l (encs k) W1 fun e W' => (e = .returned (.bool true) ∧ J (k + 1) W' ∧ K W1 W') ∨ (e = .returned (.bool false) ∧ Jx (k + 1) W')) →
    J 0 W → CallsIn F n P g (#[.func (.yield l) #[] #[]] ++ lb) W fun e W' => (∃ v, e = .returned v) ∧ (J N W' ∨ ∃ k, k ≤ N ∧ Jx k W')
/-- How a round is left. -/
def cntPostK (B : Nat) (K : World → World → Prop) (I : Nat → World → Prop) (Ix : Code → Nat → World → Prop) (k : Nat) (W : World) : Exit → Act → World → Prop
  | .normal, _, W' => KeepsFrom B W W' ∧ I k W' ∧ K W W'
  | .ret, _, W' => KeepsFrom B W W' ∧ Ix .ret k W'
  | .exit id, _, W' => KeepsFrom B W W' ∧ Ix (.exit id) k W'
  | .goto t, _, W' => KeepsFrom B W W' ∧ Ix (.goto t) k W'
  | .panic _, _, _ => False
  | .outgrown, _, _ => False

theorem wpIn_rangeCntK {g : Operand} {ps : Array Tmp} {assign body : Code} {Q : Exit → Act → World → Prop} {a : Act} {w : World}
    (hro : F.round = none) (h1 : 1 ≤ n) {gf : Nat} {lb : Array Value} (hg : a.eval g = .func (.func gf) #[] lb) (hFg : F.fn gf) (eg : ∀ args w, (callFunc gf args).run P w = .ok (.enter gf args) w)
    {K : World → World → Prop} (hKt : ∀ {X Y Z : World}, K X Y → K Y Z → K X Z) (hKp : ∀ (X : World) (q : Nat) (r r' : Loop), X.heap[q]? = some (.loop r) → K X (X.putObj q (.loop r'))) {encs : Nat → Array Value} {Fact : Nat → World → Prop} {N : Nat} (hseq : CntSeqK F (n - 1) P gf lb encs Fact N K) (hps : ∀ k, (encs k).size = ps.size)
    (I : Nat → World → Prop) (Ix : Code → Nat → World → Prop) (hI : OwnFrom w.heap.size I) (hIx : ∀ c, OwnFrom w.heap.size (Ix c)) (hF : ∀ k W, I k W → Fact k W) (h0 : I 0 w) (a₁ : Nat → Act)
    (hassign : ∀ (l k : Nat) (W : World) (K2 : Act → World → Prop), K2 (a₁ k) W →
      assign.wpIn (F.inRound l) (n - 1 - 1) P (Exit.then K2 (fun _ _ _ => False)) { tmps := (ps.zip (encs k)).foldl (fun t (p, v) => t.setIfInBounds p v) a.tmps, defers := [] } W)
    (hbody : ∀ (l k : Nat) (W : World), w.heap.size ≤ l → (∃ r, W.heap[l]? = some (.loop r)) → k < N → I k W → body.wpIn (F.inRound l) (n - 1 - 1) P (cntPostK w.heap.size K I Ix (k + 1) W) (a₁ k) W)
    (hdone : ∀ (D : Nat) (W : World), w.heap.size ≤ D → I N W → W.heap[D]? = some (.deferred (some [])) → Q .normal { a with defers := { target := .collected D, args := #[] } :: a.defers } W)
    (hstop : ∀ (D : Nat) (c : Code) (k : Nat) (W : World), w.heap.size ≤ D → k ≤ N → Ix c k W → W.heap[D]? = some (.deferred (some [])) → c.wpIn F n P Q { a with defers := { target := .collected D, args := #[] } :: a.defers } W) :
    (Code.rangeFunc g ps assign body).wpIn F n P Q a w := by
  refine wpIn_rangeFunc fun fn hfn => ?_
  rw [hro]
  generalize hB : w.heap.size = B at *
  let R : LoopState → Option Code → Loop := fun st pe => { state := st, pending := pe, fn, tmps := a.tmps, params := ps, assign, body, defers := B }
  have hW1 : Books B (R .ready none) ((w.alloc (.deferred (some []))).alloc (.loop (R .ready none))) := by
    have e1 := World.alloc_heap_new w (.deferred (some []))
    have e2 := World.alloc_heap_new (w.alloc (.deferred (some []))) (.loop (R .ready none))
    rw [hB] at e1
    rw [World.size_alloc, hB] at e2
    exact ⟨(Below.heap_alloc _ _ _ (by simp [hB])).trans e1, e2⟩
  have hI1 : I 0 ((w.alloc (.deferred (some []))).alloc (.loop (R .ready none))) := hI.alloc _ (hI.alloc _ h0)
  have hsz : ((w.alloc (.deferred (some []))).alloc (.loop (R .ready none))).heap.size = B + 2 := by simp [hB]
  have hent : (Instr.enterLoop fn a.tmps ps assign body none).run P w = .ok (B + 1, [{ target := .collected B, args := #[] }]) ((w.alloc (.deferred (some []))).alloc (.loop (R .ready none))) := by
    rw [← hB]
    have := run_enterLoop_outer (P := P) (w := w) fn a.tmps ps assign body
    simpa [R, hB] using this
  generalize (w.alloc (.deferred (some []))).alloc (.loop (R .ready none)) = W1 at *
  refine ⟨B + 1, _, W1, { target := .fn (.func gf) lb, args := #[.func (.yield (B + 1)) #[] #[]] }, W1, gf, #[.func (.yield (B + 1)) #[] #[]] ++ lb, W1, hent, ?_, ?_, ?_, fun _ => h1, ?_⟩
  · simp only [resolve, hg]
    simp [go_sem]
  · intro f' hf'
    simp [Target.leads] at hf'
    subst hf'; exact hFg
  · simp [invoke, go_sem, eg]
  have far : ∀ {A : World} {row : Option Nat}, (∀ r, row = some r → W1.heap.size ≤ r ∧ ∃ o : Obj, A.heap[r]? = some o ∧ o.isWalk = true) → ∀ r, row = some r → B ≤ r ∧ ∃ o : Obj, A.heap[r]? = some o ∧ o.isCells = false :=
    fun hr r e => by obtain ⟨q, o, ho, hw⟩ := hr r e; exact ⟨by omega, o, ho, Obj.not_cells_of_walk hw⟩
  refine (hseq (B + 1) (fun k W => I k W ∧ Books B (R .ready none) W) (fun k W => ∃ c, Ix c k W ∧ Books B (R .done (some c)) W) W1 ?_ ?_ (fun k W h => hF k W h.1) ?_ ⟨hI1, hW1⟩).mono ?_
  · exact fun k X Y row hs hg' hr => ⟨hI k X Y row hs.1 hg' (far hr), hs.2.kept hg' fun r e => (hr r e).2⟩
  · rintro k X Y row ⟨c, hc, hb⟩ hg' hr
    exact ⟨c, hIx c k X Y row hc hg' (far hr), hb.kept hg' fun r e => (hr r e).2⟩
  · rintro k W hlt ⟨hi, hb⟩
    refine ⟨fn, _, assign, body, run_yield (P := P) (args := encs k) hb.book (hps k), roundIn_of_wpIn hfn (hassign _ k W _ ⟨_, run_beginRound hb.book rfl, ?_⟩)⟩
    have hb2 := hb.put (R .busy none)
    refine wpIn_mono (hbody _ k _ (Nat.le_succ _) ⟨_, hb2.book⟩ hlt (hI.putObj _ hi (Nat.le_succ _) hb.book rfl)) ?_
    have leave : ∀ (jump : Option Code) (W3 : World), KeepsFrom B (W.putObj (B + 1) (.loop (R .busy none))) W3 →
        (Instr.endRound (B + 1) jump).run P W3 = .ok (.bool jump.isNone) (W3.putObj (B + 1) (.loop (R (if jump.isNone then .ready else .done) jump))) ∧ Books B (R .busy none) W3 := fun jump W3 hk =>
      ⟨run_endRound (P := P) jump (hb2.keep hk).book, hb2.keep hk⟩
    rintro e a3 W3 hp
    cases e with
    | normal =>
      obtain ⟨hr, hb3⟩ := leave none W3 hp.1
      exact ⟨_, _, hr, .inl ⟨rfl, ⟨hI.putObj _ hp.2.1 (Nat.le_succ _) hb3.book rfl, hb3.put _⟩, hKt (hKt (hKp _ _ _ _ hb.book) hp.2.2) (hKp _ _ _ _ hb3.book)⟩⟩
    | ret =>
      obtain ⟨hr, hb3⟩ := leave (some .ret) W3 hp.1
      exact ⟨_, _, hr, .inr ⟨rfl, _, (hIx _).putObj _ hp.2 (Nat.le_succ _) hb3.book rfl, hb3.put _⟩⟩
    | exit id =>
      obtain ⟨hr, hb3⟩ := leave (some (.exit id)) W3 hp.1
      exact ⟨_, _, hr, .inr ⟨rfl, _, (hIx _).putObj _ hp.2 (Nat.le_succ _) hb3.book rfl, hb3.put _⟩⟩
    | goto t =>
      obtain ⟨hr, hb3⟩ := leave (some (.goto t)) W3 hp.1
      exact ⟨_, _, hr, .inr ⟨rfl, _, (hIx _).putObj _ hp.2 (Nat.le_succ _) hb3.book rfl, hb3.put _⟩⟩
    | panic ch => exact hp.elim
    | outgrown => exact hp.elim
  · rintro e W2 ⟨⟨v, rfl⟩, (⟨hi, hb⟩ | ⟨k, hk, c, hi, hb⟩)⟩
    · exact ⟨none, _, run_endLoop (P := P) hb.book (by simp [R]), hdone _ _ (Nat.le_refl _) (hI.putObj _ hi (Nat.le_succ _) hb.book rfl) ((World.putObj_heap_other (by omega)).trans hb.mark)⟩
    · exact ⟨some c, _, run_endLoop (P := P) hb.book (by simp [R]), hstop _ c k _ (Nat.le_refl _) hk ((hIx c).putObj _ hi (Nat.le_succ _) hb.book rfl) ((World.putObj_heap_other (by omega)).trans hb.mark)⟩
end Go.Proofs.YtbhnjnoblkfckabDoor
