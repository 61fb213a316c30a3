/- What is done one after the other till one refuses (object's row, a goto): contract of do, for whatever stands in the row; and worlds that are as they were but for a few blocks. -/
import Derived.Test.YtgcpkgogjcgfbaaAr4
import Derived.ScopeJumps
namespace Go.Proofs.Ytgcpkgogjcgfbaa
open Go.ChangeShapes Go.WideShapes Go.ChangeAt Go.RowKit
set_option linter.unusedVariables false
set_option linter.unusedSimpArgs false

/-- The world has grown; what was there is as it was, but for the blocks of S. -/
structure Kp (S : List Nat) (w w' : World) : Prop where
  os : w'.os = w.os
  tape : w'.tape = w.tape
  output : w'.output = w.output
  size : w.heap.size ≤ w'.heap.size
  block : ∀ k, k < w.heap.size → k ∉ S → w'.heap[k]? = w.heap[k]?
theorem Kp.of_up {S : List Nat} {a b : World} (h : Up a b) : Kp S a b := ⟨h.os, h.tape, h.output, h.size, fun k hk _ => h.block k hk⟩
theorem Kp.refl (S : List Nat) (a : World) : Kp S a a := .of_up (Up.refl a)
theorem Kp.trans {S : List Nat} {a b c : World} (h : Kp S a b) (k : Kp S b c) : Kp S a c :=
  ⟨k.os.trans h.os, k.tape.trans h.tape, k.output.trans h.output, Nat.le_trans h.size k.size, fun i hi hS => (k.block i (Nat.lt_of_lt_of_le hi h.size) hS).trans (h.block i hi hS)⟩
theorem Kp.mono {S T : List Nat} {a b : World} (h : Kp S a b) (k : ∀ x ∈ S, x ∈ T) : Kp T a b := ⟨h.os, h.tape, h.output, h.size, fun i hi hT => h.block i hi (fun q => hT (k i q))⟩
theorem Kp.up {S : List Nat} {a b c : World} (h : Kp S a b) (k : Up b c) : Kp S a c := h.trans (.of_up k)
theorem Kp.set_ {S : List Nat} {a b : World} (h : Kp S a b) {g i : Nat} (hg : g ∈ S) (u : Value) : Kp S a (b.setCell ⟨g, i, none⟩ u) :=
  ⟨h.os, h.tape, h.output, by simpa [World.setCell] using h.size, fun k hk hS => (Below.heap_setCell b ⟨g, i, none⟩ u k (fun e => hS (by rw [e]; exact hg))).trans (h.block k hk hS)⟩
theorem Kp.set3 {S : List Nat} {a b : World} (h : Kp S a b) {g : Nat} (hg : g ∈ S) (u0 u1 u2 : Value) : Kp S a (((b.setCell ⟨g, 0, none⟩ u0).setCell ⟨g, 1, none⟩ u1).setCell ⟨g, 2, none⟩ u2) :=
  ((h.set_ hg u0).set_ hg u1).set_ hg u2
theorem Up.kp {S : List Nat} {a b c : World} (h : Up a b) (k : Kp S b c) (hS : ∀ x ∈ S, a.heap.size ≤ x) : Up a c :=
  ⟨k.os.trans h.os, k.tape.trans h.tape, k.output.trans h.output, Nat.le_trans h.size k.size, fun i hi => (k.block i (Nat.lt_of_lt_of_le hi h.size) (fun q => by have := hS i q; omega)).trans (h.block i hi)⟩
theorem Blk.kp {S : List Nat} {w w' : World} {g : Nat} {t : TypeId} {cs : Array Value} (h : Blk w g t cs) (k : Kp S w w') (hg : g ∉ S) : Blk w' g t cs := (k.block g h.lt hg).trans h
theorem Row.kp {S : List Nat} {w w' : World} {p : Addr} {xs : List Int} (h : Row w p xs) (k : Kp S w w') (hp : p.block ∉ S) : Row w' p xs := by
  refine ⟨Nat.lt_of_lt_of_le h.1 k.size, fun j x hx => ?_⟩
  have e := h.2 j x hx
  unfold World.cell? at e ⊢
  rw [block_of_add] at e ⊢
  rw [k.block p.block h.1 hp]
  exact e
/-- Blocks that are too small for a space of memory. -/
def Tiny (S : List Nat) (w : World) : Prop := ∀ g ∈ S, ∃ t cs, Blk w g t cs ∧ cs.size < 16
theorem Tiny.nil (w : World) : Tiny [] w := fun _ h => by cases h
theorem Tiny.cons {S : List Nat} {w : World} {g : Nat} {t : TypeId} {cs : Array Value} (h : Blk w g t cs) (hl : cs.size < 16) (k : Tiny S w) : Tiny (g :: S) w := by
  intro x hx
  rcases List.mem_cons.1 hx with rfl | hx
  · exact ⟨t, cs, h, hl⟩
  · exact k x hx
theorem Row.tiny {S : List Nat} {w : World} {p : Addr} {xs : List Int} (h : Row w p xs) (hl : 16 ≤ xs.length) (hT : Tiny S w) : p.block ∉ S := by
  intro hp
  obtain ⟨t, cs, hb, hs⟩ := hT _ hp
  exact h.apart hb (by omega) rfl
/-- Memory stays, where a few small blocks are written. -/
theorem Sits.kp {S : List Nat} {w w' : World} {m : Me} {p q : Addr} {c d : Nat} (h : Sits w m p q c d) (k : Kp S w w') (hT : Tiny S w) : Sits w' m p q c d := by
  obtain ⟨⟨h0, h1, h2, h3⟩, h4, h5, h6, h7, h8, h9⟩ := h
  exact ⟨⟨h0, h1, h2, h3⟩, h4, h5, h6, h7, h8.kp k (h8.tiny (by omega) hT), h9.kp k (h9.tiny (by omega) hT)⟩

/-- A closure: its function, and what it has captured. -/
abbrev Clo := FuncId × Array Value
def fnv (c : Clo) : Value := .func (.func c.1) #[] c.2
/-- What one step of a row leaves. -/
def StepPost (S : List Nat) (Φ : Int → World → Prop) (next : World → Prop) (w : World) (e : Ending) (w' : World) : Prop :=
  ∃ x : Int, e = .returned (.int .i64 x) ∧ Kp S w w' ∧ (x ≠ 0 → ∀ w'', Up w' w'' → Φ x w'') ∧ (x = 0 → next w')
/-- What stands in a row, done one after the other till one refuses, comes to Φ; but for the blocks of S all is as it was. -/
def Run (S : List Nat) (Φ : Int → World → Prop) : List Clo → World → Prop
  | [], w => ∀ w', Up w w' → Φ 0 w'
  | c :: cs, w => (∀ args w, (callFunc c.1 args).run Try.prog w = .ok (.enter c.1 args) w) ∧ ∀ w0, Up w w0 → Calls Try.prog c.1 c.2 w0 (StepPost S Φ (Run S Φ cs) w0)
theorem Run.up {S : List Nat} {Φ : Int → World → Prop} {cs : List Clo} {w w' : World} (h : Run S Φ cs w) (k : Up w w') : Run S Φ cs w' := by
  cases cs with
  | nil => exact fun w'' q => h w'' (k.trans q)
  | cons c cs => exact ⟨h.1, fun w'' q => h.2 w'' (k.trans q)⟩

def RunPost (S : List Nat) (Φ : Int → World → Prop) (w : World) (e : Ending) (w' : World) : Prop := ∃ x : Int, e = .returned (.int .i64 x) ∧ Kp S w w' ∧ Φ x w'
/-- What holds at the label. -/
def AtNext (S : List Nat) (Φ : Int → World → Prop) (cs : List Clo) (g : Nat) (w : World) (a' : Act) (w' : World) : Prop :=
  ∃ (j : Nat) (u2 u4 u5 u6 u7 u8 u9 u10 u11 u12 u13 u14 u15 u16 u17 u18 : Value),
    a' = { tmps := #[.slice (some ⟨g, 0, none⟩) cs.length cs.length, undef, u2, .int .i64 j, u4, u5, u6, u7, u8, u9, u10, u11, u12, u13, u14, u15, u16, u17, u18], defers := [] }
      ∧ j ≤ cs.length ∧ Kp S w w' ∧ Run S Φ (cs.drop j) w'

set_option maxHeartbeats 1000000 in
theorem do_any (S : List Nat) (Φ : Int → World → Prop) (cs : List Clo) (g : Nat) (w : World) (hl : cs.length ≤ 1000) (hg : g ∉ S) (hb : Blk w g 100 (cs.map fnv).toArray) (hr : Run S Φ cs w) :
    Calls Try.prog 59 #[.slice (some ⟨g, 0, none⟩) cs.length cs.length] w (RunPost S Φ w) := by
  go_enter Try.func59, Try.ntmps59
  have HB := Lib.hid hb
  have HR := Lib.hid hr
  clear hb hr
  go_wp2
  refine wp_scope_jumps 0 (AtNext S Φ cs g w) (fun a' _ => cs.length - (intOf (a'.tmps.getD 3 undef)).toNat) rfl ?_ ?_
  · have hk : Kp S w w := Kp.refl _ _
    have hr := HR.out
    rw [show cs = cs.drop 0 from rfl] at hr
    go_wp2_with (fail)
    go_step3
    by_cases h0 : 0 < cs.length
    · rw [List.drop_eq_getElem_cons h0] at hr
      have hcell := (HB.out.kp hk hg).cell 0
      rw [show (cs.map fnv).toArray[0]? = some (fnv cs[0]) from by simp [h0]] at hcell
      obtain ⟨⟨f, caps⟩, hc⟩ : ∃ c, cs[0] = c := ⟨_, rfl⟩
      rw [hc] at hr hcell
      have HC := Lib.hid (hr.2 _ (Up.refl _))
      have hent := hr.1
      clear hc hr
      simp only [fnv] at hcell HC hent
      have hne : (0 == cs.length) = false := beq_eq_false_iff_ne.mpr (by omega)
      go_wp2_with (fail)
      refine HC.out.mono ?_
      rintro e w1 ⟨x, rfl, hk1, hx, hn⟩
      by_cases e : x = 0
      · subst e
        have HN := Lib.hid (hn rfl)
        clear hx hn
        go_wp2_with (fail)
        go_step3
        refine ⟨rfl, ⟨1, _, _, _, _, _, _, _, _, _, _, _, _, _, _, _, _, rfl, by omega, hk1, HN.out⟩⟩
      · have HX := Lib.hid (hx e)
        have hb : (x != 0) = true := bne_iff_ne.mpr e
        clear hx hn e
        go_wp2_with (fail)
        simp only [Exit.jump]
        go_ret
        exact ⟨x, rfl, hk1, HX.out _ (Up.refl _)⟩
    · obtain rfl : cs = [] := List.eq_nil_of_length_eq_zero (by omega)
      have HR2 := Lib.hid hr
      clear hr
      go_wp2_with (fail)
      simp only [Exit.jump]
      go_ret
      exact ⟨0, rfl, hk, HR2.out _ (Up.refl _)⟩
  · rintro a' wr ⟨j, u2, u4, u5, u6, u7, u8, u9, u10, u11, u12, u13, u14, u15, u16, u17, u18, rfl, hj, hk, hr⟩
    by_cases h0 : j < cs.length
    · rw [List.drop_eq_getElem_cons h0] at hr
      have hcell := (HB.out.kp hk hg).cell j
      rw [show (cs.map fnv).toArray[j]? = some (fnv cs[j]) from by simp [h0]] at hcell
      obtain ⟨⟨f, caps⟩, hc⟩ : ∃ c, cs[j] = c := ⟨_, rfl⟩
      rw [hc] at hr hcell
      have HC := Lib.hid (hr.2 _ (Up.refl _))
      have hent := hr.1
      clear hc hr
      simp only [fnv] at hcell HC hent
      have hne : (j == cs.length) = false := beq_eq_false_iff_ne.mpr (by omega)
      go_wp2_with (fail)
      refine HC.out.mono ?_
      rintro e w1 ⟨x, rfl, hk1, hx, hn⟩
      by_cases e : x = 0
      · subst e
        have HN := Lib.hid (hn rfl)
        clear hx hn
        go_wp2_with (fail)
        go_step3
        refine ⟨rfl, ⟨j + 1, _, _, _, _, _, _, _, _, _, _, _, _, _, _, _, _, rfl, by omega, hk.trans hk1, HN.out⟩, ?_⟩
        simp [intOf]
        omega
      · have HX := Lib.hid (hx e)
        have hb : (x != 0) = true := bne_iff_ne.mpr e
        clear hx hn e
        go_wp2_with (fail)
        simp only [Exit.jump]
        go_ret
        exact ⟨x, rfl, hk.trans hk1, HX.out _ (Up.refl _)⟩
    · obtain rfl : j = cs.length := by omega
      rw [List.drop_length] at hr
      have HR2 := Lib.hid hr
      clear hr
      go_wp2_with (fail)
      simp only [Exit.jump]
      go_ret
      exact ⟨0, rfl, hk, HR2.out _ (Up.refl _)⟩

theorem Blk.new' (w : World) {g : Nat} (hg : g = w.heap.size) (t : TypeId) (cs : Array Value) : Blk (w.alloc (.cells cs t)) g t cs := by subst hg; exact Blk.new w t cs
/-- The world of a call under a name. -/
theorem calls_at {P : Program} {f : FuncId} {args : Array Value} {w : World} {R : Ending → World → Prop} (h : ∀ W, W = w → Calls P f args W R) : Calls P f args w R := h w rfl
/-- Memory lies in a box. -/
def Box (w : World) (B : Nat) (m : Me) (P Q : Addr) (c d : Nat) : Prop := Blk w B 25 #[.int .i64 m.n, .slice (some P) m.n c, .slice (some Q) m.n d] ∧ Sits w m P Q c d
theorem Box.kp {S : List Nat} {w w' : World} {B : Nat} {m : Me} {P Q : Addr} {c d : Nat} (h : Box w B m P Q c d) (k : Kp S w w') (hB : B ∉ S) (hT : Tiny S w) : Box w' B m P Q c d := ⟨h.1.kp k hB, h.2.kp k hT⟩
theorem Box.up {w w' : World} {B : Nat} {m : Me} {P Q : Addr} {c d : Nat} (h : Box w B m P Q c d) (k : Up w w') : Box w' B m P Q c d := ⟨h.1.up k, h.2.up k⟩
theorem Tiny.one {w : World} {g : Nat} {t : TypeId} {cs : Array Value} (h : Blk w g t cs) (hl : cs.size < 16 := by decide) : Tiny [g] w := (Tiny.nil w).cons h hl
theorem Tiny.two {w : World} {g h : Nat} {t u : TypeId} {cs ds : Array Value} (k : Blk w g t cs) (l : Blk w h u ds) (hl : cs.size < 16 := by decide) (hk : ds.size < 16 := by decide) : Tiny [g, h] w := ((Tiny.nil w).cons l hk).cons k hl
/-- A closure writes one box; memory behind it. -/
def OutPost (B : Nat) (m : Me) (x : Int) (w : World) (e : Ending) (w' : World) : Prop := e = .returned (.int .i64 x) ∧ Kp [B] w w' ∧ ∃ P Q c d, Box w' B m P Q c d
def CellPost (B : Nat) (t : TypeId) (cs : Array Value) (x : Int) (w : World) (e : Ending) (w' : World) : Prop := e = .returned (.int .i64 x) ∧ Kp [B] w w' ∧ Blk w' B t cs
end Go.Proofs.Ytgcpkgogjcgfbaa
