/- A row of closures: contracts. -/
import Derived.Test.YtddoljfkbkbfjaaGreatAc
import Derived.Test.YtddoljfkbkbfjaaGreatAl
import Derived.ScopeJumps
import Derived.Deep.RegionHeld3
import Derived.Deep.QuietTactic
import Derived.BigQuiet
/-! Of stage 5 -/
namespace Go.Proofs.YtddoljfkbkbfjaaGreat
open Go.ChangeShapes Go.WideShapes Go.ChangeAt Go.RowKit
set_option linter.unusedVariables false
set_option linter.unusedSimpArgs false

/-- The world has grown; what was there is as it was, but for the blocks of S. -/
structure Kp (S : List Nat) (w w' : World) : Prop where
  os : w'.os = w.os
  tape : w'.tape = w.tape
  output : w'.output = w.output
  size : w.heap.size ≤ w'.heap.size
  block : ∀ k, k < w.heap.size → k ∉ S → w'.heap[k]? = w.heap[k]?
theorem Kp.of_up {S : List Nat} {a b : World} (h : Up a b) : Kp S a b := ⟨h.os, h.tape, h.output, h.size, fun k hk _ => h.block k hk⟩
theorem Kp.refl (S : List Nat) (a : World) : Kp S a a := .of_up (Up.refl a)
theorem Kp.trans {S : List Nat} {a b c : World} (h : Kp S a b) (k : Kp S b c) : Kp S a c :=
  ⟨k.os.trans h.os, k.tape.trans h.tape, k.output.trans h.output, Nat.le_trans h.size k.size, fun i hi hS => (k.block i (Nat.lt_of_lt_of_le hi h.size) hS).trans (h.block i hi hS)⟩
theorem Kp.mono {S T : List Nat} {a b : World} (h : Kp S a b) (k : ∀ x ∈ S, x ∈ T) : Kp T a b := ⟨h.os, h.tape, h.output, h.size, fun i hi hT => h.block i hi (fun q => hT (k i q))⟩
theorem Kp.up {S : List Nat} {a b c : World} (h : Kp S a b) (k : Up b c) : Kp S a c := h.trans (.of_up k)
theorem Kp.set_ {S : List Nat} {a b : World} (h : Kp S a b) {g i : Nat} (hg : g ∈ S) (u : Value) : Kp S a (b.setCell ⟨g, i, none⟩ u) :=
  ⟨h.os, h.tape, h.output, by simpa [World.setCell] using h.size, fun k hk hS => (Below.heap_setCell b ⟨g, i, none⟩ u k (fun e => hS (by rw [e]; exact hg))).trans (h.block k hk hS)⟩
theorem Kp.set3 {S : List Nat} {a b : World} (h : Kp S a b) {g : Nat} (hg : g ∈ S) (u0 u1 u2 : Value) : Kp S a (((b.setCell ⟨g, 0, none⟩ u0).setCell ⟨g, 1, none⟩ u1).setCell ⟨g, 2, none⟩ u2) :=
  ((h.set_ hg u0).set_ hg u1).set_ hg u2
theorem Up.kp {S : List Nat} {a b c : World} (h : Up a b) (k : Kp S b c) (hS : ∀ x ∈ S, a.heap.size ≤ x) : Up a c :=
  ⟨k.os.trans h.os, k.tape.trans h.tape, k.output.trans h.output, Nat.le_trans h.size k.size, fun i hi => (k.block i (Nat.lt_of_lt_of_le hi h.size) (fun q => by have := hS i q; omega)).trans (h.block i hi)⟩
theorem Blk.kp {S : List Nat} {w w' : World} {g : Nat} {t : TypeId} {cs : Array Value} (h : Blk w g t cs) (k : Kp S w w') (hg : g ∉ S) : Blk w' g t cs := (k.block g h.lt hg).trans h
theorem Row.kp {S : List Nat} {w w' : World} {p : Addr} {xs : List Int} (h : Row w p xs) (k : Kp S w w') (hp : p.block ∉ S) : Row w' p xs := by
  refine ⟨Nat.lt_of_lt_of_le h.1 k.size, fun j x hx => ?_⟩
  have e := h.2 j x hx
  unfold World.cell? at e ⊢
  rw [block_of_add] at e ⊢
  rw [k.block p.block h.1 hp]
  exact e
/-- Blocks that are too small for a space of memory. -/
def Tiny (S : List Nat) (w : World) : Prop := ∀ g ∈ S, ∃ t cs, Blk w g t cs ∧ cs.size < 16
theorem Tiny.nil (w : World) : Tiny [] w := fun _ h => by cases h
theorem Tiny.cons {S : List Nat} {w : World} {g : Nat} {t : TypeId} {cs : Array Value} (h : Blk w g t cs) (hl : cs.size < 16) (k : Tiny S w) : Tiny (g :: S) w := by
  intro x hx
  rcases List.mem_cons.1 hx with rfl | hx
  · exact ⟨t, cs, h, hl⟩
  · exact k x hx
theorem Row.tiny {S : List Nat} {w : World} {p : Addr} {xs : List Int} (h : Row w p xs) (hl : 16 ≤ xs.length) (hT : Tiny S w) : p.block ∉ S := by
  intro hp
  obtain ⟨t, cs, hb, hs⟩ := hT _ hp
  exact h.apart hb (by omega) rfl
/-- Memory stays, where a few small blocks are written. -/
theorem Sits.kp {S : List Nat} {w w' : World} {m : Me} {p q : Addr} {c d : Nat} (h : Sits w m p q c d) (k : Kp S w w') (hT : Tiny S w) : Sits w' m p q c d := by
  obtain ⟨⟨h0, h1, h2, h3⟩, h4, h5, h6, h7, h8, h9⟩ := h
  exact ⟨⟨h0, h1, h2, h3⟩, h4, h5, h6, h7, h8.kp k (h8.tiny (by omega) hT), h9.kp k (h9.tiny (by omega) hT)⟩

/-- A closure: its function, and what it has captured. -/
abbrev Clo := FuncId × Array Value
def fnv (c : Clo) : Value := .func (.func c.1) #[] c.2
/-- What one step of a row leaves. -/
def StepPost (S : List Nat) (Φ : Int → World → Prop) (next : World → Prop) (w : World) (e : Ending) (w' : World) : Prop :=
  ∃ x : Int, e = .returned (.int .i64 x) ∧ Kp S w w' ∧ (x ≠ 0 → ∀ w'', Up w' w'' → Φ x w'') ∧ (x = 0 → next w')
/-- What stands in a row, done one after the other till one refuses, comes to Φ; but for the blocks of S all is as it was. -/
def Run (S : List Nat) (Φ : Int → World → Prop) : List Clo → World → Prop
  | [], w => ∀ w', Up w w' → Φ 0 w'
  | c :: cs, w => (∀ args w, (callFunc c.1 args).run Tryz.prog w = .ok (.enter c.1 args) w) ∧ ∀ w0, Up w w0 → Calls Tryz.prog c.1 c.2 w0 (StepPost S Φ (Run S Φ cs) w0)
theorem Run.up {S : List Nat} {Φ : Int → World → Prop} {cs : List Clo} {w w' : World} (h : Run S Φ cs w) (k : Up w w') : Run S Φ cs w' := by
  cases cs with
  | nil => exact fun w'' q => h w'' (k.trans q)
  | cons c cs => exact ⟨h.1, fun w'' q => h.2 w'' (k.trans q)⟩

def RunPost (S : List Nat) (Φ : Int → World → Prop) (w : World) (e : Ending) (w' : World) : Prop := ∃ x : Int, e = .returned (.int .i64 x) ∧ Kp S w w' ∧ Φ x w'
/-- What holds at the label. -/
def AtNext (S : List Nat) (Φ : Int → World → Prop) (cs : List Clo) (g : Nat) (w : World) (a' : Act) (w' : World) : Prop :=
  ∃ (j : Nat) (u2 u4 u5 u6 u7 u8 u9 u10 u11 u12 u13 u14 u15 u16 u17 u18 : Value),
    a' = { tmps := #[.slice (some ⟨g, 0, none⟩) cs.length cs.length, undef, u2, .int .i64 j, u4, u5, u6, u7, u8, u9, u10, u11, u12, u13, u14, u15, u16, u17, u18], defers := [] }
      ∧ j ≤ cs.length ∧ Kp S w w' ∧ Run S Φ (cs.drop j) w'

set_option maxHeartbeats 1000000 in
theorem do_any (S : List Nat) (Φ : Int → World → Prop) (cs : List Clo) (g : Nat) (w : World) (hl : cs.length ≤ 1000) (hg : g ∉ S) (hb : Blk w g 114 (cs.map fnv).toArray) (hr : Run S Φ cs w) :
    Calls Tryz.prog 114 #[.slice (some ⟨g, 0, none⟩) cs.length cs.length] w (RunPost S Φ w) := by
  go_enter Tryz.func114, Tryz.ntmps114
  have HB := Lib.hid hb
  have HR := Lib.hid hr
  clear hb hr
  go_wp2
  refine wp_scope_jumps 0 (AtNext S Φ cs g w) (fun a' _ => cs.length - (intOf (a'.tmps.getD 3 undef)).toNat) rfl ?_ ?_
  · have hk : Kp S w w := Kp.refl _ _
    have hr := HR.out
    rw [show cs = cs.drop 0 from rfl] at hr
    go_wp2_with (fail)
    go_step3
    by_cases h0 : 0 < cs.length
    · rw [List.drop_eq_getElem_cons h0] at hr
      have hcell := (HB.out.kp hk hg).cell 0
      rw [show (cs.map fnv).toArray[0]? = some (fnv cs[0]) from by simp [h0]] at hcell
      obtain ⟨⟨f, caps⟩, hc⟩ : ∃ c, cs[0] = c := ⟨_, rfl⟩
      rw [hc] at hr hcell
      have HC := Lib.hid (hr.2 _ (Up.refl _))
      have hent := hr.1
      clear hc hr
      simp only [fnv] at hcell HC hent
      have hne : (0 == cs.length) = false := beq_eq_false_iff_ne.mpr (by omega)
      go_wp2_with (fail)
      refine HC.out.mono ?_
      rintro e w1 ⟨x, rfl, hk1, hx, hn⟩
      by_cases e : x = 0
      · subst e
        have HN := Lib.hid (hn rfl)
        clear hx hn
        go_wp2_with (fail)
        go_step3
        refine ⟨rfl, ⟨1, _, _, _, _, _, _, _, _, _, _, _, _, _, _, _, _, rfl, by omega, hk1, HN.out⟩⟩
      · have HX := Lib.hid (hx e)
        have hb : (x != 0) = true := bne_iff_ne.mpr e
        clear hx hn e
        go_wp2_with (fail)
        simp only [Exit.jump]
        go_ret
        exact ⟨x, rfl, hk1, HX.out _ (Up.refl _)⟩
    · obtain rfl : cs = [] := List.eq_nil_of_length_eq_zero (by omega)
      have HR2 := Lib.hid hr
      clear hr
      go_wp2_with (fail)
      simp only [Exit.jump]
      go_ret
      exact ⟨0, rfl, hk, HR2.out _ (Up.refl _)⟩
  · rintro a' wr ⟨j, u2, u4, u5, u6, u7, u8, u9, u10, u11, u12, u13, u14, u15, u16, u17, u18, rfl, hj, hk, hr⟩
    by_cases h0 : j < cs.length
    · rw [List.drop_eq_getElem_cons h0] at hr
      have hcell := (HB.out.kp hk hg).cell j
      rw [show (cs.map fnv).toArray[j]? = some (fnv cs[j]) from by simp [h0]] at hcell
      obtain ⟨⟨f, caps⟩, hc⟩ : ∃ c, cs[j] = c := ⟨_, rfl⟩
      rw [hc] at hr hcell
      have HC := Lib.hid (hr.2 _ (Up.refl _))
      have hent := hr.1
      clear hc hr
      simp only [fnv] at hcell HC hent
      have hne : (j == cs.length) = false := beq_eq_false_iff_ne.mpr (by omega)
      go_wp2_with (fail)
      refine HC.out.mono ?_
      rintro e w1 ⟨x, rfl, hk1, hx, hn⟩
      by_cases e : x = 0
      · subst e
        have HN := Lib.hid (hn rfl)
        clear hx hn
        go_wp2_with (fail)
        go_step3
        refine ⟨rfl, ⟨j + 1, _, _, _, _, _, _, _, _, _, _, _, _, _, _, _, _, rfl, by omega, hk.trans hk1, HN.out⟩, ?_⟩
        simp [intOf]
        omega
      · have HX := Lib.hid (hx e)
        have hb : (x != 0) = true := bne_iff_ne.mpr e
        clear hx hn e
        go_wp2_with (fail)
        simp only [Exit.jump]
        go_ret
        exact ⟨x, rfl, hk.trans hk1, HX.out _ (Up.refl _)⟩
    · obtain rfl : j = cs.length := by omega
      rw [List.drop_length] at hr
      have HR2 := Lib.hid hr
      clear hr
      go_wp2_with (fail)
      simp only [Exit.jump]
      go_ret
      exact ⟨0, rfl, hk, HR2.out _ (Up.refl _)⟩

theorem Blk.new' (w : World) {g : Nat} (hg : g = w.heap.size) (t : TypeId) (cs : Array Value) : Blk (w.alloc (.cells cs t)) g t cs := by subst hg; exact Blk.new w t cs
/-- The world of a call under a name. -/
theorem calls_at {P : Program} {f : FuncId} {args : Array Value} {w : World} {R : Ending → World → Prop} (h : ∀ W, W = w → Calls P f args W R) : Calls P f args w R := h w rfl
/-- Memory lies in a box. -/
def Box (w : World) (B : Nat) (m : Me) (P Q : Addr) (c d : Nat) : Prop := Blk w B 25 #[.int .i64 m.n, .slice (some P) m.n c, .slice (some Q) m.n d] ∧ Sits w m P Q c d
theorem Box.kp {S : List Nat} {w w' : World} {B : Nat} {m : Me} {P Q : Addr} {c d : Nat} (h : Box w B m P Q c d) (k : Kp S w w') (hB : B ∉ S) (hT : Tiny S w) : Box w' B m P Q c d := ⟨h.1.kp k hB, h.2.kp k hT⟩
theorem Box.up {w w' : World} {B : Nat} {m : Me} {P Q : Addr} {c d : Nat} (h : Box w B m P Q c d) (k : Up w w') : Box w' B m P Q c d := ⟨h.1.up k, h.2.up k⟩
theorem Tiny.one {w : World} {g : Nat} {t : TypeId} {cs : Array Value} (h : Blk w g t cs) (hl : cs.size < 16 := by decide) : Tiny [g] w := (Tiny.nil w).cons h hl
theorem Tiny.two {w : World} {g h : Nat} {t u : TypeId} {cs ds : Array Value} (k : Blk w g t cs) (l : Blk w h u ds) (hl : cs.size < 16 := by decide) (hk : ds.size < 16 := by decide) : Tiny [g, h] w := ((Tiny.nil w).cons l hk).cons k hl
/-- A closure writes one box; memory behind it. -/
def OutPost (B : Nat) (m : Me) (x : Int) (w : World) (e : Ending) (w' : World) : Prop := e = .returned (.int .i64 x) ∧ Kp [B] w w' ∧ ∃ P Q c d, Box w' B m P Q c d
def CellPost (B : Nat) (t : TypeId) (cs : Array Value) (x : Int) (w : World) (e : Ending) (w' : World) : Prop := e = .returned (.int .i64 x) ∧ Kp [B] w w' ∧ Blk w' B t cs

end Go.Proofs.YtddoljfkbkbfjaaGreat
/-! Of stage 5 -/
namespace Go.Proofs.YtddoljfkbkbfjaaGreat
open Go.ChangeShapes Go.WideShapes Go.ChangeAt Go.RowKit
set_option linter.unusedVariables false
set_option linter.unusedSimpArgs false

/-- How many words an object takes. -/
def wdn (t l : Int) : Int := if t = 255 then l + 1 else l + 2
theorem words_any (t l m : Int) (hm : 0 ≤ m) (h : rte t l m = 0) (w : World) :
    Calls Tryz.prog 129 #[hdv t l m] w fun e w' => e = .returned (.int .i64 (wdn t l)) ∧ Up w w' := by
  obtain ⟨h0, h1, h2, h3, h4, h5⟩ := rte_small hm h
  by_cases ht : t = 255
  · rw [show wdn t l = l + 1 from if_pos ht]
    exact words_f t l m ht h2 h3 w
  · rw [show wdn t l = 2 + l from (if_neg ht).trans (by omega)]
    exact words_o t l m (by omega) h2 (by omega) w
set_option maxHeartbeats 400000 in
theorem rhwords_any (t l m : Int) (hm : 0 ≤ m) (h : rte t l m = 0) (w : World) :
    Calls Tryz.prog 39 #[hdv t l m] w fun e w' => e = .returned (.int .i64 (wdn t l)) ∧ Up w w' := by
  obtain ⟨h0, h1, h2, h3, h4, h5⟩ := rte_small hm h
  clear h h5
  by_cases ht : t = 255
  · rw [show wdn t l = 1 + l from (if_pos ht).trans (by omega)]
    subst ht
    go_enter Tryz.func39, Tryz.ntmps39
    go_wp2
    go_ret
    exact ⟨rfl, (Up.refl _).alloc _⟩
  · rw [show wdn t l = 2 + l from (if_neg ht).trans (by omega)]
    have hb : (t == 255) = false := beq_eq_false_iff_ne.mpr ht
    clear ht
    go_enter Tryz.func39, Tryz.ntmps39
    go_wp2
    go_ret
    exact ⟨rfl, (Up.refl _).alloc _⟩
theorem wdn_small {t l m : Int} (hm : 0 ≤ m) (h : rte t l m = 0) : 1 ≤ wdn t l ∧ wdn t l ≤ 65536 := by
  obtain ⟨h0, h1, h2, h3, h4, h5⟩ := rte_small hm h
  unfold wdn
  split <;> omega

/-- 0, if it holds; else the error. -/
def unl (b : Bool) (x : Int) : Int := if b then 0 else x
theorem unless_any (b : Bool) (x : Int) (w : World) :
    Calls Tryz.prog 138 #[.bool b, .int .i64 x] w fun e w' => e = .returned (.int .i64 (unl b x)) ∧ w = w' := by
  cases b
  · rw [show unl false x = x from rfl]
    go_enter Tryz.func138, Tryz.ntmps138
    go_wp2
    go_ret
    exact ⟨rfl, rfl⟩
  · rw [show unl true x = 0 from rfl]
    go_enter Tryz.func138, Tryz.ntmps138
    go_wp2
    go_ret
    exact ⟨rfl, rfl⟩

/-- Does an object have the field? -/
def hasb (l i : Int) : Bool := decide (0 ≤ i ∧ i < l)
set_option maxHeartbeats 400000 in
theorem has_any (t l m i : Int) (w : World) :
    Calls Tryz.prog 118 #[hdv t l m, .int .i64 i] w fun e w' => e = .returned (.int .i64 (unl (hasb l i) 7)) ∧ Up w w' := by
  by_cases h0 : 0 ≤ i
  · by_cases h1 : i < l
    · rw [show hasb l i = true from decide_eq_true ⟨h0, h1⟩]
      have hu := Lib.hid (fun w => unless_any true 7 w)
      go_enter Tryz.func118, Tryz.ntmps118
      go_wp2_with (fail)
      refine (hu.out _).mono ?_
      rintro e w1 ⟨rfl, rfl⟩
      go_wp2
      go_ret
      exact ⟨rfl, (Up.refl _).alloc _⟩
    · rw [show hasb l i = false from decide_eq_false (fun q => h1 q.2)]
      have hu := Lib.hid (fun w => unless_any false 7 w)
      have hd : decide (i < l) = false := decide_eq_false h1
      clear h1
      go_enter Tryz.func118, Tryz.ntmps118
      go_wp2_with (fail)
      refine (hu.out _).mono ?_
      rintro e w1 ⟨rfl, rfl⟩
      go_wp2
      go_ret
      exact ⟨rfl, (Up.refl _).alloc _⟩
  · rw [show hasb l i = false from decide_eq_false (fun q => h0 q.1)]
    have hu := Lib.hid (fun w => unless_any false 7 w)
    have hd : decide (0 ≤ i) = false := decide_eq_false h0
    clear h0
    go_enter Tryz.func118, Tryz.ntmps118
    go_wp2_with (fail)
    refine (hu.out _).mono ?_
    rintro e w1 ⟨rfl, rfl⟩
    go_wp2
    go_ret
    exact ⟨rfl, (Up.refl _).alloc _⟩

set_option maxHeartbeats 400000 in
theorem sum_1 (a k : Int) (g : Nat) (w : World) (h0 : 0 ≤ a) (h1 : 0 ≤ k) (h2 : a + k ≤ 18446744073709551615) (hb : Blk w g 3 #[.int .i64 k]) :
    Calls Tryz.prog 142 #[.int .u64 a, .slice (some ⟨g, 0, none⟩) 1 1] w fun e w' => e = .returned (.int .u64 (a + k)) ∧ w = w' := by
  have hc := hb.cell 0
  simp at hc
  go_enter Tryz.func142, Tryz.ntmps142
  go_wp2
  refine wp_loop_rounds 2 ?_
  rw [rounds_succ]
  go_wp2
  rw [rounds_succ]
  go_wp2
  go_ret
  exact ⟨rfl, rfl⟩

set_option maxHeartbeats 400000 in
theorem sum_2 (a k l : Int) (g : Nat) (w : World) (h0 : 0 ≤ a) (h1 : 0 ≤ k) (h2 : 0 ≤ l) (h3 : a + k + l ≤ 18446744073709551615) (hb : Blk w g 3 #[.int .i64 k, .int .i64 l]) :
    Calls Tryz.prog 142 #[.int .u64 a, .slice (some ⟨g, 0, none⟩) 2 2] w fun e w' => e = .returned (.int .u64 (a + k + l)) ∧ w = w' := by
  have hc := hb.cell 0
  have hd := hb.cell 1
  simp at hc hd
  go_enter Tryz.func142, Tryz.ntmps142
  go_wp2
  refine wp_loop_rounds 3 ?_
  rw [rounds_succ]
  go_wp2
  rw [rounds_succ]
  go_wp2
  rw [rounds_succ]
  go_wp2
  go_ret
  exact ⟨rfl, rfl⟩

set_option maxHeartbeats 400000 in
theorem field_any (a i : Int) (w : World) (h0 : 0 ≤ a) (h1 : 0 ≤ i) (h2 : a + 2 + i ≤ 18446744073709551615) :
    Calls Tryz.prog 120 #[.int .u64 a, .int .i64 i] w fun e w' => e = .returned (.int .u64 (a + 2 + i)) ∧ Up w w' := by
  have hs := Lib.hid (fun (w : World) (g : Nat) (hb : Blk w g 3 #[.int .i64 2, .int .i64 i]) => sum_2 a 2 i g w h0 (by decide) h1 h2 hb)
  clear h0 h1 h2
  go_enter Tryz.func120, Tryz.ntmps120
  go_wp2_with (fail)
  refine (hs.out _ _ (Blk.new w 3 #[.int .i64 2, .int .i64 i])).mono ?_
  rintro e w1 ⟨rfl, rfl⟩
  go_wp2
  go_ret
  exact ⟨rfl, (Up.refl _).alloc _⟩

/-- Are so many words there from an address on? -/
def Me.inn (m : Me) (a k : Int) : Prop := whb a = true ∧ whp a + k ≤ m.n
instance decInn (m : Me) (a k : Int) : Decidable (m.inn a k) := by unfold Me.inn; infer_instance

set_option maxHeartbeats 1000000 in
theorem there_no (m : Me) (a t l mp : Int) (P Q : Addr) (c d : Nat) (w : World) (ha : U64 a) (hb : whb a = false) :
    Calls Tryz.prog 113 #[.agg #[.int .i64 m.n, .slice (some P) m.n c, .slice (some Q) m.n d], .int .u64 a, hdv t l mp] w fun e w' => e = .returned (.int .i64 2) ∧ Up w w' := by
  have hw := Lib.hid (fun w => where_not a ha hb w)
  have hu := Lib.hid (fun w => unless_any false 2 w)
  clear ha hb
  go_enter Tryz.func113, Tryz.ntmps113
  go_wp2_with (fail)
  refine (hw.out _).mono ?_
  rintro e w1 ⟨rfl, h1⟩
  have U1 : Up w w1 := (((Up.refl w).alloc _).alloc _).trans h1
  go_wp2_with (fail)
  clear h1
  go_quiet ((go_at_call 138; exact quiet_same (hu.out _)))
  go_wp2
  go_ret
  exact ⟨rfl, U1.drewN _⟩

set_option maxHeartbeats 2000000 in
theorem there_at (m : Me) (a s p t l mp : Int) (P Q : Addr) (c d : Nat) (w : World) (hn : m.n ≤ 4096) (ha : U64 a) (hl : Leads a s p) (hm : 0 ≤ mp) (hh : rte t l mp = 0) (b : Bool) (hb : fitb p (wdn t l) m.n = b) :
    Calls Tryz.prog 113 #[.agg #[.int .i64 m.n, .slice (some P) m.n c, .slice (some Q) m.n d], .int .u64 a, hdv t l mp] w fun e w' => e = .returned (.int .i64 (unl b 2)) ∧ Up w w' := by
  have hw := Lib.hid (fun w => where_yes a s p ha hl w)
  have hu := Lib.hid (fun w => unless_any b 2 w)
  have hwd := Lib.hid (fun w => words_any t l mp hm hh w)
  have hft := Lib.hid (fun w => show Calls Tryz.prog 139 #[.int .i64 p, .int .i64 (wdn t l), .int .i64 m.n] w fun e w' => e = .returned (.bool b) ∧ Up w w' from by
    have := wdn_small hm hh
    have := hl.2.1
    have := hl.2.2.1
    have h := fits_any p (wdn t l) m.n ⟨by omega, by omega⟩ ⟨by omega, by omega⟩ ⟨by omega, by omega⟩ w
    rw [hb] at h
    exact h)
  generalize wdn t l = n at hb hwd hft
  clear ha hb hl hh hm
  go_enter Tryz.func113, Tryz.ntmps113
  go_wp2_with (fail)
  refine (hw.out _).mono ?_
  rintro e w1 ⟨rfl, h1⟩
  have D1 := ((Blk.new w 25 #[.int .i64 m.n, .slice (some P) m.n c, .slice (some Q) m.n d]).alloc (.cells #[.int .i64 t, .int .i64 l, .int .u64 mp] 60)).up h1
  have H1 := (Blk.new (w.alloc (.cells #[.int .i64 m.n, .slice (some P) m.n c, .slice (some Q) m.n d] 25)) 60 #[.int .i64 t, .int .i64 l, .int .u64 mp]).up h1
  simp at H1
  have U1 : Up w w1 := (((Up.refl w).alloc _).alloc _).trans h1
  clear h1
  go_wp2_with (fail)
  have D2 := D1.drew
  have H2 := H1.drew
  have U2 := U1.drew
  have U0 := Up.refl w1.drew
  clear D1 H1 U1
  cases b
  all_goals
    go_region_held3 (fun w' => (∀ i, w'.cell? ⟨w.heap.size, i, none⟩ = (#[.int .i64 m.n, .slice (some P) m.n c, .slice (some Q) m.n d] : Array Value)[i]?) ∧ (∀ i, w'.cell? ⟨w.heap.size + 1, i, none⟩ = (#[.int .i64 t, .int .i64 l, .int .u64 mp] : Array Value)[i]?))
      (exact ⟨fun i => (Blk.up D2 (by assumption)).cell i, fun i => (Blk.up H2 (by assumption)).cell i⟩)
      (first
        | (go_at_call 129; ((with_reducible refine (hwd.out _).mono ?_); rintro e wz ⟨rfl, hz⟩; have UZ := Up.trans (a := w1.drew) (by assumption) hz))
        | (go_at_call 139; ((with_reducible refine (hft.out _).mono ?_); rintro e wz ⟨rfl, hz⟩; have UZ := Up.trans (a := w1.drew) (by assumption) hz))
        | (go_at_call 138; ((with_reducible refine (hu.out _).mono ?_); rintro e wz ⟨rfl, rfl⟩)))
  all_goals
    go_wp2
    go_ret
    exact ⟨rfl, U2.trans (by assumption)⟩

/-- Are an object's words there? -/
theorem there_any (m : Me) (a t l mp : Int) (P Q : Addr) (c d : Nat) (w : World) (hn : m.n ≤ 4096) (ha : U64 a) (hm : 0 ≤ mp) (hh : rte t l mp = 0) :
    Calls Tryz.prog 113 #[.agg #[.int .i64 m.n, .slice (some P) m.n c, .slice (some Q) m.n d], .int .u64 a, hdv t l mp] w fun e w' => e = .returned (.int .i64 (unl (decide (m.inn a (wdn t l))) 2)) ∧ Up w w' := by
  rcases leads_or a ha with ⟨s, p, hl⟩ | hb
  · obtain ⟨e1, e2, e3⟩ := hl.is
    refine there_at m a s p t l mp P Q c d w hn ha hl hm hh _ ?_
    have := (wdn_small hm hh).1
    have := hl.2.1
    subst e2
    exact decide_eq_decide.2 ⟨fun h => ⟨e3, h.2.2⟩, fun h => ⟨by omega, by omega, h.2⟩⟩
  · rw [show decide (m.inn a (wdn t l)) = false from decide_eq_false (fun q => by have := q.1; rw [hb] at this; cases this)]
    exact there_no m a t l mp P Q c d w ha hb

set_option maxHeartbeats 1000000 in
theorem rthere5_any (m : Me) (a k : Int) (P Q : Addr) (c d : Nat) (w : World) (hn : m.n ≤ 4096) (ha : U64 a) (hk : 1 ≤ k) :
    Calls Tryz.prog 59 #[.agg #[.int .i64 m.n, .slice (some P) m.n c, .slice (some Q) m.n d], .int .u64 a, .int .i64 k] w fun e w' => e = .returned (.bool (decide (m.inn a k))) ∧ Up w w' := by
  have ht := fun w => rthere_any m a P Q c d w ha
  by_cases h : m.there a
  · rw [decide_eq_true h] at ht
    have ht := Lib.hid ht
    rcases leads_or a ha with ⟨s, p, hl⟩ | hb
    · obtain ⟨e1, e2, e3⟩ := hl.is
      have hw := Lib.hid (fun w => rwhere_yes a s p ha hl w)
      have p0 := hl.2.1
      have p1 : p < m.n := by have := h.2; omega
      generalize hB : decide (m.inn a k) = B
      have hd : decide (k ≤ (m.n : Int) - p) = B := by
        rw [← hB]
        subst e2
        exact decide_eq_decide.2 ⟨fun h => ⟨e3, by omega⟩, fun h => by have := h.2; omega⟩
      clear hB ha hl h e1 e2 e3 hk
      go_enter Tryz.func59, Tryz.ntmps59
      go_wp2_with (fail)
      refine (ht.out _).mono ?_
      rintro e w1 ⟨rfl, h1⟩
      have D1 := (Blk.new w 25 #[.int .i64 m.n, .slice (some P) m.n c, .slice (some Q) m.n d]).up h1
      have U1 : Up w w1 := ((Up.refl w).alloc _).trans h1
      clear h1
      have D1c := D1.cell
      go_wp2_with (fail)
      refine (hw.out _).mono ?_
      rintro e w2 ⟨rfl, rfl⟩
      go_wp2
      go_ret
      exact ⟨rfl, U1⟩
    · exact absurd h.1 (by rw [hb]; decide)
  · rw [decide_eq_false h] at ht
    have ht := Lib.hid ht
    rw [show decide (m.inn a k) = false from decide_eq_false (fun q => h ⟨q.1, by have := q.2; omega⟩)]
    clear h hk
    go_enter Tryz.func59, Tryz.ntmps59
    go_wp2_with (fail)
    refine (ht.out _).mono ?_
    rintro e w1 ⟨rfl, h1⟩
    have U1 : Up w w1 := ((Up.refl w).alloc _).trans h1
    go_wp2
    go_ret
    exact ⟨rfl, U1⟩

set_option maxHeartbeats 1000000 in
theorem rptr_any (t l m i : Int) (hm : 0 ≤ m) (hm1 : m ≤ 18446744073709551615) (h1 : l ≤ 62) (w : World) :
    Calls Tryz.prog 60 #[hdv t l m, .int .i64 i] w fun e w' => e = .returned (.bool (ptb l m i)) ∧ Up w w' := by
  have U := Lib.hid (Up.refl w)
  by_cases c0 : 0 ≤ i
  · by_cases c1 : i < l
    · have hp := pow_le i.toNat (by omega)
      have hpw := Lib.hid (fun w => rpow_at i c0 (by omega) w)
      have hd : 0 ≤ m / 2 ^ i.toNat ∧ m / 2 ^ i.toNat ≤ m := ⟨Int.ediv_nonneg hm (by omega), Int.ediv_le_self _ hm⟩
      have E : (m / 2 ^ i.toNat % 2 == 1) = ptb l m i := by
        unfold ptb
        rw [decide_eq_true c0, decide_eq_true c1]
        rfl
      obtain ⟨K, hK⟩ : ∃ K : Int, K = 2 ^ i.toNat := ⟨_, rfl⟩
      rw [← hK] at hp hpw hd E
      obtain ⟨p0, p1⟩ := hp
      obtain ⟨d0, d1⟩ := hd
      clear hK
      generalize ptb l m i = b at E
      have q1 : decide (l ≤ i) = false := decide_eq_false (by omega)
      go_enter Tryz.func60, Tryz.ntmps60
      go_wp2
      go_quiet ((go_at_call 62; exact quiet_same (hpw.out _)))
      go_wp2
      go_ret
      exact ⟨rfl, ((Up.refl _).alloc _).drewN _⟩
    · have E : ptb l m i = false := by unfold ptb; rw [decide_eq_false c1, Bool.false_and, Bool.and_false]
      rw [E]
      clear E
      have d1 : decide (l ≤ i) = true := decide_eq_true (by omega)
      go_enter Tryz.func60, Tryz.ntmps60
      go_wp2
      go_ret
      exact ⟨rfl, (Up.refl _).alloc _⟩
  · have E : ptb l m i = false := by unfold ptb; rw [decide_eq_false c0, Bool.false_and]
    rw [E]
    clear E
    go_enter Tryz.func60, Tryz.ntmps60
    go_wp2
    go_ret
    exact ⟨rfl, (Up.refl _).alloc _⟩


end Go.Proofs.YtddoljfkbkbfjaaGreat
