/- What is done with a room, one thing after the other, till one refuses (twin's row, a goto): contract of do, for whatever stands in the row. -/
import Derived.Test.YtgcpkgogjcgfbaaBf10
import Derived.ScopeJumps
import Derived.Deep.RegionHeld3
import Derived.Deep.RegionWith
namespace Go.Proofs.Ytgcpkgogjcgfbaa
open Go.ChangeShapes Go.WideShapes Go.ChangeAt Go.RowKit
set_option linter.unusedVariables false
set_option linter.unusedSimpArgs false

/-- A room, as it is handed on. -/
structure Rv where
  n : Nat
  P : Addr
  Q : Addr
  c : Nat
  d : Nat
  s : Int
  a : Int
  l : Int
  x : Int
  y : Int
abbrev Rv.v (r : Rv) : Value := .agg #[.int .i64 r.n, .slice (some r.P) r.n r.c, .slice (some r.Q) r.n r.d, .int .i64 r.s, .int .i64 r.a, .int .i64 r.l, .int .i64 r.x, .int .i64 r.y]
abbrev Rv.k (r : Rv) : Array Value := #[.int .i64 r.n, .slice (some r.P) r.n r.c, .slice (some r.Q) r.n r.d, .int .i64 r.s, .int .i64 r.a, .int .i64 r.l, .int .i64 r.x, .int .i64 r.y]

/-- A room's box. -/
def Rbox (w : World) (k : Nat) : Prop := ∃ cs : Array Value, cs.size = 8 ∧ Blk w k 31 cs
/-- The world has grown; what was there is as it was, but for rooms' boxes. -/
structure Kr (w w' : World) : Prop where
  os : w'.os = w.os
  tape : w'.tape = w.tape
  output : w'.output = w.output
  size : w.heap.size ≤ w'.heap.size
  block : ∀ k, k < w.heap.size → ¬ Rbox w k → w'.heap[k]? = w.heap[k]?
  box : ∀ k, Rbox w k → Rbox w' k
theorem Rbox.eq {a b : World} {k : Nat} (h : b.heap[k]? = a.heap[k]?) : Rbox b k ↔ Rbox a k := by
  unfold Rbox Blk
  rw [h]
theorem Rbox.lt {w : World} {k : Nat} (h : Rbox w k) : k < w.heap.size := by
  obtain ⟨cs, _, h⟩ := h
  exact h.lt
theorem Kr.of_up {a b : World} (h : Up a b) : Kr a b :=
  ⟨h.os, h.tape, h.output, h.size, fun k hk _ => h.block k hk, fun k hk => (Rbox.eq (h.block k hk.lt)).2 hk⟩
theorem Kr.refl (a : World) : Kr a a := .of_up (Up.refl a)
theorem Kr.trans {a b c : World} (h : Kr a b) (k : Kr b c) : Kr a c :=
  ⟨k.os.trans h.os, k.tape.trans h.tape, k.output.trans h.output, Nat.le_trans h.size k.size,
    fun i hi hn => (k.block i (Nat.lt_of_lt_of_le hi h.size) (fun q => hn ((Rbox.eq (h.block i hi hn)).1 q))).trans (h.block i hi hn), fun i hi => k.box i (h.box i hi)⟩
theorem Kr.up {a b c : World} (h : Kr a b) (k : Up b c) : Kr a c := h.trans (.of_up k)
theorem Kr.set1 {b : World} {g : Nat} {cs : Array Value} (hb : Blk b g 31 cs) (h8 : cs.size = 8) (i : Nat) (u : Value) : Kr b (b.setCell ⟨g, i, none⟩ u) := by
  refine ⟨rfl, rfl, rfl, by simp [World.setCell], fun k hk hn => ?_, fun k hk => ?_⟩
  · exact Below.heap_setCell b ⟨g, i, none⟩ u k (fun e => hn (by rw [e]; exact ⟨cs, h8, hb⟩))
  · by_cases e : k = g
    · subst e
      exact ⟨_, by simpa using h8, hb.set_ i u⟩
    · exact (Rbox.eq (Below.heap_setCell b ⟨g, i, none⟩ u k e)).2 hk
theorem Kr.set8 {b : World} {g : Nat} {a0 a1 a2 a3 a4 a5 a6 a7 : Value} (hb : Blk b g 31 #[a0, a1, a2, a3, a4, a5, a6, a7]) (u0 u1 u2 u3 u4 u5 u6 u7 : Value) :
    Kr b ((((((((b.setCell ⟨g, 0, none⟩ u0).setCell ⟨g, 1, none⟩ u1).setCell ⟨g, 2, none⟩ u2).setCell ⟨g, 3, none⟩ u3).setCell ⟨g, 4, none⟩ u4).setCell ⟨g, 5, none⟩ u5).setCell ⟨g, 6, none⟩ u6).setCell ⟨g, 7, none⟩ u7) := by
  have h1 : Blk (b.setCell ⟨g, 0, none⟩ u0) g 31 #[u0, a1, a2, a3, a4, a5, a6, a7] := hb.set_ 0 u0
  have h2 := h1.set_ 1 u1
  have h3 := h2.set_ 2 u2
  have h4 := h3.set_ 3 u3
  have h5 := h4.set_ 4 u4
  have h6 := h5.set_ 5 u5
  have h7 := h6.set_ 6 u6
  exact (((((((Kr.set1 hb rfl 0 u0).trans (Kr.set1 h1 rfl 1 u1)).trans (Kr.set1 h2 (by simp) 2 u2)).trans (Kr.set1 h3 (by simp) 3 u3)).trans (Kr.set1 h4 (by simp) 4 u4)).trans (Kr.set1 h5 (by simp) 5 u5)).trans (Kr.set1 h6 (by simp) 6 u6)).trans (Kr.set1 h7 (by simp) 7 u7)
theorem Blk.kr {w w' : World} {g : Nat} {t : TypeId} {cs : Array Value} (h : Blk w g t cs) (k : Kr w w') (ht : cs.size ≠ 8) : Blk w' g t cs := by
  refine (k.block g h.lt (fun ⟨ds, h8, q⟩ => ht ?_)).trans h
  have e := h.symm.trans q
  simp at e
  rw [e.1]
  exact h8
theorem Row.kr {w w' : World} {p : Addr} {xs : List Int} (h : Row w p xs) (k : Kr w w') (hl : 16 ≤ xs.length) : Row w' p xs := by
  refine ⟨Nat.lt_of_lt_of_le h.1 k.size, fun j x hx => ?_⟩
  have e := h.2 j x hx
  unfold World.cell? at e ⊢
  rw [block_of_add] at e ⊢
  rw [k.block p.block h.1 (fun ⟨cs, h8, q⟩ => h.apart q (by omega) rfl)]
  exact e
theorem Sits.kr {w w' : World} {m : Me} {p q : Addr} {c d : Nat} (h : Sits w m p q c d) (k : Kr w w') : Sits w' m p q c d := by
  obtain ⟨⟨h0, h1, h2, h3⟩, h4, h5, h6, h7, h8, h9⟩ := h
  exact ⟨⟨h0, h1, h2, h3⟩, h4, h5, h6, h7, h8.kr k (by omega), h9.kr k (by omega)⟩
/-- The world has grown; the blocks below n are as they were, but for those of S; and so are rooms' boxes. -/
structure Kz (S : List Nat) (n : Nat) (w w' : World) : Prop where
  os : w'.os = w.os
  tape : w'.tape = w.tape
  output : w'.output = w.output
  size : w.heap.size ≤ w'.heap.size
  block : ∀ k, k < w.heap.size → k ∉ S → k < n ∨ Rbox w k → w'.heap[k]? = w.heap[k]?
theorem Kz.of_kp {S : List Nat} {n : Nat} {a b : World} (h : Kp S a b) : Kz S n a b := ⟨h.os, h.tape, h.output, h.size, fun k hk hS _ => h.block k hk hS⟩
theorem Kz.of_up {S : List Nat} {n : Nat} {a b : World} (h : Up a b) : Kz S n a b := .of_kp (.of_up h)
theorem Kz.trans {S : List Nat} {n : Nat} {a b c : World} (h : Kz S n a b) (k : Kz S n b c) : Kz S n a c :=
  ⟨k.os.trans h.os, k.tape.trans h.tape, k.output.trans h.output, Nat.le_trans h.size k.size, fun i hi hS hr =>
    have e := h.block i hi hS hr
    (k.block i (Nat.lt_of_lt_of_le hi h.size) hS (hr.imp id (fun q => (Rbox.eq e).2 q))).trans e⟩
theorem Kz.up {S : List Nat} {n : Nat} {a b c : World} (h : Kz S n a b) (k : Up b c) : Kz S n a c := h.trans (.of_up k)
theorem Kz.own {S : List Nat} {n : Nat} {a b : World} (h : Kz S n a b) {g i : Nat} (hg : a.heap.size ≤ g) (u : Value) : Kz S n a (b.setCell ⟨g, i, none⟩ u) :=
  ⟨h.os, h.tape, h.output, by simpa [World.setCell] using h.size, fun k hk hS hr => (Below.heap_setCell b ⟨g, i, none⟩ u k (by simp only; omega)).trans (h.block k hk hS hr)⟩
theorem Kz.own8 {S : List Nat} {n : Nat} {a b : World} (h : Kz S n a b) {g : Nat} (hg : a.heap.size ≤ g) (u0 u1 u2 u3 u4 u5 u6 u7 : Value) :
    Kz S n a ((((((((b.setCell ⟨g, 0, none⟩ u0).setCell ⟨g, 1, none⟩ u1).setCell ⟨g, 2, none⟩ u2).setCell ⟨g, 3, none⟩ u3).setCell ⟨g, 4, none⟩ u4).setCell ⟨g, 5, none⟩ u5).setCell ⟨g, 6, none⟩ u6).setCell ⟨g, 7, none⟩ u7) :=
  (((((((h.own hg u0).own hg u1).own hg u2).own hg u3).own hg u4).own hg u5).own hg u6).own hg u7
theorem Kz.kp {S : List Nat} {n : Nat} {a b : World} (h : Kz S n a b) (hn : a.heap.size ≤ n) : Kp S a b := ⟨h.os, h.tape, h.output, h.size, fun k hk hS => h.block k hk hS (.inl (Nat.lt_of_lt_of_le hk hn))⟩
theorem Blk.kzl {S : List Nat} {n : Nat} {w w' : World} {g : Nat} {t : TypeId} {cs : Array Value} (h : Blk w g t cs) (k : Kz S n w w') (hg : g ∉ S) (hn : g < n) : Blk w' g t cs := (k.block g h.lt hg (.inl hn)).trans h
theorem Blk.kzr {S : List Nat} {n : Nat} {w w' : World} {g : Nat} {cs : Array Value} (h : Blk w g 31 cs) (k : Kz S n w w') (hg : g ∉ S) (h8 : cs.size = 8 := by rfl) : Blk w' g 31 cs := (k.block g h.lt hg (.inr ⟨cs, h8, h⟩)).trans h
theorem Kp.own {S : List Nat} {a b : World} (h : Kp S a b) {g i : Nat} (hg : a.heap.size ≤ g) (u : Value) : Kp S a (b.setCell ⟨g, i, none⟩ u) :=
  ⟨h.os, h.tape, h.output, by simpa [World.setCell] using h.size, fun k hk hS => (Below.heap_setCell b ⟨g, i, none⟩ u k (by simp only; omega)).trans (h.block k hk hS)⟩
theorem Kp.own8 {S : List Nat} {a b : World} (h : Kp S a b) {g : Nat} (hg : a.heap.size ≤ g) (u0 u1 u2 u3 u4 u5 u6 u7 : Value) :
    Kp S a ((((((((b.setCell ⟨g, 0, none⟩ u0).setCell ⟨g, 1, none⟩ u1).setCell ⟨g, 2, none⟩ u2).setCell ⟨g, 3, none⟩ u3).setCell ⟨g, 4, none⟩ u4).setCell ⟨g, 5, none⟩ u5).setCell ⟨g, 6, none⟩ u6).setCell ⟨g, 7, none⟩ u7) :=
  (((((((h.own hg u0).own hg u1).own hg u2).own hg u3).own hg u4).own hg u5).own hg u6).own hg u7
theorem Kp.of_trans_up {S : List Nat} {a b c : World} (h : Up a b) (k : Kp S b c) : Kp S a c := (Kp.of_up h).trans k

/-- What one step of a row leaves. -/
def StepR (S : List Nat) (n : Nat) (Φ : Rv → Int → World → Prop) (next : Rv → World → Prop) (r : Rv) (w : World) (e : Ending) (w' : World) : Prop :=
  ∃ (r' : Rv) (x : Int), e = .returned (.tuple #[r'.v, .int .i64 x]) ∧ Kz S n w w' ∧ (x ≠ 0 → ∀ w'', Kr w' w'' → Φ r x w'') ∧ (x = 0 → next r' w')
theorem StepR.opened {S : List Nat} {b : Nat} {Φ : Rv → Int → World → Prop} {next : Rv → World → Prop} {r : Rv} {w w' : World} {e : Ending} (h : StepR S b Φ next r w e w') :
    ∃ (n : Nat) (P Q : Addr) (c d : Nat) (s a l x y er : Int), e = .returned (.tuple #[.agg #[.int .i64 n, .slice (some P) n c, .slice (some Q) n d, .int .i64 s, .int .i64 a, .int .i64 l, .int .i64 x, .int .i64 y], .int .i64 er]) ∧ Kz S b w w' ∧ RowKit.Hid ((er ≠ 0 → ∀ w'', Kr w' w'' → Φ r er w'') ∧ (er = 0 → next ⟨n, P, Q, c, d, s, a, l, x, y⟩ w')) := by
  obtain ⟨⟨n, P, Q, c, d, s, a, l, x, y⟩, er, h1, h2, h3⟩ := h
  exact ⟨n, P, Q, c, d, s, a, l, x, y, er, h1, h2, Lib.hid h3⟩
/-- What stands in a row, done one after the other till one refuses, comes to Φ; but for the blocks of S all is as it was. -/
def RunR (S : List Nat) (n : Nat) (Φ : Rv → Int → World → Prop) : List Clo → Rv → World → Prop
  | [], r, w => ∀ w', Kr w w' → Φ r 0 w'
  | c :: cs, r, w => (∀ args w, (callFunc c.1 args).run Try.prog w = .ok (.enter c.1 args) w) ∧ ∀ w0, Kr w w0 → Calls Try.prog c.1 (#[r.v] ++ c.2) w0 (StepR S n Φ (RunR S n Φ cs) r w0)
theorem RunR.kr {S : List Nat} {n : Nat} {Φ : Rv → Int → World → Prop} {cs : List Clo} {r : Rv} {w w' : World} (h : RunR S n Φ cs r w) (k : Kr w w') : RunR S n Φ cs r w' := by
  cases cs with
  | nil => exact fun w'' q => h w'' (k.trans q)
  | cons c cs => exact ⟨h.1, fun w'' q => h.2 w'' (k.trans q)⟩
def RunRPost (S : List Nat) (Φ : Rv → Int → World → Prop) (w : World) (e : Ending) (w' : World) : Prop := ∃ (r : Rv) (x : Int), e = .returned (.tuple #[r.v, .int .i64 x]) ∧ Kp S w w' ∧ Φ r x w'

theorem ret_rv {fn : Func} {p u : Tmp} (h : fn.results = #[.cell p 31, .tmp u]) (tmps : Array Value) (w : World) (g : Nat) (r : Rv) (e : Value)
    (hp : tmps.getD p undef = .pointer (some ⟨g, 0, none⟩)) (hg : Blk w g 31 r.k) (he : tmps.getD u undef = e) :
    (results fn tmps).run Try.prog w = .ok (.tuple #[r.v, e]) w := by
  have hp' : tmps[p]?.getD undef = .pointer (some ⟨g, 0, none⟩) := by simpa using hp
  have he' : tmps[u]?.getD undef = e := by simpa using he
  simp [results, h, hp', he', asAddr, run_loadVar_row w g 31 31 _ _ _ hg Try.underlying31 rfl (by kernel_rfl)]

set_option maxRecDepth 100000 in
set_option maxHeartbeats 2000000 in
theorem rdo_nil (S : List Nat) (b : Nat) (Φ : Rv → Int → World → Prop) (r : Rv) (w : World) (hr : RunR S b Φ [] r w) :
    Calls Try.prog 94 #[.slice none 0 0, r.v] w (RunRPost S Φ w) := by
  have HR := Lib.hid hr
  clear hr
  go_enter Try.func94, Try.ntmps94
  go_wp2
  refine wp_scope_jumps 0 (fun _ _ => False) (fun a' _ => 0) rfl ?_ (fun _ _ hf => hf.elim)
  go_wp2_with (fail)
  go_step3
  go_wp2_with (fail)
  simp only [Exit.jump]
  refine bodyPost_ret (ret_rv rfl _ _ _ r _ rfl (Blk.new' _ (by simp) 31 r.k) rfl) rfl ?_
  have U := ((Up.refl w).alloc (.cells r.k 31)).alloc (.cells r.k 31)
  exact ⟨r, 0, rfl, .of_up U, HR.out _ (.of_up U)⟩

/-- What stands in the row. -/
def RowF (w : World) (g : Nat) (cs : List Clo) : Prop := ∃ cur : Array Value, Blk w g 122 cur ∧ cur.toList.take cs.length = cs.map fnv
theorem RowF.kz {S : List Nat} {n : Nat} {w w' : World} {g : Nat} {cs : List Clo} (h : RowF w g cs) (k : Kz S n w w') (hg : g ∉ S) (hn : g < n) : RowF w' g cs := by
  obtain ⟨cur, h1, h2⟩ := h
  exact ⟨cur, h1.kzl k hg hn, h2⟩
theorem RowF.lt {w : World} {g : Nat} {cs : List Clo} (h : RowF w g cs) : g < w.heap.size := by
  obtain ⟨cur, h1, h2⟩ := h
  exact h1.lt
theorem rowf_at {w : World} {g : Nat} {cs : List Clo} (h : RowF w g cs) (j : Nat) (hj : j < cs.length) : w.cell? ⟨g, j, none⟩ = some (fnv cs[j]) := by
  obtain ⟨cur, h1, h2⟩ := h
  rw [h1.cell j]
  have e : (cur.toList.take cs.length)[j]? = some (fnv cs[j]) := by rw [h2]; simp [hj]
  rw [List.getElem?_take_of_lt hj] at e
  simpa using e
theorem rowf_at' {w : World} {g : Nat} {cs : List Clo} (h : RowF w g cs) (j : Nat) (hj : j < cs.length) {f : FuncId} {caps : Array Value} (e : cs[j] = (f, caps)) : w.cell? ⟨g, j, none⟩ = some (.func (.func f) #[] caps) := by
  rw [rowf_at h j hj, e]
  rfl
abbrev zr : Array Value := #[.int .i64 0, .slice none 0 0, .slice none 0 0, .int .i64 0, .int .i64 0, .int .i64 0, .int .i64 0, .int .i64 0]
/-- What holds at the label. -/
def AtNextR (S : List Nat) (Φ : Rv → Int → World → Prop) (cs : List Clo) (g cap B : Nat) (v1 : Value) (w : World) (a' : Act) (w' : World) : Prop :=
  ∃ (j : Nat) (r : Rv) (u2 u7 u8 u9 u10 u11 u12 u13 u14 u15 u16 u17 u18 u19 u20 u21 u22 u23 u24 u25 u26 u27 u28 u29 : Value),
    a' = { tmps := #[.slice (some ⟨g, 0, none⟩) cs.length cap, v1, u2, bx B, bx (B + 1), .int .i64 0, .int .i64 j, u7, u8, u9, u10, u11, u12, u13, u14, u15, u16, u17, u18, u19, u20, u21, u22, u23, u24, u25, u26, u27, u28, u29], defers := [] }
      ∧ j ≤ cs.length ∧ Kz S w.heap.size w w' ∧ Blk w' B 31 r.k ∧ Blk w' (B + 1) 31 zr ∧ RunR S w.heap.size Φ (cs.drop j) r w'

theorem gen_exit {R : Exit → Act → World → Prop} {Y : World → Prop} {e : Exit} {a : Act} {X : World} (y : Y X) (h : ∀ W, Y W → R e a W) : R e a X := h X y
theorem Blk.far8 {b : World} {g h : Nat} {t : TypeId} {cs : Array Value} (hb : Blk b g t cs) (hne : g ≠ h) (u0 u1 u2 u3 u4 u5 u6 u7 : Value) :
    Blk ((((((((b.setCell ⟨h, 0, none⟩ u0).setCell ⟨h, 1, none⟩ u1).setCell ⟨h, 2, none⟩ u2).setCell ⟨h, 3, none⟩ u3).setCell ⟨h, 4, none⟩ u4).setCell ⟨h, 5, none⟩ u5).setCell ⟨h, 6, none⟩ u6).setCell ⟨h, 7, none⟩ u7) g t cs := by
  have key : ∀ (W : World) (i : Nat) (u : Value), Blk W g t cs → Blk (W.setCell ⟨h, i, none⟩ u) g t cs := fun W i u k => (Below.heap_setCell W ⟨h, i, none⟩ u g hne).trans k
  exact key _ _ _ (key _ _ _ (key _ _ _ (key _ _ _ (key _ _ _ (key _ _ _ (key _ _ _ (key _ _ _ hb)))))))
set_option maxRecDepth 100000 in
set_option maxHeartbeats 4000000 in
theorem rdo_any (S : List Nat) (Φ : Rv → Int → World → Prop) (cs : List Clo) (g cap : Nat) (r : Rv) (w : World) (hl : cs.length ≤ 1000) (hcap : cs.length ≤ cap) (hg : g ∉ S) (hS : ∀ x ∈ S, x < w.heap.size) (hb : RowF w g cs) (hr : RunR S w.heap.size Φ cs r w) :
    Calls Try.prog 94 #[.slice (some ⟨g, 0, none⟩) cs.length cap, r.v] w (RunRPost S Φ w) := by
  obtain ⟨n, P, Q, c, d, s, a, l, x, y⟩ := r
  go_enter Try.func94, Try.ntmps94
  have hgl := hb.lt
  have HB := Lib.hid hb
  have HR := Lib.hid hr
  clear hb hr
  go_wp2
  refine wp_scope_jumps 0 (AtNextR S Φ cs g cap w.heap.size (Rv.v ⟨n, P, Q, c, d, s, a, l, x, y⟩) w) (fun a' _ => cs.length - (intOf (a'.tmps.getD 6 undef)).toNat) rfl ?_ ?_
  · obtain ⟨w1, hW⟩ : ∃ W, W = (w.alloc (.cells (Rv.k ⟨n, P, Q, c, d, s, a, l, x, y⟩) 31)).alloc (.cells zr 31) := ⟨_, rfl⟩
    have hk : Kz S w.heap.size w w1 := by rw [hW]; exact .of_up (((Up.refl w).alloc _).alloc _)
    have hB : Blk w1 w.heap.size 31 (Rv.k ⟨n, P, Q, c, d, s, a, l, x, y⟩) := by rw [hW]; exact (Blk.new' w rfl _ _).alloc _
    have hE : Blk w1 (w.heap.size + 1) 31 zr := by rw [hW]; exact Blk.new' _ (by simp) _ _
    have hr : RunR S w.heap.size Φ cs ⟨n, P, Q, c, d, s, a, l, x, y⟩ w1 := by rw [hW]; exact HR.out.kr (.of_up (((Up.refl w).alloc _).alloc _))
    simp only [Rv.k, zr] at hW hB hE
    rw [← hW]
    clear hW HR
    rw [show cs = cs.drop 0 from rfl] at hr
    go_wp2_with (fail)
    go_step3
    by_cases h0 : 0 < cs.length
    · rw [List.drop_eq_getElem_cons h0] at hr
      have hcell := rowf_at (HB.out.kz hk hg hgl) 0 h0
      have nB : w.heap.size ∉ S := fun q => by have := hS _ q; omega
      have nE : w.heap.size + 1 ∉ S := fun q => by have := hS _ q; omega
      obtain ⟨⟨f, caps⟩, hc⟩ : ∃ c, cs[0] = c := ⟨_, rfl⟩
      have hC := hc
      rw [hc] at hr hcell
      have HC := Lib.hid (fun (V : World) (hV : Kr w1 V) => hr.2 V hV)
      have hent := hr.1
      clear hc hr
      simp only [fnv] at hcell HC hent
      simp only [Rv.v] at HC
      have hne : (0 == cs.length) = false := beq_eq_false_iff_ne.mpr (by omega)
      have Bc := hB.cell
      have Ec := hE.cell
      have V0 : Kz S w.heap.size w1 w1.drew := Kz.of_up (Up.refl w1).drew
      have V1 : Kz S w.heap.size w1 (w1.alloc (.cells zr 31)).drew := Kz.of_up ((Up.refl w1).alloc _).drew
      have R0 : Kr w1 w1.drew := Kr.of_up (Up.refl w1).drew
      have R1 : Kr w1 (w1.alloc (.cells zr 31)).drew := Kr.of_up ((Up.refl w1).alloc _).drew
      have hold : ∀ V : World, Kz S w.heap.size w1 V → V.cell? ⟨g, 0, none⟩ = some (.func (.func f) #[] caps) ∧ (∀ i, V.cell? ⟨w.heap.size, i, none⟩ = (#[.int .i64 n, .slice (some P) n c, .slice (some Q) n d, .int .i64 s, .int .i64 a, .int .i64 l, .int .i64 x, .int .i64 y] : Array Value)[i]?) := fun V hV => ⟨rowf_at' (RowF.kz (HB.out.kz hk hg hgl) hV hg hgl) 0 h0 hC, fun i => (hB.kzr hV nB).cell i⟩
      have nn : w1.heap.size ∉ S := fun q => by have := hS _ q; have := hB.lt; omega
      clear hC
      replace hold := Lib.hid hold
      go_wp2_with (fail)
      go_region_held3 (fun w' => w'.cell? ⟨g, 0, none⟩ = some (.func (.func f) #[] caps) ∧ (∀ i, w'.cell? ⟨w.heap.size, i, none⟩ = (#[.int .i64 n, .slice (some P) n c, .slice (some Q) n d, .int .i64 s, .int .i64 a, .int .i64 l, .int .i64 x, .int .i64 y] : Array Value)[i]?))
        (first
          | with_reducible exact hold.out _ V0
          | with_reducible exact hold.out _ V1
          | with_reducible exact hold.out _ KZ
          | with_reducible exact hold.out _ (Kz.up KZ (Up.alloc (Up.refl wz) _))
          | with_reducible exact hold.out _ (Kz.own8 KZ (Nat.le_refl w1.heap.size) _ _ _ _ _ _ _ _))
        (first
          | ((with_reducible refine (HC.out w1.drew R0).mono ?_); (rintro e wz hs; obtain ⟨n', P', Q', c', d', s', a', l', x', y', er, rfl, hkz, hx⟩ := hs.opened); have KZ := Kz.trans V0 hkz)
          | ((with_reducible refine (HC.out (World.drew (w1.alloc _)) R1).mono ?_); (rintro e wz hs; obtain ⟨n', P', Q', c', d', s', a', l', x', y', er, rfl, hkz, hx⟩ := hs.opened); have KZ := Kz.trans V1 hkz; have NZ := (Blk.new w1 31 zr).drew.kzr hkz nn; have NZc := NZ.cell; have NZf := NZ.frozen; have NZl := NZ.lt))
      all_goals
        first
          | with_reducible refine gen_exit (Y := fun W2 => Kz S w.heap.size w1 W2 ∧ Kr wz W2 ∧ Blk W2 wz.heap.size 31 #[.int .i64 n', .slice (some P') n' c', .slice (some Q') n' d', .int .i64 s', .int .i64 a', .int .i64 l', .int .i64 x', .int .i64 y']) ⟨KZ.up (Up.alloc (Up.refl wz) _), Kr.of_up (Up.alloc (Up.refl wz) _), Blk.new wz _ _⟩ ?_
          | with_reducible refine gen_exit (Y := fun W2 => Kz S w.heap.size w1 W2 ∧ Kr wz W2 ∧ Blk W2 w1.heap.size 31 #[.int .i64 n', .slice (some P') n' c', .slice (some Q') n' d', .int .i64 s', .int .i64 a', .int .i64 l', .int .i64 x', .int .i64 y']) ⟨KZ.own8 (Nat.le_refl _) _ _ _ _ _ _ _ _, Kr.set8 NZ _ _ _ _ _ _ _ _, NZ.set8 _ _ _ _ _ _ _ _⟩ ?_
        rintro W2 ⟨K2, Z2, N2⟩
        (try clear NZc NZf NZl NZ)
        first
          | generalize wz.heap.size = G at N2 ⊢
          | generalize w1.heap.size = G at N2 ⊢
        have B2 := hB.kzr K2 nB
        have E2 := hE.kzr K2 nE
        have hk2 := hk.trans K2
        rename_i hHeld
        clear hHeld Bc Ec hold HC hcell hent
        have N2c := N2.cell
        have B2c := B2.cell
        have B2f := B2.frozen
        have B2l := B2.lt
        have E2f := E2.frozen
        have E2l := E2.lt
        have E2c := E2.cell
        by_cases e : er = 0
        · subst e
          have HN := Lib.hid (hx.out.2 rfl)
          clear hx
          go_wp2_with (fail)
          go_step3
          refine ⟨rfl, ⟨1, ⟨n', P', Q', c', d', s', a', l', x', y'⟩, _, _, _, _, _, _, _, _, _, _, _, _, _, _, _, _, _, _, _, _, _, _, _, _, rfl, by omega, hk2.own8 (Nat.le_refl _) _ _ _ _ _ _ _ _, B2.set8 _ _ _ _ _ _ _ _, E2.far8 (by omega) _ _ _ _ _ _ _ _, HN.out.kr (Z2.trans (Kr.set8 B2 _ _ _ _ _ _ _ _))⟩⟩
        · have HX := Lib.hid (hx.out.1 e)
          have hb : (er != 0) = true := bne_iff_ne.mpr e
          clear hx e
          go_wp2_with (fail)
          simp only [Exit.jump]
          refine bodyPost_ret (ret_rv rfl _ _ _ ⟨n, P, Q, c, d, s, a, l, x, y⟩ _ rfl (E2.set8 (.int .i64 n) (.slice (some P) n c) (.slice (some Q) n d) (.int .i64 s) (.int .i64 a) (.int .i64 l) (.int .i64 x) (.int .i64 y)) rfl) rfl ?_
          exact ⟨⟨n, P, Q, c, d, s, a, l, x, y⟩, er, rfl, (hk2.own8 (by omega) _ _ _ _ _ _ _ _).kp (Nat.le_refl _), HX.out _ (Z2.trans (Kr.set8 E2 _ _ _ _ _ _ _ _))⟩
    · obtain rfl : cs = [] := List.eq_nil_of_length_eq_zero (by omega)

      have HR2 := Lib.hid hr
      have Bc := hB.cell
      have Ec := hE.cell
      have Ef := hE.frozen
      have El := hE.lt
      clear hr
      go_wp2_with (fail)
      simp only [Exit.jump]
      refine bodyPost_ret (ret_rv rfl _ _ _ ⟨n, P, Q, c, d, s, a, l, x, y⟩ _ rfl (hE.set8 (.int .i64 n) (.slice (some P) n c) (.slice (some Q) n d) (.int .i64 s) (.int .i64 a) (.int .i64 l) (.int .i64 x) (.int .i64 y)) rfl) rfl ?_
      exact ⟨⟨n, P, Q, c, d, s, a, l, x, y⟩, 0, rfl, (hk.own8 (by omega) _ _ _ _ _ _ _ _).kp (Nat.le_refl _), HR2.out _ (Kr.set8 hE _ _ _ _ _ _ _ _)⟩

  · rintro a' w1 ⟨j, r, u2, u7, u8, u9, u10, u11, u12, u13, u14, u15, u16, u17, u18, u19, u20, u21, u22, u23, u24, u25, u26, u27, u28, u29, rfl, hj, hk, hB, hE, hr⟩
    obtain ⟨n, P, Q, c, d, s, a, l, x, y⟩ := r
    simp only [Rv.k, zr] at hB hE
    by_cases h0 : j < cs.length
    · rw [List.drop_eq_getElem_cons h0] at hr
      have hcell := rowf_at (HB.out.kz hk hg hgl) j h0
      have nB : w.heap.size ∉ S := fun q => by have := hS _ q; omega
      have nE : w.heap.size + 1 ∉ S := fun q => by have := hS _ q; omega
      obtain ⟨⟨f, caps⟩, hc⟩ : ∃ c, cs[j] = c := ⟨_, rfl⟩
      have hC := hc
      rw [hc] at hr hcell
      have HC := Lib.hid (fun (V : World) (hV : Kr w1 V) => hr.2 V hV)
      have hent := hr.1
      clear hc hr
      simp only [fnv] at hcell HC hent
      simp only [Rv.v] at HC
      have hne : (j == cs.length) = false := beq_eq_false_iff_ne.mpr (by omega)
      have Bc := hB.cell
      have Ec := hE.cell
      have V0 : Kz S w.heap.size w1 w1.drew := Kz.of_up (Up.refl w1).drew
      have V1 : Kz S w.heap.size w1 (w1.alloc (.cells zr 31)).drew := Kz.of_up ((Up.refl w1).alloc _).drew
      have R0 : Kr w1 w1.drew := Kr.of_up (Up.refl w1).drew
      have R1 : Kr w1 (w1.alloc (.cells zr 31)).drew := Kr.of_up ((Up.refl w1).alloc _).drew
      have hold : ∀ V : World, Kz S w.heap.size w1 V → V.cell? ⟨g, j, none⟩ = some (.func (.func f) #[] caps) ∧ (∀ i, V.cell? ⟨w.heap.size, i, none⟩ = (#[.int .i64 n, .slice (some P) n c, .slice (some Q) n d, .int .i64 s, .int .i64 a, .int .i64 l, .int .i64 x, .int .i64 y] : Array Value)[i]?) := fun V hV => ⟨rowf_at' (RowF.kz (HB.out.kz hk hg hgl) hV hg hgl) j h0 hC, fun i => (hB.kzr hV nB).cell i⟩
      have nn : w1.heap.size ∉ S := fun q => by have := hS _ q; have := hB.lt; omega
      clear hC
      replace hold := Lib.hid hold
      go_wp2_with (fail)
      go_region_held3 (fun w' => w'.cell? ⟨g, j, none⟩ = some (.func (.func f) #[] caps) ∧ (∀ i, w'.cell? ⟨w.heap.size, i, none⟩ = (#[.int .i64 n, .slice (some P) n c, .slice (some Q) n d, .int .i64 s, .int .i64 a, .int .i64 l, .int .i64 x, .int .i64 y] : Array Value)[i]?))
        (first
          | with_reducible exact hold.out _ V0
          | with_reducible exact hold.out _ V1
          | with_reducible exact hold.out _ KZ
          | with_reducible exact hold.out _ (Kz.up KZ (Up.alloc (Up.refl wz) _))
          | with_reducible exact hold.out _ (Kz.own8 KZ (Nat.le_refl w1.heap.size) _ _ _ _ _ _ _ _))
        (first
          | ((with_reducible refine (HC.out w1.drew R0).mono ?_); (rintro e wz hs; obtain ⟨n', P', Q', c', d', s', a', l', x', y', er, rfl, hkz, hx⟩ := hs.opened); have KZ := Kz.trans V0 hkz)
          | ((with_reducible refine (HC.out (World.drew (w1.alloc _)) R1).mono ?_); (rintro e wz hs; obtain ⟨n', P', Q', c', d', s', a', l', x', y', er, rfl, hkz, hx⟩ := hs.opened); have KZ := Kz.trans V1 hkz; have NZ := (Blk.new w1 31 zr).drew.kzr hkz nn; have NZc := NZ.cell; have NZf := NZ.frozen; have NZl := NZ.lt))
      all_goals
        first
          | with_reducible refine gen_exit (Y := fun W2 => Kz S w.heap.size w1 W2 ∧ Kr wz W2 ∧ Blk W2 wz.heap.size 31 #[.int .i64 n', .slice (some P') n' c', .slice (some Q') n' d', .int .i64 s', .int .i64 a', .int .i64 l', .int .i64 x', .int .i64 y']) ⟨KZ.up (Up.alloc (Up.refl wz) _), Kr.of_up (Up.alloc (Up.refl wz) _), Blk.new wz _ _⟩ ?_
          | with_reducible refine gen_exit (Y := fun W2 => Kz S w.heap.size w1 W2 ∧ Kr wz W2 ∧ Blk W2 w1.heap.size 31 #[.int .i64 n', .slice (some P') n' c', .slice (some Q') n' d', .int .i64 s', .int .i64 a', .int .i64 l', .int .i64 x', .int .i64 y']) ⟨KZ.own8 (Nat.le_refl _) _ _ _ _ _ _ _ _, Kr.set8 NZ _ _ _ _ _ _ _ _, NZ.set8 _ _ _ _ _ _ _ _⟩ ?_
        rintro W2 ⟨K2, Z2, N2⟩
        (try clear NZc NZf NZl NZ)
        first
          | generalize wz.heap.size = G at N2 ⊢
          | generalize w1.heap.size = G at N2 ⊢
        have B2 := hB.kzr K2 nB
        have E2 := hE.kzr K2 nE
        have hk2 := hk.trans K2
        rename_i hHeld
        clear hHeld Bc Ec hold HC hcell hent
        have N2c := N2.cell
        have B2c := B2.cell
        have B2f := B2.frozen
        have B2l := B2.lt
        have E2f := E2.frozen
        have E2l := E2.lt
        have E2c := E2.cell
        by_cases e : er = 0
        · subst e
          have HN := Lib.hid (hx.out.2 rfl)
          clear hx
          go_wp2_with (fail)
          go_step3
          refine ⟨rfl, ⟨j + 1, ⟨n', P', Q', c', d', s', a', l', x', y'⟩, _, _, _, _, _, _, _, _, _, _, _, _, _, _, _, _, _, _, _, _, _, _, _, _, rfl, by omega, hk2.own8 (Nat.le_refl _) _ _ _ _ _ _ _ _, B2.set8 _ _ _ _ _ _ _ _, E2.far8 (by omega) _ _ _ _ _ _ _ _, HN.out.kr (Z2.trans (Kr.set8 B2 _ _ _ _ _ _ _ _))⟩, by simp [intOf]; omega⟩
        · have HX := Lib.hid (hx.out.1 e)
          have hb : (er != 0) = true := bne_iff_ne.mpr e
          clear hx e
          go_wp2_with (fail)
          simp only [Exit.jump]
          refine bodyPost_ret (ret_rv rfl _ _ _ ⟨n, P, Q, c, d, s, a, l, x, y⟩ _ rfl (E2.set8 (.int .i64 n) (.slice (some P) n c) (.slice (some Q) n d) (.int .i64 s) (.int .i64 a) (.int .i64 l) (.int .i64 x) (.int .i64 y)) rfl) rfl ?_
          exact ⟨⟨n, P, Q, c, d, s, a, l, x, y⟩, er, rfl, (hk2.own8 (by omega) _ _ _ _ _ _ _ _).kp (Nat.le_refl _), HX.out _ (Z2.trans (Kr.set8 E2 _ _ _ _ _ _ _ _))⟩
    · obtain rfl : j = cs.length := by omega
      rw [List.drop_length] at hr
      have HR2 := Lib.hid hr
      have Bc := hB.cell
      have Ec := hE.cell
      have Ef := hE.frozen
      have El := hE.lt
      clear hr
      go_wp2_with (fail)
      simp only [Exit.jump]
      refine bodyPost_ret (ret_rv rfl _ _ _ ⟨n, P, Q, c, d, s, a, l, x, y⟩ _ rfl (hE.set8 (.int .i64 n) (.slice (some P) n c) (.slice (some Q) n d) (.int .i64 s) (.int .i64 a) (.int .i64 l) (.int .i64 x) (.int .i64 y)) rfl) rfl ?_
      exact ⟨⟨n, P, Q, c, d, s, a, l, x, y⟩, 0, rfl, (hk.own8 (by omega) _ _ _ _ _ _ _ _).kp (Nat.le_refl _), HR2.out _ (Kr.set8 hE _ _ _ _ _ _ _ _)⟩

end Go.Proofs.Ytgcpkgogjcgfbaa
