/- A deed's steps head and alloc (graph's object, deed: head, alloc): contracts. -/
import Derived.Test.YtlocllcijncllaaGi
namespace Go.Proofs.Ytlocllcijncllaa
open Go.Joins Go.ChangeShapes Go.WideShapes Go.ChangeAt Go.RowKit Go.Deep Go.Shelf Go.Maps
set_option linter.unusedVariables false
set_option linter.unusedSimpArgs false

/-- An object's head. -/
def okH (t l m : Int) : Bool := decide (rte t l m = 0) && decide (t ≠ 255)
theorem rte_len {t l m : Int} (h : rte t l m = 0) (ht : t ≠ 255) : 0 ≤ l ∧ l ≤ 16 := by
  unfold rte at h
  split at h
  · omega
  · split at h
    · omega
    · omega
theorem object_any (t l m : Int) (w : World) : Calls Try.prog 24 #[hdv t l m] w fun e w' => e = .returned (.bool (okH t l m)) ∧ Up w w' := by
  have hr := Lib.hid (fun (w : World) => right_any t l m w)
  unfold okH
  generalize rte t l m = x at *
  by_cases h : x = 0
  · subst h
    rw [decide_eq_true rfl, Bool.true_and]
    generalize hb : decide (t ≠ 255) = b
    have hb' : (t != 255) = b := by rw [← hb]; by_cases q : t = 255 <;> simp [q]
    clear hb
    go_enter Try.func24, Try.ntmps24
    go_wp2_with (fail)
    refine (hr.out _).mono ?_
    rintro e w1 ⟨rfl, hU⟩
    have hb1 := (Blk.new w 28 #[.int .i64 t, .int .i64 l, .int .u64 m]).up hU
    have hc1 := hb1.cell
    have hl1 := hb1.lt
    have HU := Lib.hid (((Up.refl w).alloc _).trans hU)
    clear hb1 hU hr
    go_wp2
    go_ret
    exact ⟨rfl, HU.out⟩
  · rw [decide_eq_false h, Bool.false_and]
    have hb' : (x == 0) = false := beq_eq_false_iff_ne.2 h
    clear h
    go_enter Try.func24, Try.ntmps24
    go_wp2_with (fail)
    refine (hr.out _).mono ?_
    rintro e w1 ⟨rfl, hU⟩
    have HU := Lib.hid (((Up.refl w).alloc _).trans hU)
    clear hU hr
    go_wp2
    go_ret
    exact ⟨rfl, HU.out⟩
theorem head_st (base D : Nat) (g : Gr) (th : Int) (o : Op) (s : Kn) (w : World) (hS : St base D w g th o s) :
    Calls Try.prog 60 #[.pointer (some ⟨D, 0, none⟩)] w (Sp base D (if okH o.t o.l o.m then 0 else 1) g th o s w) := by
  have HS := Lib.hid hS
  obtain ⟨vn, vs, us, us2, BF, GS, BS, hD, hO, hB⟩ := hS
  have hcD := hD.cell
  unfold dcs at hcD
  have hlD := hD.lt
  have ho := Lib.hid (fun (w : World) => object_any o.t o.l o.m w)
  have hu := Lib.hid (fun (w : World) => unless_up (okH o.t o.l o.m) 1 w)
  generalize (if okH o.t o.l o.m = true then (0 : Int) else 1) = x at *
  generalize okH o.t o.l o.m = b at *
  clear hD hO
  go_enter Try.func60, Try.ntmps60
  go_wp2_with (fail)
  refine (ho.out _).mono ?_
  rintro e w1 ⟨rfl, hU⟩
  go_wp2_with (fail)
  refine (hu.out _).mono ?_
  rintro e w2 ⟨rfl, hU2⟩
  go_wp2
  go_ret
  exact ⟨rfl, .of_up (hU.trans hU2), HS.out.up (hU.trans hU2)⟩
theorem make_words (n : Nat) (hn : n ≤ 16) (w : World) :
    (Instr.makeSlice 60 (.int .i64 (n : Int)) (.int .i64 (n : Int))).run Try.prog w = .ok (.slice (some ⟨w.heap.size, 0, none⟩) n n) (w.alloc (.cells (List.replicate n (Value.int .u64 0)).toArray 26)) := by
  have := run_make_row' (P := Try.prog) 60 26 (.int .u64 0) 8 Try.underlying60 (by kernel_rfl) rfl .i64 .i64 n (by omega) (by omega) w
  rw [show madeCells #[Value.int .u64 0] n = (List.replicate n (Value.int .u64 0)).toArray from by
    apply Array.ext
    · simp [size_madeCells]
    · intro i h1 h2
      simp [madeCells, Nat.mod_one]] at this
  exact this
def allocN (g : Gr) (o : Op) : Gr := (g.1 ++ [((o.t, o.l, o.m), List.replicate o.l.toNat 0)], g.2)
/-- A row of nodes of the call's own takes one more. -/
theorem step_node {W0 w : World} {ops : Array Oper} {o : Oper} {a : Act} {K : Act → World → Prop} {Q : Exit → Act → World → Prop} {F : Prop} (hgd : o.guard = none) (s x : Operand) (ho : o.op = .call { callee := .builtin .append, args := #[s, x], argTypes := #[22, 22] })
    (base n : Nat) (v : Value) (xs : List Value) (hs : a.eval s = v) (hx : w.ownsRow base 62 4 v n xs) (B c : Nat) (t l m u : Value) (hB : a.eval x = .slice (some ⟨B, 0, none⟩) 1 c) (hy : Blk w B 62 #[t, l, m, u]) (h1 : ∀ z ∈ [t, l, m, u], z.oneCell' = true) (hb : n ≤ 1048576) (hbase : base ≤ w.heap.size)
    (h : ∀ A' c' w', w'.ownsRow base 62 4 (.slice A' (n + 1) c') (n + 1) (xs ++ [t, l, m, u]) → w.grownBy w' v.ownBlock → K (a.put o.dst (.slice A' (n + 1) c')) w') : if Region.wanted o (yielded ops a.tmps) = true then Oper.wp Try.prog o a w K Q else F := by
  obtain ⟨v', w', hr, h2, h3, -⟩ := run_any el_node o.type base n v xs hx (some ⟨B, 0, none⟩) 1 c [t, l, m, u] rfl (rv_of_blk hy (fun j z hj => by simpa using hj)) h1 (by omega) hbase
  have hw : Region.wanted o (yielded ops a.tmps) = true := by simp [Region.wanted, hgd]
  rw [if_pos hw]
  obtain ⟨A', c', rfl⟩ := own_slice h2
  exact Lib.wp_append_run w s x 22 22 ho _ _ hs hB _ w' hr (h _ _ w' h2 h3)
end Go.Proofs.Ytlocllcijncllaa
