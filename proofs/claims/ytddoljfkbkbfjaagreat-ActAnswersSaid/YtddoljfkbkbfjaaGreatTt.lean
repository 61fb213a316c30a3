/- What act does, plainly; kinds looked up; a step's operation written: facts for its contract. -/
import Derived.Test.YtddoljfkbkbfjaaGreatTp
import Derived.Test.YtddoljfkbkbfjaaGreatTs
namespace Go.Proofs.YtddoljfkbkbfjaaGreat.T
open G
open Go.Joins Go.ChangeShapes Go.WideShapes Go.ChangeAt Go.RowKit Go.Deep Go.Shelf Go.Maps
set_option linter.unusedVariables false
set_option linter.unusedSimpArgs false

theorem zeroR (w : World) : (zeroValue 110).run Tryz.prog w = .ok (.slice none 0 0) w := by kernel_rfl
theorem lookup_got {w : World} {M n : Nat} {D : DataW Value} {kd : Int} {v : Option Value} (h : OwnF w M n D) (hg : got D kd v) (hi : I64 kd) : ∃ u, (Instr.lookup 112 (.map (some M)) (.int .i64 kd) true).run Tryz.prog w = .ok (.tuple #[u, .bool v.isSome]) w ∧ ∀ x, v = some x → u = x := by
  obtain ⟨u, ps, h1, h2⟩ := h.look_ok lawI Tryz.underlying112 (zeroR w) (zd := .held (.slice none 0 0)) (zp := []) rfl (key_i hi)
  rw [hg.1] at h1
  refine ⟨u, h1, fun x e => ?_⟩
  have := hg.2 x e (.held (.slice none 0 0))
  rw [this] at h2
  simp only [RF, Option.some.injEq, Prod.mk.injEq, DataW.held.injEq] at h2
  exact h2.1
theorem look_none {w : World} {M n D B : Nat} {Dm : DataW Value} {kd : Int} (h : OwnF w M n Dm) (hi : I64 kd) (hk : ∀ kd, ∃ v, got Dm kd v ∧ Kat w D B kd v) (hn : krow D B kd = none) : ∃ u, (Instr.lookup 112 (.map (some M)) (.int .i64 kd) true).run Tryz.prog w = .ok (.tuple #[u, .bool false]) w := by
  obtain ⟨v, h1, h2⟩ := hk kd
  obtain ⟨u, h3, -⟩ := lookup_got h h1 hi
  unfold Kat at h2
  rw [hn] at h2
  subst h2
  exact ⟨u, h3⟩
theorem look_some {w : World} {M n D B : Nat} {Dm : DataW Value} {kd : Int} {cs : List Clo3} (h : OwnF w M n Dm) (hi : I64 kd) (hk : ∀ kd, ∃ v, got Dm kd v ∧ Kat w D B kd v) (hn : krow D B kd = some cs) : ∃ G, (Instr.lookup 112 (.map (some M)) (.int .i64 kd) true).run Tryz.prog w = .ok (.tuple #[.slice (some ⟨G, 0, none⟩) cs.length cs.length, .bool true]) w ∧ Blk w G 114 (cs.map cv3).toArray := by
  obtain ⟨v, h1, h2⟩ := hk kd
  obtain ⟨u, h3, h4⟩ := lookup_got h h1 hi
  unfold Kat at h2
  rw [hn] at h2
  obtain ⟨G, rfl, h5⟩ := h2
  obtain rfl := h4 _ rfl
  exact ⟨G, h3, h5⟩
section
variable {base D T : Nat} {S3 : List Nat} {h : Hp} {j : Nat} {o o0 : Op} {s : Ks} {w wz : World} {t : Th}
/-- The step's operation is another one. -/
theorem St.op (hS : St base D T S3 h j o0 s w) (k : Up w wz) (o : Op) :
    Kp [D, T] w ((((((((wz.setCell ⟨D, 19, none⟩ (.int .i64 o.kd)).setCell ⟨D, 20, none⟩ (.int .i64 o.h)).setCell ⟨D, 21, none⟩ (.int .i64 o.i)).setCell ⟨D, 22, none⟩ (.int .i64 o.k)).setCell ⟨D, 23, none⟩ (.int .u64 o.v)).setCell ⟨D, 24, none⟩ (.int .i64 o.t)).setCell ⟨D, 25, none⟩ (.int .i64 o.l)).setCell ⟨D, 26, none⟩ (.int .u64 o.m)) ∧
    St base D T S3 h j o s ((((((((wz.setCell ⟨D, 19, none⟩ (.int .i64 o.kd)).setCell ⟨D, 20, none⟩ (.int .i64 o.h)).setCell ⟨D, 21, none⟩ (.int .i64 o.i)).setCell ⟨D, 22, none⟩ (.int .i64 o.k)).setCell ⟨D, 23, none⟩ (.int .u64 o.v)).setCell ⟨D, 24, none⟩ (.int .i64 o.t)).setCell ⟨D, 25, none⟩ (.int .i64 o.l)).setCell ⟨D, 26, none⟩ (.int .u64 o.m)) := by
  obtain ⟨us, P, Q, c, d, A, co, cT, hD, hT, h1, h2, h3, h4, hR⟩ := hS
  have hne : D ≠ T := (hD.ne_type hT (by decide))
  have hn : ∀ i, T ≠ (⟨D, i, none⟩ : Addr).block := fun i e => hne e.symm
  have K0 : Kp [D, T] w wz := Kp.of_up k
  have D0 := hD.up k
  have T0 := hT.up k
  have K1 := K0.set_ (g := D) (i := 19) (by simp) (.int .i64 o.kd)
  have D1 : Blk (_ : World) D 78 (stc h P Q c d (.slice (some ⟨T, 0, none⟩) us.length cT) (.slice A h.od.length co) j ⟨T, j * 8, none⟩ ⟨o.kd, o0.h, o0.i, o0.k, o0.v, o0.t, o0.l, o0.m⟩ s) := D0.set_ 19 (.int .i64 o.kd)
  have T1 := T0.far (hn 19) (.int .i64 o.kd)
  have K2 := K1.set_ (g := D) (i := 20) (by simp) (.int .i64 o.h)
  have D2 : Blk (_ : World) D 78 (stc h P Q c d (.slice (some ⟨T, 0, none⟩) us.length cT) (.slice A h.od.length co) j ⟨T, j * 8, none⟩ ⟨o.kd, o.h, o0.i, o0.k, o0.v, o0.t, o0.l, o0.m⟩ s) := D1.set_ 20 (.int .i64 o.h)
  have T2 := T1.far (hn 20) (.int .i64 o.h)
  have K3 := K2.set_ (g := D) (i := 21) (by simp) (.int .i64 o.i)
  have D3 : Blk (_ : World) D 78 (stc h P Q c d (.slice (some ⟨T, 0, none⟩) us.length cT) (.slice A h.od.length co) j ⟨T, j * 8, none⟩ ⟨o.kd, o.h, o.i, o0.k, o0.v, o0.t, o0.l, o0.m⟩ s) := D2.set_ 21 (.int .i64 o.i)
  have T3 := T2.far (hn 21) (.int .i64 o.i)
  have K4 := K3.set_ (g := D) (i := 22) (by simp) (.int .i64 o.k)
  have D4 : Blk (_ : World) D 78 (stc h P Q c d (.slice (some ⟨T, 0, none⟩) us.length cT) (.slice A h.od.length co) j ⟨T, j * 8, none⟩ ⟨o.kd, o.h, o.i, o.k, o0.v, o0.t, o0.l, o0.m⟩ s) := D3.set_ 22 (.int .i64 o.k)
  have T4 := T3.far (hn 22) (.int .i64 o.k)
  have K5 := K4.set_ (g := D) (i := 23) (by simp) (.int .u64 o.v)
  have D5 : Blk (_ : World) D 78 (stc h P Q c d (.slice (some ⟨T, 0, none⟩) us.length cT) (.slice A h.od.length co) j ⟨T, j * 8, none⟩ ⟨o.kd, o.h, o.i, o.k, o.v, o0.t, o0.l, o0.m⟩ s) := D4.set_ 23 (.int .u64 o.v)
  have T5 := T4.far (hn 23) (.int .u64 o.v)
  have K6 := K5.set_ (g := D) (i := 24) (by simp) (.int .i64 o.t)
  have D6 : Blk (_ : World) D 78 (stc h P Q c d (.slice (some ⟨T, 0, none⟩) us.length cT) (.slice A h.od.length co) j ⟨T, j * 8, none⟩ ⟨o.kd, o.h, o.i, o.k, o.v, o.t, o0.l, o0.m⟩ s) := D5.set_ 24 (.int .i64 o.t)
  have T6 := T5.far (hn 24) (.int .i64 o.t)
  have K7 := K6.set_ (g := D) (i := 25) (by simp) (.int .i64 o.l)
  have D7 : Blk (_ : World) D 78 (stc h P Q c d (.slice (some ⟨T, 0, none⟩) us.length cT) (.slice A h.od.length co) j ⟨T, j * 8, none⟩ ⟨o.kd, o.h, o.i, o.k, o.v, o.t, o.l, o0.m⟩ s) := D6.set_ 25 (.int .i64 o.l)
  have T7 := T6.far (hn 25) (.int .i64 o.l)
  have K8 := K7.set_ (g := D) (i := 26) (by simp) (.int .u64 o.m)
  have D8 : Blk (_ : World) D 78 (stc h P Q c d (.slice (some ⟨T, 0, none⟩) us.length cT) (.slice A h.od.length co) j ⟨T, j * 8, none⟩ ⟨o.kd, o.h, o.i, o.k, o.v, o.t, o.l, o.m⟩ s) := D7.set_ 26 (.int .u64 o.m)
  have T8 := T7.far (hn 26) (.int .u64 o.m)
  exact ⟨K8, us, P, Q, c, d, A, co, cT, D8, T8, h1, h2, h3, h4, hR.kp K8⟩
/-- A step that is done with. -/
theorem St.fin (hS : St base D T S3 h j o s w) : Fin base D h w := by
  obtain ⟨us, P, Q, c, d, A, co, cT, hD, hT, h1, h2, h3, h4, hR⟩ := hS
  refine ⟨P, Q, c, d, .slice (some ⟨T, 0, none⟩) us.length cT, .slice A h.od.length co, us, j, _, o, s, hD, hR.sits, ?_, ⟨hR.len, fun i u t hu ht => ?_⟩, hR.ord.rc, fun p n c e hn => ?_⟩
  · refine ⟨some ⟨T, 0, none⟩, cT, rfl, h1, h2, fun q => (by cases q), rv_of_blk hT fun i v hv => ?_⟩
    rw [List.getElem?_toArray, List.flatMap_append, List.getElem?_append_left ?_]
    · exact hv
    · rcases Nat.lt_or_ge i (us.flatMap tvc).length with q | q
      · exact q
      · rw [List.getElem?_eq_none q] at hv; cases hv
  · by_cases e : i = j
    · subst e
      have q := hR.own u t hu ht
      exact ⟨q.st, q.ba, q.be, q.lg.rc, q.lf, q.pd, q.wt, q.dn.rc⟩
    · exact (hR.oth i u t e hu ht).r
  · rcases hR.ord with ⟨h0, A', e2⟩ | ⟨h0, g, cap, e2, g1, -⟩
    · rw [e2] at e
      injection e with _ q _
      exact absurd q.symm hn
    · rw [e2] at e
      injection e with q
      injection q with q
      rw [← q]
      exact g1
/-- Who waits. -/
theorem St.want (hS : St base D T S3 h j o s w) (k : Up w wz) (ht : h.th[j]? = some t) :
    Kp [D, T] w (wz.setCell ⟨T, j * 8 + 6, none⟩ (.bool true)) ∧ St base D T S3 { h with th := h.th.set j { t with wt := true } } j o s (wz.setCell ⟨T, j * 8 + 6, none⟩ (.bool true)) :=
  hS.setT k 6 (by decide) (.bool true) ht (t' := { t with wt := true }) fun u hO => ⟨{ u with wt := true }, rfl, hO.st, hO.sta, hO.ba, hO.be, hO.lg, hO.lf, hO.lfa, hO.pd, hO.pda, rfl, hO.dn⟩
/-- The thread behind what is done. -/
theorem deed_th (ht : h.th[j]? = some t) (o : Op) : (deed h j t o).2.1.od = h.od ∧ ∃ t', (deed h j t o).2.1.th[j]? = some t' ∧ t'.dn = t.dn ∧ t'.lf = t.lf := by
  have hj : j < h.th.length := by
    rcases Nat.lt_or_ge j h.th.length with q | q
    · exact q
    · rw [List.getElem?_eq_none q] at ht; cases ht
  have hA : ∀ r, (alH h j t r).od = h.od ∧ ∃ t', (alH h j t r).th[j]? = some t' ∧ t'.dn = t.dn ∧ t'.lf = t.lf := fun r => ⟨rfl, _, List.getElem?_set_self hj, rfl, rfl⟩
  have hA2 : ∀ r x y st', ({ alH h j t r with th := h.th.set j { t with ba := x, be := y, st := st' } } : Hp).od = h.od ∧ ∃ t', ({ alH h j t r with th := h.th.set j { t with ba := x, be := y, st := st' } } : Hp).th[j]? = some t' ∧ t'.dn = t.dn ∧ t'.lf = t.lf := fun r x y st' => ⟨rfl, _, List.getElem?_set_self hj, rfl, rfl⟩
  have hW : ∀ a i v, (wrH h j t a i v).od = h.od ∧ ∃ t', (wrH h j t a i v).th[j]? = some t' ∧ t'.dn = t.dn ∧ t'.lf = t.lf := fun a i v => ⟨rfl, _, List.getElem?_set_self hj, rfl, rfl⟩
  have hT : ∀ xs, (stH h j t xs).od = h.od ∧ ∃ t', (stH h j t xs).th[j]? = some t' ∧ t'.dn = t.dn ∧ t'.lf = t.lf := fun xs => ⟨rfl, _, List.getElem?_set_self hj, rfl, rfl⟩
  have h0 : h.od = h.od ∧ ∃ t', h.th[j]? = some t' ∧ t'.dn = t.dn ∧ t'.lf = t.lf := ⟨rfl, t, ht, rfl, rfl⟩
  generalize hx : deed h j t o = x
  unfold deed at hx
  repeat' split at hx
  all_goals
    subst hx
    first | exact h0 | exact hT _ | exact hW _ _ _ | exact hA _ | exact hA2 _ _ _ _
/-- Where something refuses, no word and no yes comes of it. -/
theorem deed_bad (h : Hp) (j : Nat) (t : Th) (o : Op) (hx : (deed h j t o).1 ≠ 0) : (deed h j t o).2.2 = (0, false) := by
  generalize hd : deed h j t o = x at hx ⊢
  unfold deed at hd
  repeat' split at hd
  all_goals
    subst hd
    first | rfl | exact absurd rfl hx
/-- What act does to a heap. -/
def doH (h : Hp) (j : Nat) (t : Th) (o : Op) : Hp :=
  match (deed h j t o).2.1.th[j]? with
  | some t' => if (deed h j t o).1 = 11 then { (deed h j t o).2.1 with th := (deed h j t o).2.1.th.set j { t' with wt := true } } else ansH (deed h j t o).2.1 j t' ((deed h j t o).1, (deed h j t o).2.2)
  | none => h
theorem doH_eq {t' : Th} (ht : (deed h j t o).2.1.th[j]? = some t') : doH h j t o = if (deed h j t o).1 = 11 then { (deed h j t o).2.1 with th := (deed h j t o).2.1.th.set j { t' with wt := true } } else ansH (deed h j t o).2.1 j t' ((deed h j t o).1, (deed h j t o).2.2) := by
  unfold doH
  rw [ht]
theorem Run3.up {Φ : Int → World → Prop} {cs : List Clo3} {w w' : World} (h : Run3 D T Φ cs w) (k : Up w w') (hΦ : cs = [] → Φ 0 w') : Run3 D T Φ cs w' := by
  cases cs with
  | nil => exact hΦ rfl
  | cons c cs => exact ⟨h.1, fun w'' q => h.2 w'' (k.trans q)⟩
end
end Go.Proofs.YtddoljfkbkbfjaaGreat.T
