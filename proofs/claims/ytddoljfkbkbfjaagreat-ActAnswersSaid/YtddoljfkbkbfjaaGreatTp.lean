/- Each kind's row of closures comes to what is done. -/
import Derived.Test.YtddoljfkbkbfjaaGreatTo
namespace Go.Proofs.YtddoljfkbkbfjaaGreat.T
open G
open Go.Joins Go.ChangeShapes Go.WideShapes Go.ChangeAt Go.RowKit Go.Deep Go.Shelf Go.Maps
set_option linter.unusedVariables false
set_option linter.unusedSimpArgs false

section
variable {base D T : Nat} {S3 : List Nat} {h : Hp} {j : Nat} {o : Op} {w : World} {t : Th} {B : Nat}
theorem deed_2 (q : o.kd = 2) : deed h j t o = (if fe h.m t.st o = 0 then (if h.m.getb (K.gtv t.st o.h) o.i = true then (8, h, 0, false) else (0, h, h.m.getv (K.gtv t.st o.h) o.i, false)) else (fe h.m t.st o, h, 0, false)) := by
  unfold deed
  rw [if_neg (by omega), if_pos q]
theorem deed_4 (q : o.kd = 4 ∨ o.kd = 6 ∨ o.kd = 7) : deed h j t o = (if fe h.m t.st o = 0 then (if h.m.getb (K.gtv t.st o.h) o.i = true then (8, h, 0, false) else (0, wrH h j t (K.gtv t.st o.h) o.i (nv h t o), 0, false)) else (fe h.m t.st o, h, 0, false)) := by
  unfold deed
  rw [if_neg (by omega), if_neg (by omega), if_pos q]
theorem deed_3 (q : o.kd = 3) : deed h j t o = (if fe h.m t.st o = 0 then (if h.m.getb (K.gtv t.st o.h) o.i = true then (K.pue t.st, stH h j t (K.pus t.st (h.m.getv (K.gtv t.st o.h) o.i)), 0, false) else (8, h, 0, false)) else (fe h.m t.st o, h, 0, false)) := by
  unfold deed
  rw [if_neg (by omega), if_neg (by omega), if_neg (by omega), if_pos q]
theorem deed_5 (q : o.kd = 5) : deed h j t o = (if fe h.m t.st o = 0 then (if h.m.getb (K.gtv t.st o.h) o.i = true then (if K.gte t.st o.k = 0 then (0, wrH h j t (K.gtv t.st o.h) o.i (nv h t o), 0, false) else (K.gte t.st o.k, h, 0, false)) else (8, h, 0, false)) else (fe h.m t.st o, h, 0, false)) := by
  unfold deed
  rw [if_neg (by omega), if_neg (by omega), if_neg (by omega), if_neg (by omega), if_pos q]
theorem deed_8 (q : o.kd = 8) : deed h j t o = (if K.gte t.st o.h = 0 then (if K.gte t.st o.k = 0 then (0, h, 0, K.gtv t.st o.h == K.gtv t.st o.k) else (K.gte t.st o.k, h, 0, false)) else (K.gte t.st o.h, h, 0, false)) := by
  unfold deed
  rw [if_neg (by omega), if_neg (by omega), if_neg (by omega), if_neg (by omega), if_neg (by omega), if_pos q]
theorem deed_9 (q : o.kd = 9) : deed h j t o = (if K.gte t.st o.h = 0 then (K.pue t.st, stH h j t (K.pus t.st (K.gtv t.st o.h)), 0, false) else (K.gte t.st o.h, h, 0, false)) := by
  unfold deed
  rw [if_neg (by omega), if_neg (by omega), if_neg (by omega), if_neg (by omega), if_neg (by omega), if_neg (by omega), if_pos q]
theorem deed_10 (q : o.kd = 10) : deed h j t o = (K.poe t.st, stH h j t (K.pos t.st), 0, false) := by
  unfold deed
  rw [if_neg (by omega), if_neg (by omega), if_neg (by omega), if_neg (by omega), if_neg (by omega), if_neg (by omega), if_neg (by omega), if_pos q]
theorem deed_11 (q : o.kd = 11) : deed h j t o = (11, h, 0, false) := by
  unfold deed
  rw [if_neg (by omega), if_neg (by omega), if_neg (by omega), if_neg (by omega), if_neg (by omega), if_neg (by omega), if_neg (by omega), if_neg (by omega), if_pos q]
theorem deed_o (q : o.kd < 1 ∨ 11 < o.kd) : deed h j t o = (1, h, 0, false) := by
  unfold deed
  rw [if_neg (by omega), if_neg (by omega), if_neg (by omega), if_neg (by omega), if_neg (by omega), if_neg (by omega), if_neg (by omega), if_neg (by omega), if_neg (by omega)]
theorem fe_0 (q : fe h.m t.st o = 0) : h.m.gete (K.gtv t.st o.h) o.i = 0 := by
  unfold fe at q
  split at q
  · split at q
    · exact q
    · cases q
  · rename_i q2; exact absurd q q2
theorem getv_nn (hw : h.m.wf) (a i : Int) : 0 ≤ h.m.getv a i := by
  unfold Me.getv
  split
  · exact (hw.ld _).1
  · exact Int.le_refl 0
theorem run_1 (k : Dk h j t o) (hS : St base D T S3 h j o ks0 w) (q : o.kd = 1) : Run3 D T (Phi base D T S3 h j t o) [fmv D 77, fmv D 78, fmv D 79] w :=
  ⟨Tryz.call77, fun w0 u0 => (head_st (hS.up u0)).mono fun e w1 ⟨e1, k1, s1⟩ => ⟨_, e1, k1, fun z => by
    obtain ⟨z1, z2⟩ := unl_x z
    rw [z2]
    exact phi_of (by unfold deed; rw [if_pos q, if_neg (by rw [z1]; decide)]) s1 (fun z => by cases z), fun z => by
    have hok := (unl_0 (by decide)).1 z
    refine ⟨Tryz.call78, fun w2 u2 => (full_st (s1.up u2) k.ht).mono fun e w3 ⟨e3, k3, s3⟩ => ⟨_, e3, k3, fun y => ?_, fun y => ?_⟩⟩
    · obtain ⟨y1, y2⟩ := unl_x y
      rw [y2]
      exact phi_of (by unfold deed; rw [if_pos q, if_pos hok, if_neg (of_decide_eq_false y1)]) s3 (fun z => by cases z)
    · have hlt := of_decide_eq_true ((unl_0 (by decide)).1 y)
      unfold okH at hok
      rw [Bool.and_eq_true, decide_eq_true_eq, decide_eq_true_eq] at hok
      refine ⟨Tryz.call79, fun w4 u4 => (alloc_st (s3.up u4) k.ht k.m.1 hok.1 hok.2 k.fr k.fl k.bf (mkr_n _ _ _ _ _ _ _ _ _ _)).mono fun e w5 ⟨r, hr, a1, a2⟩ => ?_⟩
      have hok' : okH o.t o.l o.m = true := by unfold okH; rw [decide_eq_true hok.1, decide_eq_true hok.2]; rfl
      by_cases he : r.e = 0
      · obtain ⟨b1, b2, b3⟩ := a2 he
        have hp : K.pue t.st = 0 := if_pos (by omega)
        refine ⟨_, b1, b2, fun y => absurd hp y, fun _ => ?_⟩
        subst hr
        exact phi_of (by unfold deed; rw [if_pos q, if_pos hok', if_pos hlt, if_pos he]) b3 (fun _ => ⟨rfl, rfl, rfl⟩)
      · obtain ⟨b1, b2, b3⟩ := a1 he
        refine ⟨_, b1, b2, fun y => ?_, fun y => by cases y⟩
        subst hr
        exact phi_of (by unfold deed; rw [if_pos q, if_pos hok', if_pos hlt, if_neg he]) b3 (fun z => by cases z)⟩⟩
theorem run_2 (k : Dk h j t o) (hS : St base D T S3 h j o ks0 w) (hB : Blk w B 74 #[.pointer (some ⟨D, 0, none⟩)]) (hBn : B ∉ [D, T]) (q : o.kd = 2) : Run3 D T (Phi base D T S3 h j t o) [fmv D 74, fmv D 75, fcv B 80] w :=
  run_field k hS hB hBn (fun z => by rw [deed_2 q, if_neg z]) fun z w1 s1 b1 =>
  run_scalar s1 b1 hBn (fun y => by rw [deed_2 q, if_pos z, if_pos (show h.m.getb (K.gtv t.st o.h) o.i = true from y)]) fun y w2 s2 b2 =>
  run_end (s := ks0) Tryz.call80 (fun w0 u0 => get_st (s2.up u0) (b2.up u0)) (by rw [deed_2 q, if_pos z, if_neg (by intro y2; have y3 : (kf h.m t.st o ks0).p = true := y2; rw [y3] at y; cases y)] <;> rfl) (fun _ => ⟨rfl, rfl, rfl⟩)
theorem run_3 (k : Dk h j t o) (hS : St base D T S3 h j o ks0 w) (hB : Blk w B 74 #[.pointer (some ⟨D, 0, none⟩)]) (hBn : B ∉ [D, T]) (q : o.kd = 3) : Run3 D T (Phi base D T S3 h j t o) [fmv D 74, fmv D 81, fcv B 82] w :=
  run_field k hS hB hBn (fun z => by rw [deed_3 q, if_neg z]) fun z w1 s1 b1 =>
  run_leads s1 b1 hBn (fun y => by rw [deed_3 q, if_pos z, if_neg (by intro y2; have y3 : (kf h.m t.st o ks0).p = true := y2; rw [y3] at y; cases y)]) fun y w2 s2 b2 =>
  run_end (s := ks0) Tryz.call82 (fun w0 u0 => follow_st (s2.up u0) k.ht (b2.up u0)) (by rw [deed_3 q, if_pos z, if_pos (show h.m.getb (K.gtv t.st o.h) o.i = true from y)] <;> rfl) (fun _ => ⟨rfl, rfl, rfl⟩)
theorem run_w (k : Dk h j t o) (hS : St base D T S3 h j o ks0 w) (hB : Blk w B 74 #[.pointer (some ⟨D, 0, none⟩)]) (hBn : B ∉ [D, T]) (q : o.kd = 4 ∨ o.kd = 6 ∨ o.kd = 7) : Run3 D T (Phi base D T S3 h j t o) [fmv D 74, fmv D 75, fmv D 76] w :=
  run_field k hS hB hBn (fun z => by rw [deed_4 q, if_neg z]) fun z w1 s1 b1 =>
  run_scalar s1 b1 hBn (fun y => by rw [deed_4 q, if_pos z, if_pos (show h.m.getb (K.gtv t.st o.h) o.i = true from y)]) fun y w2 s2 b2 => by
    have hd : deed h j t o = (h.m.gete (K.gtv t.st o.h) o.i, wrH h j t (K.gtv t.st o.h) o.i (nv h t o), 0, false) := by
      rw [deed_4 q, if_pos z, if_neg (by intro y2; have y3 : (kf h.m t.st o ks0).p = true := y2; rw [y3] at y; cases y), fe_0 z]
    have ha := gtv_u64 k.st o.h
    rcases q with q | q | q
    · have e : nv h t o = o.v := by unfold nv; rw [if_neg (by omega), if_neg (by omega), if_neg (by omega)]
      rw [e] at hd
      exact run_end (s := ks0) Tryz.call76 (fun w0 u0 => write_4 (s2.up u0) k.ht k.wf ha q) hd (fun _ => ⟨rfl, rfl, rfl⟩)
    · have e : nv h t o = Nm.addw (h.m.getv (K.gtv t.st o.h) o.i) o.v := by unfold nv; rw [if_pos q]
      rw [e] at hd
      exact run_end (s := ks0) Tryz.call76 (fun w0 u0 => write_6 (s2.up u0) k.ht k.wf ha q (getv_nn k.wf _ _) k.v.1) hd (fun _ => ⟨rfl, rfl, rfl⟩)
    · have e : nv h t o = Nm.mulw (h.m.getv (K.gtv t.st o.h) o.i) o.v := by unfold nv; rw [if_neg (by omega), if_pos q]
      rw [e] at hd
      exact run_end (s := ks0) Tryz.call76 (fun w0 u0 => write_7 (s2.up u0) k.ht k.wf ha q (getv_nn k.wf _ _) k.v.1) hd (fun _ => ⟨rfl, rfl, rfl⟩)
theorem run_5 (k : Dk h j t o) (hS : St base D T S3 h j o ks0 w) (hB : Blk w B 74 #[.pointer (some ⟨D, 0, none⟩)]) (hBn : B ∉ [D, T]) (q : o.kd = 5) : Run3 D T (Phi base D T S3 h j t o) [fmv D 74, fmv D 81, fmv D 84, fmv D 76] w :=
  run_field k hS hB hBn (fun z => by rw [deed_5 q, if_neg z]) fun z w1 s1 b1 =>
  run_leads s1 b1 hBn (fun y => by rw [deed_5 q, if_pos z, if_neg (by intro y2; have y3 : (kf h.m t.st o ks0).p = true := y2; rw [y3] at y; cases y)]) fun y w2 s2 b2 =>
  run_second k s2 b2 hBn (fun x => by rw [deed_5 q, if_pos z, if_pos (show h.m.getb (K.gtv t.st o.h) o.i = true from y), if_neg x]) fun x w3 s3 b3 => by
    have e : nv h t o = K.gtv t.st o.k := by unfold nv; rw [if_neg (by omega), if_neg (by omega), if_pos q]
    have hd : deed h j t o = (h.m.gete (K.gtv t.st o.h) o.i, wrH h j t (K.gtv t.st o.h) o.i (nv h t o), 0, false) := by rw [deed_5 q, if_pos z, if_pos (show h.m.getb (K.gtv t.st o.h) o.i = true from y), if_pos x, fe_0 z]
    rw [e] at hd
    exact run_end (s := ks0) Tryz.call76 (fun w0 u0 => write_5 (s3.up u0) k.ht k.wf (gtv_u64 k.st o.h) q) hd (fun _ => ⟨rfl, rfl, rfl⟩)
theorem run_8 (k : Dk h j t o) (hS : St base D T S3 h j o ks0 w) (hB : Blk w B 74 #[.pointer (some ⟨D, 0, none⟩)]) (hBn : B ∉ [D, T]) (q : o.kd = 8) : Run3 D T (Phi base D T S3 h j t o) [fmv D 85, fmv D 84, fcv B 86] w :=
  run_first k hS hB hBn (fun z => by rw [deed_8 q, if_neg z]) fun z w1 s1 b1 =>
  run_second k s1 b1 hBn (fun y => by rw [deed_8 q, if_pos z, if_neg y]) fun y w2 s2 b2 =>
  run_end (s := ks0) Tryz.call86 (fun w0 u0 => same_st (s2.up u0) (b2.up u0)) (by rw [deed_8 q, if_pos z, if_pos y] <;> rfl) (fun _ => ⟨rfl, rfl, rfl⟩)
theorem run_9 (k : Dk h j t o) (hS : St base D T S3 h j o ks0 w) (hB : Blk w B 74 #[.pointer (some ⟨D, 0, none⟩)]) (hBn : B ∉ [D, T]) (q : o.kd = 9) : Run3 D T (Phi base D T S3 h j t o) [fmv D 85, fcv B 87] w :=
  run_first k hS hB hBn (fun z => by rw [deed_9 q, if_neg z]) fun z w1 s1 b1 =>
  run_end (s := ks0) Tryz.call87 (fun w0 u0 => push_st (s1.up u0) k.ht (b1.up u0)) (by rw [deed_9 q, if_pos z] <;> rfl) (fun _ => ⟨rfl, rfl, rfl⟩)
theorem run_10 (k : Dk h j t o) (hS : St base D T S3 h j o ks0 w) (q : o.kd = 10) : Run3 D T (Phi base D T S3 h j t o) [fmv D 88] w :=
  run_end (s := ks0) Tryz.call88 (fun w0 u0 => pop_st (hS.up u0) k.ht k.sl) (by rw [deed_10 q] <;> rfl) (fun _ => ⟨rfl, rfl, rfl⟩)
theorem run_11 (hS : St base D T S3 h j o ks0 w) (q : o.kd = 11) : Run3 D T (Phi base D T S3 h j t o) [fnv5] w :=
  run_end (s := ks0) Tryz.call89 (fun w0 u0 => wait_st (hS.up u0)) (by rw [deed_11 q]) (fun z => by cases z)
theorem run_kd (k : Dk h j t o) (hS : St base D T S3 h j o ks0 w) (hB : Blk w B 74 #[.pointer (some ⟨D, 0, none⟩)]) (hBn : B ∉ [D, T]) {cs : List Clo3} (hk : krow D B o.kd = some cs) : Run3 D T (Phi base D T S3 h j t o) cs w := by
  unfold krow at hk
  split at hk
  · cases hk; exact run_1 k hS (by assumption)
  split at hk
  · cases hk; exact run_2 k hS hB hBn (by assumption)
  split at hk
  · cases hk; exact run_3 k hS hB hBn (by assumption)
  split at hk
  · cases hk; exact run_w k hS hB hBn (by assumption)
  split at hk
  · cases hk; exact run_5 k hS hB hBn (by assumption)
  split at hk
  · cases hk; exact run_8 k hS hB hBn (by assumption)
  split at hk
  · cases hk; exact run_9 k hS hB hBn (by assumption)
  split at hk
  · cases hk; exact run_10 k hS (by assumption)
  split at hk
  · cases hk; exact run_11 hS (by assumption)
  · cases hk
theorem krow_len {cs : List Clo3} {kd : Int} (hk : krow D B kd = some cs) : cs.length ≤ 4 := by
  unfold krow at hk
  repeat (split at hk; · cases hk; simp)
  cases hk
theorem krow_none {kd : Int} (hk : krow D B kd = none) : kd < 1 ∨ 11 < kd := by
  unfold krow at hk
  repeat (split at hk; · cases hk)
  omega
end
end Go.Proofs.YtddoljfkbkbfjaaGreat.T
