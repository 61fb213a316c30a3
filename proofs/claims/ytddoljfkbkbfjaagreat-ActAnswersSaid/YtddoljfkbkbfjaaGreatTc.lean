/- A heap once more, which shares nothing with it (act.copied): contract. -/
import Derived.Test.YtddoljfkbkbfjaaGreatTd
import Derived.Deep.CutRange
namespace Go.Proofs.YtddoljfkbkbfjaaGreat.T
open G
open Go.Joins Go.ChangeShapes Go.WideShapes Go.ChangeAt Go.RowKit Go.Deep Go.Shelf Go.Maps
set_option linter.unusedVariables false
set_option linter.unusedSimpArgs false

theorem Blk.set17 {w : World} {g : Nat} {t : TypeId} {a0 a1 a2 a3 a4 a5 a6 a7 a8 a9 a10 a11 a12 a13 a14 a15 a16 : Value} (h : Blk w g t #[a0, a1, a2, a3, a4, a5, a6, a7, a8, a9, a10, a11, a12, a13, a14, a15, a16]) (u0 u1 u2 u3 u4 u5 u6 u7 u8 u9 u10 u11 u12 u13 u14 u15 u16 : Value) : Blk (((((((((((((((((w.setCell ⟨g, 0, none⟩ u0).setCell ⟨g, 1, none⟩ u1).setCell ⟨g, 2, none⟩ u2).setCell ⟨g, 3, none⟩ u3).setCell ⟨g, 4, none⟩ u4).setCell ⟨g, 5, none⟩ u5).setCell ⟨g, 6, none⟩ u6).setCell ⟨g, 7, none⟩ u7).setCell ⟨g, 8, none⟩ u8).setCell ⟨g, 9, none⟩ u9).setCell ⟨g, 10, none⟩ u10).setCell ⟨g, 11, none⟩ u11).setCell ⟨g, 12, none⟩ u12).setCell ⟨g, 13, none⟩ u13).setCell ⟨g, 14, none⟩ u14).setCell ⟨g, 15, none⟩ u15).setCell ⟨g, 16, none⟩ u16) g t #[u0, u1, u2, u3, u4, u5, u6, u7, u8, u9, u10, u11, u12, u13, u14, u15, u16] := by
  have h : Blk _ g t #[u0, a1, a2, a3, a4, a5, a6, a7, a8, a9, a10, a11, a12, a13, a14, a15, a16] := h.set_ 0 u0
  have h : Blk _ g t #[u0, u1, a2, a3, a4, a5, a6, a7, a8, a9, a10, a11, a12, a13, a14, a15, a16] := h.set_ 1 u1
  have h : Blk _ g t #[u0, u1, u2, a3, a4, a5, a6, a7, a8, a9, a10, a11, a12, a13, a14, a15, a16] := h.set_ 2 u2
  have h : Blk _ g t #[u0, u1, u2, u3, a4, a5, a6, a7, a8, a9, a10, a11, a12, a13, a14, a15, a16] := h.set_ 3 u3
  have h : Blk _ g t #[u0, u1, u2, u3, u4, a5, a6, a7, a8, a9, a10, a11, a12, a13, a14, a15, a16] := h.set_ 4 u4
  have h : Blk _ g t #[u0, u1, u2, u3, u4, u5, a6, a7, a8, a9, a10, a11, a12, a13, a14, a15, a16] := h.set_ 5 u5
  have h : Blk _ g t #[u0, u1, u2, u3, u4, u5, u6, a7, a8, a9, a10, a11, a12, a13, a14, a15, a16] := h.set_ 6 u6
  have h : Blk _ g t #[u0, u1, u2, u3, u4, u5, u6, u7, a8, a9, a10, a11, a12, a13, a14, a15, a16] := h.set_ 7 u7
  have h : Blk _ g t #[u0, u1, u2, u3, u4, u5, u6, u7, u8, a9, a10, a11, a12, a13, a14, a15, a16] := h.set_ 8 u8
  have h : Blk _ g t #[u0, u1, u2, u3, u4, u5, u6, u7, u8, u9, a10, a11, a12, a13, a14, a15, a16] := h.set_ 9 u9
  have h : Blk _ g t #[u0, u1, u2, u3, u4, u5, u6, u7, u8, u9, u10, a11, a12, a13, a14, a15, a16] := h.set_ 10 u10
  have h : Blk _ g t #[u0, u1, u2, u3, u4, u5, u6, u7, u8, u9, u10, u11, a12, a13, a14, a15, a16] := h.set_ 11 u11
  have h : Blk _ g t #[u0, u1, u2, u3, u4, u5, u6, u7, u8, u9, u10, u11, u12, a13, a14, a15, a16] := h.set_ 12 u12
  have h : Blk _ g t #[u0, u1, u2, u3, u4, u5, u6, u7, u8, u9, u10, u11, u12, u13, a14, a15, a16] := h.set_ 13 u13
  have h : Blk _ g t #[u0, u1, u2, u3, u4, u5, u6, u7, u8, u9, u10, u11, u12, u13, u14, a15, a16] := h.set_ 14 u14
  have h : Blk _ g t #[u0, u1, u2, u3, u4, u5, u6, u7, u8, u9, u10, u11, u12, u13, u14, u15, a16] := h.set_ 15 u15
  have h : Blk _ g t #[u0, u1, u2, u3, u4, u5, u6, u7, u8, u9, u10, u11, u12, u13, u14, u15, u16] := h.set_ 16 u16
  exact h
theorem kp_set17 (w : World) (g : Nat) (u0 u1 u2 u3 u4 u5 u6 u7 u8 u9 u10 u11 u12 u13 u14 u15 u16 : Value) : Kp [g] w (((((((((((((((((w.setCell ⟨g, 0, none⟩ u0).setCell ⟨g, 1, none⟩ u1).setCell ⟨g, 2, none⟩ u2).setCell ⟨g, 3, none⟩ u3).setCell ⟨g, 4, none⟩ u4).setCell ⟨g, 5, none⟩ u5).setCell ⟨g, 6, none⟩ u6).setCell ⟨g, 7, none⟩ u7).setCell ⟨g, 8, none⟩ u8).setCell ⟨g, 9, none⟩ u9).setCell ⟨g, 10, none⟩ u10).setCell ⟨g, 11, none⟩ u11).setCell ⟨g, 12, none⟩ u12).setCell ⟨g, 13, none⟩ u13).setCell ⟨g, 14, none⟩ u14).setCell ⟨g, 15, none⟩ u15).setCell ⟨g, 16, none⟩ u16) := (Kp.set_ (Kp.set_ (Kp.set_ (Kp.set_ (Kp.set_ (Kp.set_ (Kp.set_ (Kp.set_ (Kp.set_ (Kp.set_ (Kp.set_ (Kp.set_ (Kp.set_ (Kp.set_ (Kp.set_ (Kp.set_ (Kp.set_ (Kp.refl _ _) (by simp) _) (by simp) _) (by simp) _) (by simp) _) (by simp) _) (by simp) _) (by simp) _) (by simp) _) (by simp) _) (by simp) _) (by simp) _) (by simp) _) (by simp) _) (by simp) _) (by simp) _) (by simp) _) (by simp) _)
theorem ret_heap {fn : Func} {p : Tmp} (h : fn.results = #[.cell p 32]) (tmps : Array Value) (w : World) (g : Nat) (u0 u1 u2 u3 u4 u5 u6 u7 u8 u9 u10 u11 u12 u13 u14 u15 u16 : Value)
    (hp : tmps.getD p undef = .pointer (some ⟨g, 0, none⟩)) (hg : Blk w g 32 #[u0, u1, u2, u3, u4, u5, u6, u7, u8, u9, u10, u11, u12, u13, u14, u15, u16]) :
    (results fn tmps).run Tryz.prog w = .ok (.agg #[u0, u1, u2, u3, u4, u5, u6, u7, u8, u9, u10, u11, u12, u13, u14, u15, u16]) w := by
  have hp' : tmps[p]?.getD undef = .pointer (some ⟨g, 0, none⟩) := by simpa using hp
  simp [results, h, hp', asAddr, run_loadVar_row w g 32 32 _ _ _ hg Tryz.underlying32 rfl (by kernel_rfl)]
/-- How long rows may be. -/
structure ThF (t : Th) : Prop where
  st : t.st.length * 8 ≤ 140737488355200
  lg : t.lg.length * 16 ≤ 140737488355200
  lf : t.lf.length * 64 ≤ 140737488355200
  pd : t.pd.length * 16 ≤ 140737488355200
  dn : t.dn.length * 24 ≤ 140737488355200
structure HpF (h : Hp) : Prop where
  th : ∀ t ∈ h.th, ThF t
  n : h.th.length ≤ 4
  od : h.od.length * 8 ≤ 140737488355200
/-- A thread once more. -/
def CpT (lo hi : Nat) (w : World) (u : Tv) (t : Th) : Prop := u.ba = t.ba ∧ u.be = t.be ∧ u.wt = t.wt ∧ ∃ mid, lo ≤ mid ∧ mid ≤ hi ∧ Cl lo mid 54 wdc 0 w u.st t.st ∧ Cl lo mid 62 opc oz w u.lf t.lf ∧ Cl lo mid 56 anc az w u.dn t.dn ∧ Cl lo mid 66 enc ez w u.lg t.lg ∧ Cl mid hi 66 enc ez w u.pd t.pd
theorem CpT.kp {lo hi : Nat} {w w' : World} {u : Tv} {t : Th} {S : List Nat} (h : CpT lo hi w u t) (k : Kp S w w') (hS : ∀ g ∈ S, g < lo) : CpT lo hi w' u t := by
  obtain ⟨h1, h2, h3, mid, m1, m2, c1, c2, c3, c4, c5⟩ := h
  exact ⟨h1, h2, h3, mid, m1, m2, c1.kp k fun g _ q _ _ q2 => by have := hS g q2; omega, c2.kp k fun g _ q _ _ q2 => by have := hS g q2; omega, c3.kp k fun g _ q _ _ q2 => by have := hS g q2; omega, c4.kp k fun g _ q _ _ q2 => by have := hS g q2; omega, c5.kp k fun g _ q _ _ q2 => by have := hS g q2; omega⟩
def CpPost (h : Hp) (w : World) (en : Ending) (w' : World) : Prop := ∃ (P Q : Addr) (c d T cT : Nat) (A : Option Addr) (co : Nat) (us : List Tv) (bs : Nat → Nat), en = .returned (.agg (hpc h P Q c d (.slice (some ⟨T, 0, none⟩) h.th.length cT) (.slice A h.od.length co))) ∧ Sits w' h.m P Q c d ∧
  Blk w' T 44 ((us ++ List.replicate (cT - h.th.length) tz).flatMap tvc).toArray ∧ us.length = h.th.length ∧ h.th.length ≤ cT ∧ cT ≤ maxLen ∧ w.heap.size ≤ T ∧ T < bs 0 ∧ Cl w.heap.size (bs 0) 3 inc 0 w' (.slice A h.od.length co) h.od ∧
  (∀ (j : Nat) u t, us[j]? = some u → h.th[j]? = some t → CpT (bs j) (bs (j + 1)) w' u t) ∧ (∀ j, j < h.th.length → bs j ≤ bs (j + 1)) ∧ bs h.th.length ≤ w'.heap.size ∧ (P.block ≠ T ∧ Q.block ≠ T) ∧ Up w w'

/-- The heap's box once more, ahead of the threads. -/
structure Cq (h : Hp) (w : World) (N n ol : Nat) (P1 : Option Addr) (c1 : Nat) (Q2 : Option Addr) (c2 : Nat) (T cT : Nat) (A : Option Addr) (co : Nat) (us : List Tv) (V : World) : Prop where
  b0 : Blk V w.heap.size 32 #[.int .i64 N, .slice P1 N c1, .slice Q2 N c2, .int .i64 h.fs, .int .i64 h.fa, .int .i64 h.fl, .int .i64 h.ts, .int .i64 h.ta, .int .i64 h.tl, .int .i64 h.sz, .int .i64 h.lg, .slice (some ⟨T, 0, none⟩) n cT, .int .i64 h.ph, .int .i64 h.sc, .int .i64 h.fp, .slice A ol co, .int .i64 h.bk]
  b1 : Blk V (w.heap.size + 1) 32 #[.int .i64 0, .slice none 0 0, .slice none 0 0, .int .i64 0, .int .i64 0, .int .i64 0, .int .i64 0, .int .i64 0, .int .i64 0, .int .i64 0, .int .i64 0, .slice none 0 0, .int .i64 0, .int .i64 0, .int .i64 0, .slice none 0 0, .int .i64 0]
  x : Cl (w.heap.size + 2) T 54 wdc 0 V (.slice P1 N c1) h.m.xs
  y : Cl (w.heap.size + 2) T 54 wdc 0 V (.slice Q2 N c2) h.m.ys
  t : Blk V T 44 ((us ++ List.replicate (cT - n) tz).flatMap tvc).toArray
  h1 : n ≤ cT
  h2 : cT ≤ maxLen
  h3 : w.heap.size + 2 ≤ T
  o : Cl (T + 1) V.heap.size 3 inc 0 V (.slice A ol co) h.od
  up : Up w V
theorem Cq.kp {h : Hp} {w : World} {N n ol : Nat} {P1 : Option Addr} {c1 : Nat} {Q2 : Option Addr} {c2 T cT : Nat} {A : Option Addr} {co : Nat} {us us' : List Tv} {V V' : World} (q : Cq h w N n ol P1 c1 Q2 c2 T cT A co us V) (k : Kp [T] V V') (ht : Blk V' T 44 ((us' ++ List.replicate (cT - n) tz).flatMap tvc).toArray) : Cq h w N n ol P1 c1 Q2 c2 T cT A co us' V' :=
  ⟨q.b0.kp k (by have := q.h3; simp; omega), q.b1.kp k (by have := q.h3; simp; omega), q.x.kp k (fun g _ _ h _ => by simp; omega), q.y.kp k (fun g _ _ h _ => by simp; omega), ht, q.h1, q.h2, q.h3, (q.o.kp k (fun g _ h _ _ => by simp; omega)).mono (Nat.le_refl _) k.size, q.up.kp k (by have := q.h3; simp; omega)⟩
theorem cq_of {h : Hp} {w wb : World} {N n ol : Nat} {P1 : Option Addr} {c1 : Nat} {Q2 : Option Addr} {c2 : Nat} {w1 w2 W wa : World} {Aa Ab At Ao : Option Addr} {ca cb ct co : Nat} {us : List Tv} (hn : us.length = n) (hne : us ≠ [])
    (B0 : Blk W w.heap.size 32 #[.int .i64 N, .slice P1 N c1, .slice Q2 N c2, .int .i64 h.fs, .int .i64 h.fa, .int .i64 h.fl, .int .i64 h.ts, .int .i64 h.ta, .int .i64 h.tl, .int .i64 h.sz, .int .i64 h.lg, .slice At n ct, .int .i64 h.ph, .int .i64 h.sc, .int .i64 h.fp, .slice Ao ol co, .int .i64 h.bk])
    (B1 : Blk W (w.heap.size + 1) 32 #[.int .i64 0, .slice none 0 0, .slice none 0 0, .int .i64 0, .int .i64 0, .int .i64 0, .int .i64 0, .int .i64 0, .int .i64 0, .int .i64 0, .int .i64 0, .slice none 0 0, .int .i64 0, .int .i64 0, .int .i64 0, .slice none 0 0, .int .i64 0])
    (C1 : Cl (w.heap.size + 2) w1.heap.size 54 wdc 0 W (.slice P1 N c1) h.m.xs) (C2 : Cl (w.heap.size + 2) w2.heap.size 54 wdc 0 W (.slice Q2 N c2) h.m.ys) (h1 : w1.heap.size ≤ W.heap.size) (h2 : w2.heap.size ≤ W.heap.size) (hU : Up w W)
    (hCa : Cl W.heap.size wa.heap.size 44 tvc tz wa (.slice Aa n ca) us) (UA : Up W wa) (hCb : Cl wa.heap.size wb.heap.size 3 inc 0 wb (.slice Ab ol cb) h.od) (UB : Up wa wb) :
    ∃ T, Aa = some ⟨T, 0, none⟩ ∧ Cq h w N n ol P1 c1 Q2 c2 T ca Ab cb us ((wb.setCell ⟨w.heap.size, 11, none⟩ (.slice Aa n ca)).setCell ⟨w.heap.size, 15, none⟩ (.slice Ab ol cb)) := by
  rcases hCa with ⟨q, _⟩ | ⟨_, g, cap, e, g1, g2, g3, g4, g5⟩
  · exact absurd q hne
  cases e
  have KA := UA.trans UB
  have l0 := B0.lt
  have l1 := B1.lt
  have K : Kp [w.heap.size] wb ((wb.setCell ⟨w.heap.size, 11, none⟩ (.slice (some ⟨g, 0, none⟩) us.length ca)).setCell ⟨w.heap.size, 15, none⟩ (.slice Ab ol cb)) := ((Kp.refl _ _).set_ (by simp) _).set_ (by simp) _
  refine ⟨g, rfl, ((B0.up KA).set_ 11 _).set_ 15 _, (B1.up KA).kp K (by simp), ?_, ?_, (g5.up UB).kp K (by simp; omega), g3, g4, by omega, ?_, ((hU.trans KA).kp K (by simp))⟩
  · exact ((C1.up KA).kp K (fun g _ q _ _ => by simp; omega)).mono (Nat.le_refl _) (by omega)
  · exact ((C2.up KA).kp K (fun g _ q _ _ => by simp; omega)).mono (Nat.le_refl _) (by omega)
  · exact (hCb.kp K (fun g' _ q _ _ => by simp; omega)).mono (by omega) K.size

/-- So many threads are copied. -/
structure Lc (h : Hp) (wx : World) (T : Nat) (zs : List Tv) (us0 : List Tv) (x : Nat) (us : List Tv) (bs : Nat → Nat) (wr : World) : Prop where
  k : Kp [T] wx wr
  t : Blk wr T 44 ((us ++ zs).flatMap tvc).toArray
  n : us.length = us0.length
  old : ∀ j : Nat, x ≤ j → us[j]? = us0[j]?
  new : ∀ (j : Nat) u t, j < x → us[j]? = some u → h.th[j]? = some t → CpT (bs j) (bs (j + 1)) wr u t
  mono : ∀ j : Nat, j < x → bs j ≤ bs (j + 1)
  b0 : bs 0 = wx.heap.size
  bx : bs x ≤ wr.heap.size
theorem Lc.low {h : Hp} {wx wr : World} {T : Nat} {zs us0 us : List Tv} {bs : Nat → Nat} {x : Nat} (q : Lc h wx T zs us0 x us bs wr) : ∀ j, j ≤ x → wx.heap.size ≤ bs j
  | 0, _ => by rw [q.b0]; exact Nat.le_refl _
  | j + 1, hj => Nat.le_trans (q.low j (by omega)) (q.mono j (by omega))
/-- A thread's rows are others. -/
theorem Lc.next {h : Hp} {wx wr w5 : World} {T : Nat} {zs us0 us : List Tv} {bs : Nat → Nat} {x : Nat} {u' : Tv} {t : Th} (q : Lc h wx T zs us0 x us bs wr) (hT : T < wx.heap.size) (hx : x < us.length) (ht : h.th[x]? = some t) (K : Kp [T] wr w5) (hb : Blk w5 T 44 ((us.set x u' ++ zs).flatMap tvc).toArray) (hc : CpT wr.heap.size w5.heap.size w5 u' t) :
    Lc h wx T zs us0 (x + 1) (us.set x u') (fun j => if j ≤ x then bs j else w5.heap.size) w5 := by
  refine ⟨q.k.trans K, hb, by simp [q.n], fun j hj => ?_, fun j u t' hj hu ht' => ?_, fun j hj => ?_, ?_, ?_⟩
  · rw [List.getElem?_set_ne (by omega)]
    exact q.old j (by omega)
  · by_cases e : j = x
    · subst e
      rw [List.getElem?_set_self hx] at hu
      cases hu
      rw [ht] at ht'
      cases ht'
      rw [if_pos (Nat.le_refl _), if_neg (by omega)]
      obtain ⟨c1, c2, c3, mid, m1, m2, c4, c5, c6, c7, c8⟩ := hc
      have := q.bx
      exact ⟨c1, c2, c3, mid, by omega, m2, c4.mono this (Nat.le_refl _), c5.mono this (Nat.le_refl _), c6.mono this (Nat.le_refl _), c7.mono this (Nat.le_refl _), c8⟩
    · rw [List.getElem?_set_ne (fun q => e q.symm)] at hu
      rw [if_pos (by omega), if_pos (by omega)]
      have hl := q.low j (by omega)
      exact (q.new j u t' (by omega) hu ht').kp K (fun g hg => by simp only [List.mem_singleton] at hg; omega)
  · by_cases e : j = x
    · subst e
      rw [if_pos (Nat.le_refl _), if_neg (by omega)]
      exact Nat.le_trans q.bx K.size
    · rw [if_pos (by omega), if_pos (by omega)]
      exact q.mono j (by omega)
  · rw [if_pos (Nat.zero_le _)]; exact q.b0
  · rw [if_neg (by omega)]; exact Nat.le_refl _
theorem tget {w : World} {T j : Nat} {us zs : List Tv} {u : Tv} (hT : Blk w T 44 ((us ++ zs).flatMap tvc).toArray) (hu : us[j]? = some u) : w.cell? ⟨T, j * 8, none⟩ = some u.st ∧ w.cell? ⟨T, j * 8 + 1, none⟩ = some (.int .i64 u.ba) ∧ w.cell? ⟨T, j * 8 + 2, none⟩ = some (.int .i64 u.be) ∧ w.cell? ⟨T, j * 8 + 3, none⟩ = some u.lg ∧ w.cell? ⟨T, j * 8 + 4, none⟩ = some u.lf ∧ w.cell? ⟨T, j * 8 + 5, none⟩ = some u.pd ∧ w.cell? ⟨T, j * 8 + 6, none⟩ = some (.bool u.wt) ∧ w.cell? ⟨T, j * 8 + 7, none⟩ = some u.dn :=
  ⟨tcell hT hu 0 (by decide), tcell hT hu 1 (by decide), tcell hT hu 2 (by decide), tcell hT hu 3 (by decide), tcell hT hu 4 (by decide), tcell hT hu 5 (by decide), tcell hT hu 6 (by decide), tcell hT hu 7 (by decide)⟩

theorem cl_one {α : Type} {lo hi hi' : Nat} {e : TypeId} {cv : α → List Value} {z : α} {w w' w'' : World} {v : Value} {xs : List α} {T lo' : Nat} (h : Cl lo hi e cv z w v xs) (u : Up w w') (k : Kp [T] w' w'') (hT : T < lo) (h1 : lo' ≤ lo) (h2 : hi ≤ hi') : Cl lo' hi' e cv z w'' v xs :=
  ((h.up u).kp k fun g _ q _ _ => by simp; omega).mono h1 h2
theorem reg11 {W wa wb wc : World} {T x : Nat} {us zs : List Tv} {u : Tv} {t : Th} {v1 v2 v3 : Value} (hT : Blk W T 44 ((us ++ zs).flatMap tvc).toArray) (hu : us[x]? = some u)
    (h1 : Cl W.heap.size wa.heap.size 54 wdc 0 wa v1 t.st) (UA : Up W wa) (h2 : Cl wa.heap.size wb.heap.size 62 opc oz wb v2 t.lf) (UB : Up wa wb) (h3 : Cl wb.heap.size wc.heap.size 56 anc az wc v3 t.dn) (UC : Up wb wc) {w5 : World} (h5 : w5 = ((wc.setCell ⟨T, x * 8, none⟩ v1).setCell ⟨T, x * 8 + 4, none⟩ v2).setCell ⟨T, x * 8 + 7, none⟩ v3) :
    Kp [T] W w5 ∧ Blk w5 T 44 ((us.set x { u with st := v1, lf := v2, dn := v3 } ++ zs).flatMap tvc).toArray ∧ Cl W.heap.size w5.heap.size 54 wdc 0 w5 v1 t.st ∧ Cl W.heap.size w5.heap.size 62 opc oz w5 v2 t.lf ∧ Cl W.heap.size w5.heap.size 56 anc az w5 v3 t.dn := by
  have hTl := hT.lt
  have hxl : x < us.length := by
    rcases Nat.lt_or_ge x us.length with q | q
    · exact q
    · rw [List.getElem?_eq_none q] at hu; cases hu
  have K : Kp [T] wc w5 := by rw [h5]; exact (((Kp.refl _ _).set_ (by simp) _).set_ (by simp) _).set_ (by simp) _
  have a := UA.size
  have b := UB.size
  have c := UC.size
  have d := K.size
  have hb := hT.up ((UA.trans UB).trans UC)
  have b1 := tset (u' := { u with st := v1 }) (v := v1) hb hu 0 (by decide) rfl
  have b2 := tset (u' := { u with st := v1, lf := v2 }) (v := v2) b1 (List.getElem?_set_self hxl) 4 (by decide) rfl
  rw [List.set_set] at b2
  have b3 := tset (u' := { u with st := v1, lf := v2, dn := v3 }) (v := v3) b2 (List.getElem?_set_self hxl) 7 (by decide) rfl
  rw [List.set_set] at b3
  exact ⟨(Kp.of_up ((UA.trans UB).trans UC)).trans K, by rw [h5]; exact b3, cl_one h1 (UB.trans UC) K (by omega) (Nat.le_refl _) (by omega), cl_one h2 UC K (by omega) a (by omega), cl_one h3 (Up.refl _) K (by omega) (by omega) (by omega)⟩
theorem reg12 {W wa wb : World} {T x : Nat} {us zs : List Tv} {u : Tv} {t : Th} {v1 v2 : Value} (hT : Blk W T 44 ((us ++ zs).flatMap tvc).toArray) (hu : us[x]? = some u)
    (h1 : Cl W.heap.size wa.heap.size 66 enc ez wa v1 t.lg) (UA : Up W wa) (h2 : Cl wa.heap.size wb.heap.size 66 enc ez wb v2 t.pd) (UB : Up wa wb) {w5 : World} (h5 : w5 = (wb.setCell ⟨T, x * 8 + 3, none⟩ v1).setCell ⟨T, x * 8 + 5, none⟩ v2) :
    Kp [T] W w5 ∧ Blk w5 T 44 ((us.set x { u with lg := v1, pd := v2 } ++ zs).flatMap tvc).toArray ∧ ∃ mid, W.heap.size ≤ mid ∧ mid ≤ w5.heap.size ∧ Cl W.heap.size mid 66 enc ez w5 v1 t.lg ∧ Cl mid w5.heap.size 66 enc ez w5 v2 t.pd := by
  have hTl := hT.lt
  have hxl : x < us.length := by
    rcases Nat.lt_or_ge x us.length with q | q
    · exact q
    · rw [List.getElem?_eq_none q] at hu; cases hu
  have K : Kp [T] wb w5 := by rw [h5]; exact ((Kp.refl _ _).set_ (by simp) _).set_ (by simp) _
  have a := UA.size
  have b := UB.size
  have d := K.size
  have hb := hT.up (UA.trans UB)
  have b1 := tset (u' := { u with lg := v1 }) (v := v1) hb hu 3 (by decide) rfl
  have b2 := tset (u' := { u with lg := v1, pd := v2 }) (v := v2) b1 (List.getElem?_set_self hxl) 5 (by decide) rfl
  rw [List.set_set] at b2
  exact ⟨(Kp.of_up (UA.trans UB)).trans K, by rw [h5]; exact b2, wa.heap.size, a, by omega, cl_one h1 UB K (by omega) (Nat.le_refl _) (Nat.le_refl _), cl_one h2 (Up.refl _) K (by omega) (Nat.le_refl _) (by omega)⟩

end Go.Proofs.YtddoljfkbkbfjaaGreat.T
