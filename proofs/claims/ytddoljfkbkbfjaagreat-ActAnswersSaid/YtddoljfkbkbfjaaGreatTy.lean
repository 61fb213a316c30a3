/- A Heap is read out of the step's block into the result's box: the last regions of act.Answer and act.Do, over letters. -/
import Derived.Test.YtddoljfkbkbfjaaGreatTx
namespace Go.Proofs.YtddoljfkbkbfjaaGreat.T
open G
open Go.Joins Go.ChangeShapes Go.WideShapes Go.ChangeAt Go.RowKit Go.Deep Go.Shelf Go.Maps
set_option linter.unusedVariables false
set_option linter.unusedSimpArgs false

noncomputable def answer5 : Code := ((Tryz.f22.body.bind (findReg 5)).getD .skip)
set_option maxRecDepth 100000 in
set_option maxHeartbeats 4000000 in
theorem answer5_wp {h : Hp} {P Q : Addr} {c d n k m l : Nat} {A B : Option Addr} {j : Nat} {q : Addr} {o : Op} {s : Ks} {D g : Nat} {w : World} (hb : Blk w D 78 (stc h P Q c d (.slice A n k) (.slice B m l) j q o s)) (hg : Blk w g 32 hz)
    (u0 u1 u2 u3 u4 u5 u8 u9 u10 u11 u12 u13 u14 u15 u16 u17 u18 u19 u20 u21 u22 : Value) (K : Act → World → Prop) (Q0 : Exit → Act → World → Prop)
    (HK : Hid (∀ (y19 y20 y21 y22 : Value) (w5 : World), Blk w5 g 32 (hpc h P Q c d (.slice A n k) (.slice B m l)) → Kp [g] w w5 → K ⟨#[u0, u1, u2, u3, u4, u5, .pointer (some ⟨g, 0, none⟩), .pointer (some ⟨D, 0, none⟩), u8, u9, u10, u11, u12, u13, u14, u15, u16, u17, u18, y19, y20, y21, y22], []⟩ w5)) :
    Code.wp Tryz.prog answer5 (Exit.then K Q0) ⟨#[u0, u1, u2, u3, u4, u5, .pointer (some ⟨g, 0, none⟩), .pointer (some ⟨D, 0, none⟩), u8, u9, u10, u11, u12, u13, u14, u15, u16, u17, u18, u19, u20, u21, u22], []⟩ w := by
  conv => arg 2; whnf
  have dc := hb.cell
  unfold stc at dc
  have dl := hb.lt
  have zl := hg.lt
  have zf := hg.frozen
  have zc := hg.cell
  unfold hz at zc
  have HG := Lib.hid hg
  clear hb hg
  go_wp2_with (fail)
  exact HK.out _ _ _ _ _ (Blk.set17 HG.out _ _ _ _ _ _ _ _ _ _ _ _ _ _ _ _ _) (kp_set17 w g (.int .i64 h.m.n) (.slice (some P) h.m.n c) (.slice (some Q) h.m.n d) (.int .i64 h.fs) (.int .i64 h.fa) (.int .i64 h.fl) (.int .i64 h.ts) (.int .i64 h.ta) (.int .i64 h.tl) (.int .i64 h.sz) (.int .i64 h.lg) (.slice A n k) (.int .i64 h.ph) (.int .i64 h.sc) (.int .i64 h.fp) (.slice B m l) (.int .i64 h.bk))
noncomputable def do7 : Code := ((Tryz.f11.body.bind (findReg 7)).getD .skip)
set_option maxRecDepth 100000 in
set_option maxHeartbeats 4000000 in
theorem do7_wp {h : Hp} {P Q : Addr} {c d n k m l : Nat} {A B : Option Addr} {j : Nat} {q : Addr} {o : Op} {s : Ks} {D g : Nat} {w : World} (hb : Blk w D 78 (stc h P Q c d (.slice A n k) (.slice B m l) j q o s)) (hg : Blk w g 32 hz)
    (u0 u1 u2 u3 u6 u7 u8 u9 u10 u11 u12 u13 u14 u15 u16 u17 u18 u19 u20 u21 u22 u23 u24 u25 u26 u27 u28 u29 u30 u31 u32 u33 u34 u35 u36 u37 u38 u39 u40 u41 u42 u43 u44 u45 u46 u47 u48 u49 u50 u51 u52 u53 u54 u55 u56 u57 u58 u59 u60 u61 u62 u63 u64 : Value) (K : Act → World → Prop) (Q0 : Exit → Act → World → Prop)
    (HK : Hid (∀ (y61 y62 y63 y64 : Value) (w5 : World), Blk w5 g 32 (hpc h P Q c d (.slice A n k) (.slice B m l)) → Kp [g] w w5 → K ⟨#[u0, u1, u2, u3, .pointer (some ⟨g, 0, none⟩), .pointer (some ⟨D, 0, none⟩), u6, u7, u8, u9, u10, u11, u12, u13, u14, u15, u16, u17, u18, u19, u20, u21, u22, u23, u24, u25, u26, u27, u28, u29, u30, u31, u32, u33, u34, u35, u36, u37, u38, u39, u40, u41, u42, u43, u44, u45, u46, u47, u48, u49, u50, u51, u52, u53, u54, u55, u56, u57, u58, u59, u60, y61, y62, y63, y64], []⟩ w5)) :
    Code.wp Tryz.prog do7 (Exit.then K Q0) ⟨#[u0, u1, u2, u3, .pointer (some ⟨g, 0, none⟩), .pointer (some ⟨D, 0, none⟩), u6, u7, u8, u9, u10, u11, u12, u13, u14, u15, u16, u17, u18, u19, u20, u21, u22, u23, u24, u25, u26, u27, u28, u29, u30, u31, u32, u33, u34, u35, u36, u37, u38, u39, u40, u41, u42, u43, u44, u45, u46, u47, u48, u49, u50, u51, u52, u53, u54, u55, u56, u57, u58, u59, u60, u61, u62, u63, u64], []⟩ w := by
  conv => arg 2; whnf
  have dc := hb.cell
  unfold stc at dc
  have dl := hb.lt
  have zl := hg.lt
  have zf := hg.frozen
  have zc := hg.cell
  unfold hz at zc
  have HG := Lib.hid hg
  clear hb hg
  go_wp2_with (fail)
  exact HK.out _ _ _ _ _ (Blk.set17 HG.out _ _ _ _ _ _ _ _ _ _ _ _ _ _ _ _ _) (kp_set17 w g (.int .i64 h.m.n) (.slice (some P) h.m.n c) (.slice (some Q) h.m.n d) (.int .i64 h.fs) (.int .i64 h.fa) (.int .i64 h.fl) (.int .i64 h.ts) (.int .i64 h.ta) (.int .i64 h.tl) (.int .i64 h.sz) (.int .i64 h.lg) (.slice A n k) (.int .i64 h.ph) (.int .i64 h.sc) (.int .i64 h.fp) (.slice B m l) (.int .i64 h.bk))
noncomputable def answer2 : Code := ((Tryz.f22.body.bind (findReg 2)).getD .skip)
set_option maxRecDepth 100000 in
set_option maxHeartbeats 4000000 in
theorem answer2_wp {h : Hp} {P Q : Addr} {c d n k m l : Nat} {A B : Option Addr} {b g : Nat} {w : World} (hb : Blk w b 32 (hpc h P Q c d (.slice A n k) (.slice B m l))) (hg : Blk w g 32 hz)
    (u0 u1 u2 u4 u5 u7 u8 u9 u10 u11 u12 u13 u14 u15 u16 u17 u18 u19 u20 u21 u22 : Value) (K : Act → World → Prop) (Q0 : Exit → Act → World → Prop)
    (HK : Hid (∀ (y12 : Value) (w5 : World), Blk w5 g 32 (hpc h P Q c d (.slice A n k) (.slice B m l)) → Kp [g] w w5 → K ⟨#[u0, u1, u2, .pointer (some ⟨b, 0, none⟩), u4, u5, .pointer (some ⟨g, 0, none⟩), u7, u8, u9, u10, u11, y12, u13, u14, u15, u16, u17, u18, u19, u20, u21, u22], []⟩ w5)) :
    Code.wp Tryz.prog answer2 (Exit.then K Q0) ⟨#[u0, u1, u2, .pointer (some ⟨b, 0, none⟩), u4, u5, .pointer (some ⟨g, 0, none⟩), u7, u8, u9, u10, u11, u12, u13, u14, u15, u16, u17, u18, u19, u20, u21, u22], []⟩ w := by
  conv => arg 2; whnf
  have dc := hb.cell
  unfold hpc at dc
  have dl := hb.lt
  have zl := hg.lt
  have zf := hg.frozen
  have zc := hg.cell
  unfold hz at zc
  have HG := Lib.hid hg
  clear hb hg
  go_wp2_with (fail)
  exact HK.out _ _ (Blk.set17 HG.out _ _ _ _ _ _ _ _ _ _ _ _ _ _ _ _ _) (kp_set17 w g (.int .i64 h.m.n) (.slice (some P) h.m.n c) (.slice (some Q) h.m.n d) (.int .i64 h.fs) (.int .i64 h.fa) (.int .i64 h.fl) (.int .i64 h.ts) (.int .i64 h.ta) (.int .i64 h.tl) (.int .i64 h.sz) (.int .i64 h.lg) (.slice A n k) (.int .i64 h.ph) (.int .i64 h.sc) (.int .i64 h.fp) (.slice B m l) (.int .i64 h.bk))
noncomputable def do2 : Code := ((Tryz.f11.body.bind (findReg 2)).getD .skip)
set_option maxRecDepth 100000 in
set_option maxHeartbeats 4000000 in
theorem do2_wp {h : Hp} {P Q : Addr} {c d n k m l : Nat} {A B : Option Addr} {b g : Nat} {w : World} (hb : Blk w b 32 (hpc h P Q c d (.slice A n k) (.slice B m l))) (hg : Blk w g 32 hz)
    (u0 u1 u3 u5 u6 u7 u8 u9 u10 u11 u12 u13 u14 u15 u16 u17 u18 u19 u20 u21 u22 u23 u24 u25 u26 u27 u28 u29 u30 u31 u32 u33 u34 u35 u36 u37 u38 u39 u40 u41 u42 u43 u44 u45 u46 u47 u48 u49 u50 u51 u52 u53 u54 u55 u56 u57 u58 u59 u60 u61 u62 u63 u64 : Value) (K : Act → World → Prop) (Q0 : Exit → Act → World → Prop)
    (HK : Hid (∀ (y10 : Value) (w5 : World), Blk w5 g 32 (hpc h P Q c d (.slice A n k) (.slice B m l)) → Kp [g] w w5 → K ⟨#[u0, u1, .pointer (some ⟨b, 0, none⟩), u3, .pointer (some ⟨g, 0, none⟩), u5, u6, u7, u8, u9, y10, u11, u12, u13, u14, u15, u16, u17, u18, u19, u20, u21, u22, u23, u24, u25, u26, u27, u28, u29, u30, u31, u32, u33, u34, u35, u36, u37, u38, u39, u40, u41, u42, u43, u44, u45, u46, u47, u48, u49, u50, u51, u52, u53, u54, u55, u56, u57, u58, u59, u60, u61, u62, u63, u64], []⟩ w5)) :
    Code.wp Tryz.prog do2 (Exit.then K Q0) ⟨#[u0, u1, .pointer (some ⟨b, 0, none⟩), u3, .pointer (some ⟨g, 0, none⟩), u5, u6, u7, u8, u9, u10, u11, u12, u13, u14, u15, u16, u17, u18, u19, u20, u21, u22, u23, u24, u25, u26, u27, u28, u29, u30, u31, u32, u33, u34, u35, u36, u37, u38, u39, u40, u41, u42, u43, u44, u45, u46, u47, u48, u49, u50, u51, u52, u53, u54, u55, u56, u57, u58, u59, u60, u61, u62, u63, u64], []⟩ w := by
  conv => arg 2; whnf
  have dc := hb.cell
  unfold hpc at dc
  have dl := hb.lt
  have zl := hg.lt
  have zf := hg.frozen
  have zc := hg.cell
  unfold hz at zc
  have HG := Lib.hid hg
  clear hb hg
  go_wp2_with (fail)
  exact HK.out _ _ (Blk.set17 HG.out _ _ _ _ _ _ _ _ _ _ _ _ _ _ _ _ _) (kp_set17 w g (.int .i64 h.m.n) (.slice (some P) h.m.n c) (.slice (some Q) h.m.n d) (.int .i64 h.fs) (.int .i64 h.fa) (.int .i64 h.fl) (.int .i64 h.ts) (.int .i64 h.ta) (.int .i64 h.tl) (.int .i64 h.sz) (.int .i64 h.lg) (.slice A n k) (.int .i64 h.ph) (.int .i64 h.sc) (.int .i64 h.fp) (.slice B m l) (.int .i64 h.bk))
end Go.Proofs.YtddoljfkbkbfjaaGreat.T
