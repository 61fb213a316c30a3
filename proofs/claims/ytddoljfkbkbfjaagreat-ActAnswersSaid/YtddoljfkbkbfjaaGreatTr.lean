/- A thread's rows once more, the first three of them (a piece of act.copied): contract. -/
import Derived.Test.YtddoljfkbkbfjaaGreatTc
import Derived.Deep.CutRange
import Derived.Deep.RegionHeld3
namespace Go.Proofs.YtddoljfkbkbfjaaGreat.T
open G
open Go.Joins Go.ChangeShapes Go.WideShapes Go.ChangeAt Go.RowKit Go.Deep Go.Shelf Go.Maps
set_option linter.unusedVariables false
set_option linter.unusedSimpArgs false

def findReg (k : Nat) : Code → Option Code
  | .region i ops d => if i = k then some (.region i ops d) else none
  | .seq a b => match findReg k a with
    | some c => some c
    | none => findReg k b
  | .block _ c => findReg k c
  | .loop c => findReg k c
  | .scope c => findReg k c
  | .cond _ a b => match findReg k a with
    | some c => some c
    | none => findReg k b
  | _ => none
noncomputable def copied11 : Code := ((Tryz.f53.body.bind (findReg 11)).getD .skip)
set_option maxRecDepth 100000 in
set_option maxHeartbeats 8000000 in
theorem copied11_wp {T x : Nat} {us zs : List Tv} {t : Th} {A3 A4 A5 A6 A7 : Option Addr} {c3 c4 c5 c6 c7 n1 n2 n3 n4 n5 : Nat} {uba ube : Int} {uwt : Bool} {wr : World} (HTb : Hid (Blk wr T 44 ((us ++ zs).flatMap tvc).toArray)) (Hu : Hid (us[x]? = some ⟨.slice A3 n1 c3, uba, ube, .slice A4 n2 c4, .slice A5 n3 c5, .slice A6 n4 c6, uwt, .slice A7 n5 c7⟩))
    (HC1 : Hid (∀ W, Up wr W → Calls Tryz.prog 68 #[.slice A3 n1 c3] W (ClP 54 wdc 0 n1 t.st W)))
    (HC2 : Hid (∀ W, Up wr W → Calls Tryz.prog 71 #[.slice A5 n3 c5] W (ClP 62 opc oz n3 t.lf W)))
    (HC3 : Hid (∀ W, Up wr W → Calls Tryz.prog 72 #[.slice A7 n5 c7] W (ClP 56 anc az n5 t.dn W)))
    (u0 u1 u2 u3 u4 u5 u7 u8 u9 u10 u11 u12 u13 u14 u15 u16 u17 u18 u19 u20 u21 u22 u23 u24 u25 u26 u27 u28 u29 u30 u31 u32 u33 u34 u35 u36 u37 u38 u39 u40 u41 u42 u43 u44 u45 u46 u47 u48 u49 u50 u51 u52 u53 u54 u55 u56 u57 u58 u59 u60 u61 u62 u63 u64 u65 u66 u67 u68 u69 u70 u71 u72 u73 u74 u75 u76 u77 u78 u79 u80 : Value) (K : Act → World → Prop) (Q0 : Exit → Act → World → Prop)
    (HK : Hid (∀ (y39 y40 y41 y42 y43 y44 y45 y46 y47 y48 y49 y50 y51 y52 y53 y54 y55 y56 y57 y58 y59 y60 y61 y62 : Value) (w5 : World), (∃ v1 v2 v3, Kp [T] wr w5 ∧ Blk w5 T 44 ((us.set x ⟨v1, uba, ube, .slice A4 n2 c4, v2, .slice A6 n4 c6, uwt, v3⟩ ++ zs).flatMap tvc).toArray ∧ Cl wr.heap.size w5.heap.size 54 wdc 0 w5 v1 t.st ∧ Cl wr.heap.size w5.heap.size 62 opc oz w5 v2 t.lf ∧ Cl wr.heap.size w5.heap.size 56 anc az w5 v3 t.dn) → K ⟨#[u0, u1, u2, u3, u4, u5, .pointer (some ⟨T, x * 8, none⟩), u7, u8, u9, u10, u11, u12, u13, u14, u15, u16, u17, u18, u19, u20, u21, u22, u23, u24, u25, u26, u27, u28, u29, u30, u31, u32, u33, u34, u35, u36, u37, u38, y39, y40, y41, y42, y43, y44, y45, y46, y47, y48, y49, y50, y51, y52, y53, y54, y55, y56, y57, y58, y59, y60, y61, y62, u63, u64, u65, u66, u67, u68, u69, u70, u71, u72, u73, u74, u75, u76, u77, u78, u79, u80], []⟩ w5)) :
    Code.wp Tryz.prog copied11 (Exit.then K Q0) ⟨#[u0, u1, u2, u3, u4, u5, .pointer (some ⟨T, x * 8, none⟩), u7, u8, u9, u10, u11, u12, u13, u14, u15, u16, u17, u18, u19, u20, u21, u22, u23, u24, u25, u26, u27, u28, u29, u30, u31, u32, u33, u34, u35, u36, u37, u38, u39, u40, u41, u42, u43, u44, u45, u46, u47, u48, u49, u50, u51, u52, u53, u54, u55, u56, u57, u58, u59, u60, u61, u62, u63, u64, u65, u66, u67, u68, u69, u70, u71, u72, u73, u74, u75, u76, u77, u78, u79, u80], []⟩ wr := by
  conv => arg 2; whnf
  have tc : Hid (∀ W, Up wr W → W.cell? ⟨T, x * 8, none⟩ = some (.slice A3 n1 c3) ∧ W.cell? ⟨T, x * 8 + 4, none⟩ = some (.slice A5 n3 c5) ∧ W.cell? ⟨T, x * 8 + 7, none⟩ = some (.slice A7 n5 c7)) := Lib.hid (fun W k => by
    obtain ⟨a0, -, -, a3, a4, a5, -, a7⟩ := tget (HTb.out.up k) Hu.out
    exact ⟨a0, a4, a7⟩)
  have HR := Lib.hid (fun v1 v2 v3 wa wb wc w5 h1 UA h2 UB h3 UC h5 => reg11 (t := t) (v1 := v1) (v2 := v2) (v3 := v3) (wa := wa) (wb := wb) (wc := wc) (w5 := w5) HTb.out.drew Hu.out h1 UA h2 UB h3 UC h5)
  obtain ⟨t0d, t4d, t7d⟩ := tc.out _ (Up.refl wr).drew
  have tl : T < wr.drew.heap.size := HTb.out.lt
  have tfd := HTb.out.drew.frozen
  have UD := (Up.refl wr).drew
  refine wp_region_noPanic ?_
  go_region_with (first
    | (go_at_call 68; ((with_reducible refine (HC1.out _ UD).mono ?_); rintro e wa ⟨Aa, ca, rfl, hCa, UA⟩; obtain ⟨ta0, ta4, ta7⟩ := tc.out _ (UD.trans UA)))
    | (go_at_call 71; ((with_reducible refine (HC2.out _ (UD.trans UA)).mono ?_); rintro e wb ⟨Ab, cb, rfl, hCb, UB⟩; obtain ⟨tb0, tb4, tb7⟩ := tc.out _ ((UD.trans UA).trans UB)))
    | (go_at_call 72; ((with_reducible refine (HC3.out _ ((UD.trans UA).trans UB)).mono ?_); rintro e wc ⟨Ac, cc, rfl, hCc, UC⟩; obtain ⟨tz0, tz4, tz7⟩ := tc.out _ (((UD.trans UA).trans UB).trans UC); have tzb := HTb.out.up (((UD.trans UA).trans UB).trans UC); have tzf := tzb.frozen; have tzl := tzb.lt)))
  all_goals
    refine NoPanic.normal ?_
    obtain ⟨r1, r2⟩ := HR.out _ _ _ _ _ _ _ hCa UA hCb UB hCc UC rfl
    exact HK.out _ _ _ _ _ _ _ _ _ _ _ _ _ _ _ _ _ _ _ _ _ _ _ _ _ ⟨_, _, _, (Kp.of_up (Up.refl wr).drew).trans r1, r2⟩
end Go.Proofs.YtddoljfkbkbfjaaGreat.T
