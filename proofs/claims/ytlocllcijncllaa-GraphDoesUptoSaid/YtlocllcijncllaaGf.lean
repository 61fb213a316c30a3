/- A deed's steps that read handles, and its room (graph's deed: first, second, room): contracts. -/
import Derived.Test.YtlocllcijncllaaGe
namespace Go.Proofs.Ytlocllcijncllaa
open Go.Joins Go.ChangeShapes Go.WideShapes Go.ChangeAt Go.RowKit Go.Deep Go.Shelf Go.Maps
set_option linter.unusedVariables false
set_option linter.unusedSimpArgs false

/-- What a step leaves. -/
def Sp (base D : Nat) (x : Int) (g : Gr) (th : Int) (o : Op) (s : Kn) (w : World) (e : Ending) (w' : World) : Prop := e = .returned (.int .i64 x) ∧ Kf base w w' ∧ St base D w' g th o s
theorem St.set_ {base D : Nat} {w : World} {g : Gr} {th : Int} {o : Op} {s : Kn} {vn vs : Value} {us us2 : List Value} {BF GS BS : Nat} (hD : Blk w D 70 (dcs vn vs th o s)) (hO : OwnG base w vn vs g us us2 BF GS BS) (hB : base ≤ D) (i : Nat) (u : Value) (s' : Kn)
    (h : (dcs vn vs th o s).setIfInBounds i u = dcs vn vs th o s') : Kf base w (w.setCell ⟨D, i, none⟩ u) ∧ St base D (w.setCell ⟨D, i, none⟩ u) g th o s' := by
  refine ⟨Kf.set_ hD hB (by decide) (by decide) i u, vn, vs, us, us2, BF, GS, BS, ?_, hO.far hD (by decide) (by decide) (by decide) (by decide) i u, hB⟩
  rw [← h]
  exact hD.set_ i u
theorem first_st (base D : Nat) (g : Gr) (th : Int) (o : Op) (s : Kn) (w : World) (hS : St base D w g th o s) (ht : isTh g th) :
    Calls Try.prog 67 #[.pointer (some ⟨D, 0, none⟩)] w (Sp base D (gte (rowOf g th) o.h) g th o { s with h := gtv (rowOf g th) o.h } w) := by
  have hc := Lib.hid (handle_st base D g th o s o.h w hS ht)
  obtain ⟨vn, vs, us, us2, BF, GS, BS, hD, hO, hB⟩ := hS
  have HD := Lib.hid hD
  have HO := Lib.hid hO
  have hcD := hD.cell
  have hfD := hD.frozen
  have hlD := hD.lt
  unfold dcs at hcD
  generalize gtv (rowOf g th) o.h = hv at *
  generalize gte (rowOf g th) o.h = x at *
  clear hD hO
  go_enter Try.func67, Try.ntmps67
  go_wp2_with (fail)
  refine hc.out.mono ?_
  rintro e w1 ⟨rfl, m, rfl⟩
  go_wp2
  go_ret
  obtain ⟨h1, h2⟩ := St.set_ (HD.out.up ((Up.refl w).drewN m)) (HO.out.up ((Up.refl w).drewN m)) hB 11 (.int .i64 hv) { s with h := hv } rfl
  exact ⟨rfl, (Kf.of_up ((Up.refl w).drewN m)).trans h1, h2⟩
theorem second_st (base D : Nat) (g : Gr) (th : Int) (o : Op) (s : Kn) (w : World) (hS : St base D w g th o s) (ht : isTh g th) :
    Calls Try.prog 66 #[.pointer (some ⟨D, 0, none⟩)] w (Sp base D (gte (rowOf g th) o.k) g th o { s with k := gtv (rowOf g th) o.k } w) := by
  have hc := Lib.hid (handle_st base D g th o s o.k w hS ht)
  obtain ⟨vn, vs, us, us2, BF, GS, BS, hD, hO, hB⟩ := hS
  have HD := Lib.hid hD
  have HO := Lib.hid hO
  have hcD := hD.cell
  have hfD := hD.frozen
  have hlD := hD.lt
  unfold dcs at hcD
  generalize gtv (rowOf g th) o.k = hv at *
  generalize gte (rowOf g th) o.k = x at *
  clear hD hO
  go_enter Try.func66, Try.ntmps66
  go_wp2_with (fail)
  refine hc.out.mono ?_
  rintro e w1 ⟨rfl, m, rfl⟩
  go_wp2
  go_ret
  obtain ⟨h1, h2⟩ := St.set_ (HD.out.up ((Up.refl w).drewN m)) (HO.out.up ((Up.refl w).drewN m)) hB 12 (.int .i64 hv) { s with k := hv } rfl
  exact ⟨rfl, (Kf.of_up ((Up.refl w).drewN m)).trans h1, h2⟩
/-- Has the thread room? -/
def rme (g : Gr) (th : Int) : Int := if (rowOf g th).length < 16 then 0 else 4
theorem room_st (base D : Nat) (g : Gr) (th : Int) (o : Op) (s : Kn) (w : World) (hS : St base D w g th o s) (ht : isTh g th) :
    Calls Try.prog 61 #[.pointer (some ⟨D, 0, none⟩)] w (Sp base D (rme g th) g th o s w) := by
  obtain ⟨A, hs, hc⟩ := row_st base D g th o s w hS ht
  have hc := Lib.hid (hc 0)
  have HS := Lib.hid hS
  have hmax := hs.max
  unfold maxLen at hmax
  clear hS ht hs
  unfold rme
  generalize (rowOf g th).length = n at *
  have hu := Lib.hid (fun w => unless_any (decide (n < 16)) 4 w)
  by_cases h : n < 16
  · have d : decide ((n : Int) < 16) = true := decide_eq_true (by omega)
    rw [decide_eq_true h] at hu
    rw [if_pos h]
    clear h
    go_enter Try.func61, Try.ntmps61
    go_wp2_with (fail)
    refine hc.out.mono ?_
    rintro e w1 ⟨rfl, m, rfl⟩
    go_wp2_with (fail)
    refine (hu.out _).mono ?_
    rintro e w1 ⟨rfl, rfl⟩
    go_wp2
    go_ret
    exact ⟨rfl, .of_up ((Up.refl w).drewN m), HS.out.up ((Up.refl w).drewN m)⟩
  · have d : decide ((n : Int) < 16) = false := decide_eq_false (by omega)
    rw [decide_eq_false h] at hu
    rw [if_neg h]
    clear h
    go_enter Try.func61, Try.ntmps61
    go_wp2_with (fail)
    refine hc.out.mono ?_
    rintro e w1 ⟨rfl, m, rfl⟩
    go_wp2_with (fail)
    refine (hu.out _).mono ?_
    rintro e w1 ⟨rfl, rfl⟩
    go_wp2
    go_ret
    exact ⟨rfl, .of_up ((Up.refl w).drewN m), HS.out.up ((Up.refl w).drewN m)⟩
end Go.Proofs.Ytlocllcijncllaa
