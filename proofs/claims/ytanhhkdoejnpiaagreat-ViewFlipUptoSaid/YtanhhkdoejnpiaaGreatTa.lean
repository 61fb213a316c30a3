/- view.Alike: contract. -/
import Derived.Test.YtanhhkdoejnpiaaGreatRh
import Derived.Test.YtanhhkdoejnpiaaGreatGe
import Derived.Test.YtanhhkdoejnpiaaGreatGi
namespace Go.Proofs.YtanhhkdoejnpiaaGreat.G
open Go.Joins Go.ChangeShapes Go.WideShapes Go.ChangeAt Go.RowKit Go.Deep Go.Shelf Go.Maps
set_option linter.unusedVariables false
set_option linter.unusedSimpArgs false

theorem canon_let (v : Value) (g : Gr) (w : World) (hg : GrV w v g) (hR : Rg g) (hn : g.1.length ≤ 1000) (hF : FitG g) : Calls Tryz.prog 54 #[v] w fun e w' => ∃ A a c B b d, e = .returned (.agg #[.slice A a c, .slice B b d]) ∧ GrV w' (.agg #[.slice A a c, .slice B b d]) (canon g) ∧ Up w w' :=
  (canon_any v g w hg hR hn hF).mono fun e w' h => by
    obtain ⟨u, rfl, h1, h2⟩ := h
    obtain ⟨A, c, B, d, rfl, _, _⟩ := h1.form
    exact ⟨A, _, c, B, _, d, rfl, h1, h2⟩
set_option maxRecDepth 100000 in
set_option maxHeartbeats 4000000 in
theorem alike_any (m : Me) (P Q : Addr) (c d : Nat) (v : Value) (L : List (List Int)) (u : Value) (g : Gr) (w : World) (hm : Sits w m P Q c d) (hwf : m.wf) (hL : Rw .u64 w v L) (hO : RwOk L) (hs : L.length ≤ 1048576) (hg : GrV w u g) (hR : Rg g) (hn : g.1.length ≤ 1000) (hF : FitG g) :
    Calls Tryz.prog 20 #[mev m.n P Q c d, v, u] w fun e w' => e = .returned (.bool (ofB m L && decide (ofG m L = canon g))) ∧ Up w w' := by
  have HOF := Lib.hid (fun V (k : Up w V) => of_any m P Q c d v L V (hm.up k) hwf (hL.up k) hO hs)
  obtain ⟨A, cu, rfl, -⟩ := hL.slice
  have HG := Lib.hid (fun V (k : Up w V) => hg.up k)
  have HCA := Lib.hid (fun V u (h : GrV V u g) => canon_let u g V h hR hn hF)
  obtain ⟨Ag, cg, Bg, dg, rfl, -, -⟩ := hg.form
  clear hm hwf hL hO hs hg hR hn hF
  generalize g.1.length = gn at *
  generalize g.2.length = gm at *
  have HBM := Lib.hid ((Blk.new w 25 (mec m.n P Q c d)).alloc (.cells #[.slice Ag gn cg, .slice Bg gm dg] 30))
  have HBG := Lib.hid (Blk.new' (w.alloc (.cells (mec m.n P Q c d) 25)) (g := w.heap.size + 1) (by simp) 30 #[.slice Ag gn cg, .slice Bg gm dg])
  have HK1 : Hid (Up w ((w.alloc (.cells (mec m.n P Q c d) 25)).alloc (.cells #[.slice Ag gn cg, .slice Bg gm dg] 30))) := Lib.hid (((Up.refl w).alloc _).alloc _)
  cases hb : ofB m L with
  | false =>
    rw [hb] at HOF
    go_enter Tryz.func20, Tryz.ntmps20
    go_wp2_with (fail)
    refine (HOF.out _ HK1.out).mono ?_
    intro e w1 hp
    rw [if_neg (by decide)] at hp
    obtain ⟨rfl, k1⟩ := hp
    have HU1 := Lib.hid (((HK1.out.trans k1).alloc (.cells gcz 30)).drew)
    clear k1
    go_wp2_with (fail)
    go_region
    go_wp2
    go_ret
    exact ⟨rfl, HU1.out⟩
  | true =>
    rw [hb] at HOF
    go_enter Tryz.func20, Tryz.ntmps20
    go_wp2_with (fail)
    refine (HOF.out _ HK1.out).mono ?_
    intro e w1 hp
    rw [if_pos trivial] at hp
    obtain ⟨A1, c1, B1, d1, rfl, hg1, k1⟩ := hp
    generalize (m.rch L.flatten).length = rn at *
    generalize L.length = n at *
    have kx : Up w1 (w1.alloc (.cells #[.slice A1 rn c1, .slice B1 n d1] 30)) := (Up.refl w1).alloc _
    have U1 := (HK1.out.trans k1).trans kx
    have b5 := (HBG.out.up k1).up kx
    have b7 := Blk.new w1 30 #[.slice A1 rn c1, .slice B1 n d1]
    have hg5 := HG.out _ U1
    have hg7 := hg1.up kx
    have c5 := b5.drew
    have c7 := b7.drew
    have U2 := Lib.hid U1.drew
    have h5 := hg5.up (Up.refl _).drew
    have h7 := hg7.up (Up.refl _).drew
    clear k1 kx hg1 b5 b7 U1 hg5 hg7
    have UU := Up.refl (w1.alloc (.cells #[.slice A1 rn c1, .slice B1 n d1] 30)).drew
    have HSM := Lib.hid (fun V u (k : Up (w1.alloc (.cells #[.slice A1 rn c1, .slice B1 n d1] 30)).drew V) (h : GrV V u (canon g)) => same_g (.agg #[.slice A1 rn c1, .slice B1 n d1]) u (ofG m L) (canon g) V (h7.up k) h)
    have HCN := Lib.hid (fun V (k : Up (w1.alloc (.cells #[.slice A1 rn c1, .slice B1 n d1] 30)).drew V) => HCA.out V _ (h5.up k))
    obtain ⟨q, hq⟩ : ∃ q, decide (ofG m L = canon g) = q := ⟨_, rfl⟩
    rw [hq] at HSM
    have HQ := Lib.hid hq
    clear hq
    go_wp2_with (fail)
    go_region_held3 (fun w' => (∀ i, w'.cell? ⟨w.heap.size + 1, i, none⟩ = (#[.slice Ag gn cg, .slice Bg gm dg] : Array Value)[i]?) ∧ (∀ i, w'.cell? ⟨w1.heap.size, i, none⟩ = (#[.slice A1 rn c1, .slice B1 n d1] : Array Value)[i]?))
      (exact ⟨fun i => (Blk.up c5 (by assumption)).cell i, fun i => (Blk.up c7 (by assumption)).cell i⟩)
      (first
        | (go_at_call 54; ((with_reducible refine (HCN.out _ (by assumption)).mono ?_); rintro e wz ⟨A9, a9, c9, B9, b9, d9, rfl, sg, hz⟩; have UZ := Up.trans (a := (w1.alloc (.cells #[.slice A1 rn c1, .slice B1 n d1] 30)).drew) (by assumption) hz))
        | (go_at_call 53; ((with_reducible refine (HSM.out _ _ (by assumption) (by assumption)).mono ?_); rintro e wz ⟨rfl, hz⟩; have UZ := Up.trans (a := (w1.alloc (.cells #[.slice A1 rn c1, .slice B1 n d1] 30)).drew) (by assumption) hz)))
    have HU3 := Lib.hid (U2.out.trans UZ)
    go_wp2
    go_ret
    exact ⟨by rw [HQ.out]; rfl, HU3.out⟩
end Go.Proofs.YtanhhkdoejnpiaaGreat.G
