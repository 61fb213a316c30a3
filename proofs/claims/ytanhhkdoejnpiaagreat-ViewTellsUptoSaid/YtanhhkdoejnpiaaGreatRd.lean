/- The document's words of what is reached (dovecoteref16.Words): contract. -/
import Derived.Test.YtanhhkdoejnpiaaGreatRc
namespace Go.Proofs.YtanhhkdoejnpiaaGreat.G
open Go.Joins Go.ChangeShapes Go.WideShapes Go.ChangeAt Go.RowKit Go.Deep Go.Shelf Go.Maps
set_option linter.unusedVariables false
set_option linter.unusedSimpArgs false
set_option maxRecDepth 100000 in
set_option maxHeartbeats 4000000 in
theorem rvwords_any (m : Me) (P Q : Addr) (c d : Nat) (v : Value) (L : List (List Int)) (w : World) (hm : Sits w m P Q c d) (hwf : m.wf) (hL : Rw .u64 w v L) (hO : RwOk L) :
    Calls Tryz.prog 19 #[mev m.n P Q c d, v] w fun e w' => e = .returned (.int .i64 (m.ows (m.rch L.flatten))) ∧ Up w w' := by
  have hn : m.n ≤ 4096 := hm.1.2.1
  have HJ := Lib.hid (fun W (k : Up w W) => joined_let v L W (hL.up k) hO)
  have HC := Lib.hid (fun W A n cu (k : Up w W) (h : Sl .u64 W (.slice A n cu) L.flatten) => rreach_let m P Q c d A n cu L.flatten W (hm.up k) hwf h hO.u)
  have HR := Lib.hid (fun W A n cu (k : Up w W) (h : Sl .u64 W (.slice A n cu) (m.rch L.flatten)) => rwords6_any m P Q c d (.slice A n cu) (m.rch L.flatten) W (hm.up k) hwf h (rch_u64 m _) (by have := rch_len m hn L.flatten; omega))
  obtain ⟨A, cu, rfl, hmx⟩ := hL.slice
  clear hm hL hO hwf hmx
  unfold RchP at HC
  generalize L.length = n at *
  generalize L.flatten = ls at *
  generalize m.rch ls = xs at *
  generalize m.fws xs = fx at *
  generalize m.ows xs = ox at *
  obtain ⟨W0, hW0⟩ : ∃ W0 : World, W0 = (w.alloc (.cells (mec m.n P Q c d) 25)).drew := ⟨_, rfl⟩
  have U0 : Up W0 (w.alloc (.cells (mec m.n P Q c d) 25)).drew := by rw [hW0]; exact Up.refl _
  have k0 : Up w W0 := by rw [hW0]; exact ((Up.refl _).alloc _).drew
  have bM : Blk W0 w.heap.size 25 (mec m.n P Q c d) := by rw [hW0]; exact (Blk.new w _ _).drew
  clear hW0
  generalize xs.length = lx at *
  generalize ls.length = ly at *
  go_enter Tryz.func19, Tryz.ntmps19
  go_wp2_with (fail)
  go_region_held3 (fun w' => (∀ zi, w'.cell? ⟨w.heap.size, zi, none⟩ = (mec m.n P Q c d)[zi]?))
    (exact fun zi => (Blk.up bM (by assumption)).cell zi)
    (first
      | (go_at_call 34; ((with_reducible refine (HJ.out _ (k0.trans (by assumption))).mono ?_); rintro e wz ⟨Ax, cx, rfl, sX, hz⟩; have UZ := Up.trans (a := W0) (by assumption) hz))
      | (go_at_call 25; ((with_reducible refine (HC.out _ _ _ _ (k0.trans (by assumption)) sX).mono ?_); rintro e wz ⟨Ay, cy, rfl, sY, hz⟩; have UZ := Up.trans (a := W0) (by assumption) hz))
      | (go_at_call 52; ((with_reducible refine (HR.out _ _ _ _ (k0.trans (by assumption)) sY).mono ?_); rintro e wz ⟨rfl, hz⟩; have UZ := Up.trans (a := W0) (by assumption) hz)))
  all_goals
    go_wp2
    go_ret
    exact ⟨rfl, k0.trans UZ⟩
end Go.Proofs.YtanhhkdoejnpiaaGreat.G
