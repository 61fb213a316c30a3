/- The document's example (dovecotelaw15.shown): contract. -/
import Derived.Test.YtlocllcijncllaaLw
namespace Go.Proofs.Ytlocllcijncllaa
open Go.Joins Go.ChangeShapes Go.WideShapes Go.ChangeAt Go.RowKit Go.Deep Go.Shelf Go.Maps
set_option linter.unusedVariables false
set_option linter.unusedSimpArgs false

theorem ok_null : Ok (nullG 1) := by
  refine ⟨⟨fun n hn => (by cases hn), fun n hn => (by cases hn), fun n hn => (by cases hn), fun n hn => (by cases hn), fun row hr h hh => ?_⟩, by decide, by decide, by decide⟩
  have : row = [] := by
    have h2 : row ∈ [([] : List Int)] := hr
    exact List.mem_singleton.1 h2
  subst this
  cases hh
theorem do_at {g : Gr} {th kd h i k v t l m : Int} {kn : List Nd} {ks : List (List Int)} {n s : Nat} {e x : Int} {y : Bool} (hg : Ok g) (hi : I64 kd) (hv : U64 v) (hm : U64 m) (hd : doG g th ⟨kd, h, i, k, v, t, l, m⟩ = ((kn, ks), (e, x, y))) (hn : kn.length = n) (hs : ks.length = s) :
    ∀ W u, GrV W u g → Calls Try.prog 18 #[u, .int .i64 th, .agg #[.int .i64 kd, .int .i64 h, .int .i64 i, .int .i64 k, .int .u64 v, .int .i64 t, .int .i64 l, .int .u64 m]] W (Dn kn ks n s e x y W) := by
  obtain ⟨kn', ks', n', s', e', x', y', q, q1, q2, D⟩ := do_let g th kd h i k v t l m hg hi hv hm
  rw [hd] at q
  simp only [Prod.mk.injEq] at q
  obtain ⟨⟨rfl, rfl⟩, rfl, rfl, rfl⟩ := q
  rw [← hn, ← hs, q1, q2]
  exact D
abbrev ex1 : Gr := ([((1, 0, 0), [])], [[1]])
theorem ex_do1 : doG (nullG 1) 0 ⟨1, 0, 0, 0, 0, 1, 0, 0⟩ = (ex1, (0, 0, false)) := by decide
theorem ex_do2 : doG ex1 0 ⟨8, 0, 0, 0, 0, 0, 0, 0⟩ = (ex1, (0, 0, true)) := by decide
theorem ok_ex1 : Ok ex1 := by
  have h1 := do_rg (th := 0) (o := ⟨1, 0, 0, 0, 0, 1, 0, 0⟩) ok_null.rg (by decide) (by unfold U64; decide) (by unfold U64; decide)
  rw [ex_do1] at h1
  exact ⟨h1, by decide, by decide, by decide⟩
set_option maxRecDepth 100000 in
set_option maxHeartbeats 2000000 in
theorem shown_any (w : World) : Calls Try.prog 11 #[] w fun e w' => e = .returned (.bool true) ∧ Up w w' := by
  have D1 := Lib.hid (do_at (n := 1) (s := 1) ok_null (by unfold I64; decide) (by unfold U64; decide) (by unfold U64; decide) ex_do1 rfl rfl)
  have D2 := Lib.hid (do_at (n := 1) (s := 1) ok_ex1 (by unfold I64; decide) (by unfold U64; decide) (by unfold U64; decide) ex_do2 rfl rfl)
  go_enter Try.func11, Try.ntmps11
  go_wp2_with (fail)
  refine calls_at (fun V1 hV => ?_)
  have kv : Up w V1 := by rw [hV]; (repeat (first | with_reducible exact Up.refl _ | with_reducible refine Up.alloc ?_ _ | with_reducible refine Up.drew ?_ | refine Up.setCell ?_ (by simp <;> omega) _))
  have Uv : Up w V1 := kv
  clear hV kv 
  refine (new_any 1 V1).mono ?_
  rintro e w1 ⟨vN, rfl, sN1, k1⟩
  have U1 := Uv.trans k1
  clear k1 Uv  
  go_wp2_with (fail)
  refine calls_at (fun V2 hV => ?_)
  have kv : Up w1 V2 := by rw [hV]; (repeat (first | with_reducible exact Up.refl _ | with_reducible refine Up.alloc ?_ _ | with_reducible refine Up.drew ?_ | refine Up.setCell ?_ (by simp <;> omega) _))
  have Uv : Up w V2 := U1.trans kv
  have sNv := sN1.up kv
  clear hV kv U1 sN1
  refine (D1.out V2 _ sNv).mono ?_
  rintro e w2 ⟨AP, cP, BP, dP, rfl, sP2, k2⟩
  have U2 := Uv.trans k2
  have sN2 := sNv.up k2
  clear k2 Uv  sNv
  go_wp2_with (fail)
  refine calls_at (fun V3 hV => ?_)
  have kv : Up w2 V3 := by rw [hV]; (repeat (first | with_reducible exact Up.refl _ | with_reducible refine Up.alloc ?_ _ | with_reducible refine Up.drew ?_ | refine Up.setCell ?_ (by simp <;> omega) _))
  have bPv : Blk V3 (w2.heap.size) 25 #[.slice AP 1 cP, .slice BP 1 dP] := by rw [hV]; (repeat (first | with_reducible exact Blk.new' _ (by simp) _ _ | with_reducible refine Blk.alloc ?_ _ | with_reducible refine Blk.drew ?_ | refine Blk.far ?_ (by simp <;> omega) _))
  have bXv : Blk V3 (w2.heap.size + 1) 39 #[.int .i64 0, .int .u64 0, .bool false] := by rw [hV]; (repeat (first | with_reducible exact Blk.new' _ (by simp) _ _ | with_reducible refine Blk.alloc ?_ _ | with_reducible refine Blk.drew ?_ | refine Blk.far ?_ (by simp <;> omega) _))
  have Uv : Up w V3 := U2.trans kv
  have sNv := sN2.up kv
  have sPv := sP2.up kv
  clear hV kv U2 sN2 sP2
  refine (D2.out V3 _ sPv).mono ?_
  rintro e w3 ⟨AQ, cQ, BQ, dQ, rfl, sQ3, k3⟩
  have bP3 := bPv.up k3
  have bX3 := bXv.up k3
  have U3 := Uv.trans k3
  have sN3 := sNv.up k3
  have sP3 := sPv.up k3
  clear k3 Uv bPv bXv sNv sPv
  have bP3c := bP3.cell
  have bP3f := bP3.frozen
  have bP3l := bP3.lt
  have bX3c := bX3.cell
  have bX3f := bX3.frozen
  have bX3l := bX3.lt
  go_wp2_with (fail)
  go_ret
  exact ⟨rfl, (U3.alloc _).alloc _⟩
end Go.Proofs.Ytlocllcijncllaa
