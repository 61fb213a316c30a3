/- A Heap that is returned out of its box: facts. -/
import Derived.Test.YtddoljfkbkbfjaaGreatTw
namespace Go.Proofs.YtddoljfkbkbfjaaGreat.T
open G
open Go.Joins Go.ChangeShapes Go.WideShapes Go.ChangeAt Go.RowKit Go.Deep Go.Shelf Go.Maps
set_option linter.unusedVariables false
set_option linter.unusedSimpArgs false
/-- A heap whose thread was answered. -/
def answered (h : Hp) (th : Int) (a : An) : Hp := if 0 ≤ th ∧ th < h.th.length then (match h.th[th.toNat]? with | some t => ansH h th.toNat t a | none => h) else h
def OutH (h : Hp) (w : World) (en : Ending) (w' : World) : Prop := ∃ v, en = .returned v ∧ HpR w' v h ∧ Up w w'
theorem cell_in {w : World} {g : Nat} {t : TypeId} {cs : Array Value} {q : Addr} {u : Value} (hb : Blk w g t cs) (hq : q.block = g) (h : w.cell? q = some u) : u ∈ cs.toList := by
  unfold World.cell? at h
  unfold Blk at hb
  rw [hq, hb] at h
  simp only at h
  split at h
  · cases h
  · exact Array.mem_toList_iff.2 (Array.mem_of_getElem? h)
theorem ap_of {α : Type} {cv : α → List Value} {w : World} {v : Value} {xs : List α} {g : Nat} {t : TypeId} {cs : Array Value} (h : Rc cv w v xs) (hb : Blk w g t cs) (k : Nat) (hk : ∀ x : α, ∃ u, (cv x)[k]? = some u ∧ u ∉ cs.toList) : Ap [g] v := fun p n c e hn q => by
  obtain ⟨A, c', e2, h1, h2, h3, h4⟩ := h
  rw [e] at e2
  injection e2 with a1 a2 a3
  cases xs with
  | nil => exact hn a2
  | cons x r =>
    obtain ⟨u, hu, hnu⟩ := hk x
    obtain ⟨p', e3, hp, hc⟩ := h4 (fun z => by
      have := congrArg List.length z
      rw [List.flatMap_cons, List.length_append] at this
      have := List.getElem?_eq_some_iff.1 hu
      obtain ⟨h9, -⟩ := this
      simp only [List.length_nil] at *
      omega)
    rw [← a1] at e3
    injection e3 with e3
    subst e3
    refine hnu (cell_in hb (q := p.add k) ?_ (hc k u ?_))
    · rw [block_of_add]
      simpa using q
    · rw [List.flatMap_cons, List.getElem?_append_left (List.getElem?_eq_some_iff.1 hu).1]
      exact hu
abbrev hz : Array Value := #[.int .i64 0, .slice none 0 0, .slice none 0 0, .int .i64 0, .int .i64 0, .int .i64 0, .int .i64 0, .int .i64 0, .int .i64 0, .int .i64 0, .int .i64 0, .slice none 0 0, .int .i64 0, .int .i64 0, .int .i64 0, .slice none 0 0, .int .i64 0]
theorem ThR.kz {w w' : World} {u : Tv} {t : Th} {g : Nat} (h : ThR w u t) (hb : Blk w g 32 hz) (k : Kp [g] w w') : ThR w' u t :=
  ⟨h.st.kp (ap_of h.st hb 0 fun x => ⟨.int .u64 x, rfl, by simp [hz]⟩) k, h.ba, h.be, h.lg.kp (ap_of h.lg hb 0 fun x => ⟨.int .u64 x.1, rfl, by simp [hz]⟩) k, h.lf.kp (ap_of h.lf hb 4 fun x => ⟨.int .u64 x.v, rfl, by simp [hz]⟩) k, h.pd.kp (ap_of h.pd hb 0 fun x => ⟨.int .u64 x.1, rfl, by simp [hz]⟩) k, h.wt, h.dn.kp (ap_of h.dn hb 1 fun x => ⟨.int .u64 x.2.1, rfl, by simp [hz]⟩) k⟩
/-- A heap is returned out of a box: its reading stays. -/
theorem hpR_box {w w' : World} {h : Hp} {P Q : Addr} {c d : Nat} {vt vo : Value} {us : List Tv} {g b : Nat} (hb : Blk w g 32 hz) (k : Kp [g] w w') (hs : Sits w h.m P Q c d) (hr : Rc tvc w vt us) (hh : ThsR w us h.th) (ho : Rc inc w vo h.od) (hi : Hi b vo) (hg : g < b) : HpR w' (.agg (hpc h P Q c d vt vo)) h := by
  have hod : Odd hz := odd_no (cs := hz.toList) fun v hv y e => by subst e; simp [hz] at hv
  have hr1 := hs.2.2.2.2.2.1
  have hr2 := hs.2.2.2.2.2.2
  obtain ⟨a0, a1, a2, a3⟩ := hs.1
  refine ⟨P, Q, c, d, vt, vo, us, rfl, Sits.kpA hs k ?_ ?_, hr.kp (ap_of hr hb 6 fun x => ⟨.bool x.wt, rfl, by simp [hz]⟩) k, ⟨hh.1, fun i u t hu ht => (hh.2 i u t hu ht).kz hb k⟩, ho.kp (fun p n c e hn q => ?_) k⟩
  · intro q
    exact row_odd hr1 (by omega) hb hod (by simpa using q)
  · intro q
    exact row_odd hr2 (by omega) hb hod (by simpa using q)
  · have := hi p n c e hn
    simp only [List.mem_singleton] at q
    omega
theorem St.ge {base D T : Nat} {S3 : List Nat} {h : Hp} {j : Nat} {o : Op} {s : Ks} {w : World} (hS : St base D T S3 h j o s w) : ∀ g ∈ D :: T :: S3, base ≤ g := by
  obtain ⟨us, P, Q, c, d, A, co, cT, hD, hT, h1, h2, h3, h4, hR⟩ := hS
  intro g hg
  simp only [List.mem_cons] at hg
  rcases hg with rfl | rfl | hg
  · exact h3
  · exact h4
  · exact (hR.s3 g hg).1
end Go.Proofs.YtddoljfkbkbfjaaGreat.T
