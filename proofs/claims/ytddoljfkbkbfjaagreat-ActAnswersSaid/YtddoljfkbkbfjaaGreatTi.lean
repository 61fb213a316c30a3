/- Memory that comes back from a call lies apart from a step's blocks. -/
import Derived.Test.YtddoljfkbkbfjaaGreatTh
import Derived.Test.YtddoljfkbkbfjaaGreatAn
namespace Go.Proofs.YtddoljfkbkbfjaaGreat.T
open G
open Go.Joins Go.ChangeShapes Go.WideShapes Go.ChangeAt Go.RowKit Go.Deep Go.Shelf Go.Maps
set_option linter.unusedVariables false
set_option linter.unusedSimpArgs false

/-- Values are slices. -/
structure Tvs (u : Tv) : Prop where
  st : ∃ A n c, u.st = .slice A n c
  lg : ∃ A n c, u.lg = .slice A n c
  lf : ∃ A n c, u.lf = .slice A n c
  pd : ∃ A n c, u.pd = .slice A n c
  dn : ∃ A n c, u.dn = .slice A n c
theorem tvs_no {u : Tv} (h : Tvs u) : ∀ v ∈ tvc u, ∀ y, v ≠ .int .u64 y := by
  obtain ⟨⟨A1, n1, c1, e1⟩, ⟨A2, n2, c2, e2⟩, ⟨A3, n3, c3, e3⟩, ⟨A4, n4, c4, e4⟩, ⟨A5, n5, c5, e5⟩⟩ := h
  intro v hv y
  unfold tvc at hv
  rw [e1, e2, e3, e4, e5] at hv
  simp only [List.mem_cons, List.not_mem_nil, or_false] at hv
  rcases hv with rfl | rfl | rfl | rfl | rfl | rfl | rfl | rfl <;> (intro q; cases q)
theorem ThR.tvs {w : World} {u : Tv} {t : Th} (h : ThR w u t) : Tvs u := by
  obtain ⟨a1, b1, e1⟩ := h.st.slice
  obtain ⟨a2, b2, e2⟩ := h.lg.slice
  obtain ⟨a3, b3, e3⟩ := h.lf.slice
  obtain ⟨a4, b4, e4⟩ := h.pd.slice
  obtain ⟨a5, b5, e5⟩ := h.dn.slice
  exact ⟨⟨_, _, _, e1⟩, ⟨_, _, _, e2⟩, ⟨_, _, _, e3⟩, ⟨_, _, _, e4⟩, ⟨_, _, _, e5⟩⟩
theorem OwT.r {base : Nat} {X S3 : List Nat} {w : World} {u : Tv} {t : Th} (h : OwT base X S3 w u t) : ThR w u t := ⟨h.st, h.ba, h.be, h.lg.rc, h.lf, h.pd, h.wt, h.dn.rc⟩
theorem Rs.r {base D T : Nat} {S3 : List Nat} {h : Hp} {j : Nat} {us : List Tv} {P Q : Addr} {c d : Nat} {vo : Value} {w : World} (r : Rs base D T S3 h j us P Q c d vo w) : ThsR w us h.th := ⟨r.len, fun i u t hu ht => by
  by_cases e : i = j
  · subst e; exact (r.own u t hu ht).r
  · exact (r.oth i u t e hu ht).r⟩
section
variable {base D T : Nat} {S3 : List Nat} {h : Hp} {j : Nat} {o : Op} {s : Ks} {w wz : World} {t : Th}
theorem St.odd (hS : St base D T S3 h j o s w) : ∀ g ∈ D :: T :: S3, ∃ ty cs, Blk w g ty cs ∧ Odd cs := by
  obtain ⟨us, P, Q, c, d, A, co, cT, hD, hT, h1, h2, h3, h4, hR⟩ := hS
  intro g hg
  simp only [List.mem_cons] at hg
  rcases hg with rfl | rfl | hg
  · exact ⟨_, _, hD, odd_stc _ _ _ _ _ _ _ _ _ _ _ _ _ _ _⟩
  · refine ⟨_, _, hT, odd_no fun v hv => ?_⟩
    obtain ⟨u, hu, hv⟩ := List.mem_flatMap.1 hv
    rcases List.mem_append.1 hu with hu | hu
    · obtain ⟨i, hi, rfl⟩ := List.getElem_of_mem hu
      have hit : i < h.th.length := by rw [← hR.len]; exact hi
      exact tvs_no (hR.r.2 i us[i] h.th[i] (List.getElem?_eq_getElem hi) (List.getElem?_eq_getElem hit)).tvs v hv
    · obtain rfl := List.eq_of_mem_replicate hu
      exact tvs_no ⟨⟨_, _, _, rfl⟩, ⟨_, _, _, rfl⟩, ⟨_, _, _, rfl⟩, ⟨_, _, _, rfl⟩, ⟨_, _, _, rfl⟩⟩ v hv
  · obtain ⟨_, t, cs, hb, ho⟩ := hR.s3 g hg
    exact ⟨t, cs, hb, ho⟩
theorem St.far (hS : St base D T S3 h j o s w) (k : Up w wz) {m : Me} {P Q : Addr} {c d : Nat} (hm : Sits wz m P Q c d) : P.block ∉ D :: T :: S3 ∧ Q.block ∉ D :: T :: S3 := by
  have h16 := hm.1.1
  refine ⟨fun q => ?_, fun q => ?_⟩
  · obtain ⟨ty, cs, hb, ho⟩ := hS.odd _ q
    exact row_odd hm.2.2.2.2.2.1 (by have := hm.1.2.2.1; omega) (hb.up k) ho rfl
  · obtain ⟨ty, cs, hb, ho⟩ := hS.odd _ q
    exact row_odd hm.2.2.2.2.2.2 (by have := hm.1.2.2.2; omega) (hb.up k) ho rfl
/-- Memory is another one. -/
theorem St.mem (hS : St base D T S3 h j o s w) (k : Up w wz) {m : Me} {P Q : Addr} {c d : Nat} (hm : Sits wz m P Q c d) (hn : m.n = h.m.n) :
    Kp [D, T] w (((wz.setCell ⟨D, 0, none⟩ (.int .i64 h.m.n)).setCell ⟨D, 1, none⟩ (.slice (some P) h.m.n c)).setCell ⟨D, 2, none⟩ (.slice (some Q) h.m.n d)) ∧
    St base D T S3 { h with m := m } j o s (((wz.setCell ⟨D, 0, none⟩ (.int .i64 h.m.n)).setCell ⟨D, 1, none⟩ (.slice (some P) h.m.n c)).setCell ⟨D, 2, none⟩ (.slice (some Q) h.m.n d)) := by
  obtain ⟨f1, f2⟩ := hS.far k hm
  obtain ⟨us, P', Q', c', d', A, co, cT, hD, hT, h1, h2, h3, h4, hR⟩ := hS
  have hne : D ≠ T := (hD.ne_type hT (by decide))
  have hK : Kp [D, T] wz (((wz.setCell ⟨D, 0, none⟩ (.int .i64 h.m.n)).setCell ⟨D, 1, none⟩ (.slice (some P) h.m.n c)).setCell ⟨D, 2, none⟩ (.slice (some Q) h.m.n d)) := (((Kp.refl _ _).set_ (by simp) _).set_ (by simp) _).set_ (by simp) _
  refine ⟨(Kp.of_up k).trans hK, us, P, Q, c, d, A, co, cT, ?_, ?_, h1, h2, h3, h4, ((hR.up k).mem hm f1 f2).kp hK⟩
  · have hb := (((hD.up k).set_ 0 (.int .i64 h.m.n)).set_ 1 (.slice (some P) h.m.n c)).set_ 2 (.slice (some Q) h.m.n d)
    unfold stc
    show Blk _ D _ #[.int .i64 m.n, .slice (some P) m.n c, .slice (some Q) m.n d, _, _, _, _, _, _, _, _, _, _, _, _, _, _, _, _, _, _, _, _, _, _, _, _, _, _, _, _, _, _, _]
    rw [hn]
    exact hb
  · exact (((hT.up k).far (p := ⟨D, 0, none⟩) (fun e => hne e.symm) _).far (p := ⟨D, 1, none⟩) (fun e => hne e.symm) _).far (p := ⟨D, 2, none⟩) (fun e => hne e.symm) _
end
/-- The field's new word. -/
def wv (o : Op) (s : Ks) : Int := if o.kd = 6 then Nm.addw s.v o.v else if o.kd = 7 then Nm.mulw s.v o.v else if o.kd = 5 then s.k else o.v
end Go.Proofs.YtddoljfkbkbfjaaGreat.T
