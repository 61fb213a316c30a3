/- What a step does, plainly; the rows of closures come to it: contracts. -/
import Derived.Test.YtddoljfkbkbfjaaGreatTj
import Derived.Test.YtddoljfkbkbfjaaGreatTm
import Derived.Test.YtddoljfkbkbfjaaGreatTn
namespace Go.Proofs.YtddoljfkbkbfjaaGreat.T
open G
open Go.Joins Go.ChangeShapes Go.WideShapes Go.ChangeAt Go.RowKit Go.Deep Go.Shelf Go.Maps
set_option linter.unusedVariables false
set_option linter.unusedSimpArgs false

/-- The field's new word. -/
def nv (h : Hp) (t : Th) (o : Op) : Int := if o.kd = 6 then Nm.addw (h.m.getv (K.gtv t.st o.h) o.i) o.v else if o.kd = 7 then Nm.mulw (h.m.getv (K.gtv t.st o.h) o.i) o.v else if o.kd = 5 then K.gtv t.st o.k else o.v
def stH (h : Hp) (j : Nat) (t : Th) (xs : List Int) : Hp := { h with th := h.th.set j { t with st := xs } }
/-- What is done: why not, the heap, the word, yes or no. -/
def deed (h : Hp) (j : Nat) (t : Th) (o : Op) : Int × Hp × Int × Bool :=
  if o.kd = 1 then
    (if okH o.t o.l o.m = true then
      (if (t.st.length : Int) < 16 then
        (if (mkr h.m h.fs h.fa h.fl t.ba t.be o.t o.l o.m h.sz).e = 0 then (0, { alH h j t (mkr h.m h.fs h.fa h.fl t.ba t.be o.t o.l o.m h.sz) with th := h.th.set j { t with ba := (mkr h.m h.fs h.fa h.fl t.ba t.be o.t o.l o.m h.sz).x, be := (mkr h.m h.fs h.fa h.fl t.ba t.be o.t o.l o.m h.sz).y, st := K.pus t.st (mkr h.m h.fs h.fa h.fl t.ba t.be o.t o.l o.m h.sz).p } }, 0, false) else (11, alH h j t (mkr h.m h.fs h.fa h.fl t.ba t.be o.t o.l o.m h.sz), 0, false))
      else (4, h, 0, false))
    else (1, h, 0, false))
  else if o.kd = 2 then (if fe h.m t.st o = 0 then (if h.m.getb (K.gtv t.st o.h) o.i = true then (8, h, 0, false) else (0, h, h.m.getv (K.gtv t.st o.h) o.i, false)) else (fe h.m t.st o, h, 0, false))
  else if o.kd = 4 ∨ o.kd = 6 ∨ o.kd = 7 then (if fe h.m t.st o = 0 then (if h.m.getb (K.gtv t.st o.h) o.i = true then (8, h, 0, false) else (0, wrH h j t (K.gtv t.st o.h) o.i (nv h t o), 0, false)) else (fe h.m t.st o, h, 0, false))
  else if o.kd = 3 then (if fe h.m t.st o = 0 then (if h.m.getb (K.gtv t.st o.h) o.i = true then (K.pue t.st, stH h j t (K.pus t.st (h.m.getv (K.gtv t.st o.h) o.i)), 0, false) else (8, h, 0, false)) else (fe h.m t.st o, h, 0, false))
  else if o.kd = 5 then (if fe h.m t.st o = 0 then (if h.m.getb (K.gtv t.st o.h) o.i = true then (if K.gte t.st o.k = 0 then (0, wrH h j t (K.gtv t.st o.h) o.i (nv h t o), 0, false) else (K.gte t.st o.k, h, 0, false)) else (8, h, 0, false)) else (fe h.m t.st o, h, 0, false))
  else if o.kd = 8 then (if K.gte t.st o.h = 0 then (if K.gte t.st o.k = 0 then (0, h, 0, K.gtv t.st o.h == K.gtv t.st o.k) else (K.gte t.st o.k, h, 0, false)) else (K.gte t.st o.h, h, 0, false))
  else if o.kd = 9 then (if K.gte t.st o.h = 0 then (K.pue t.st, stH h j t (K.pus t.st (K.gtv t.st o.h)), 0, false) else (K.gte t.st o.h, h, 0, false))
  else if o.kd = 10 then (K.poe t.st, stH h j t (K.pos t.st), 0, false)
  else if o.kd = 11 then (11, h, 0, false) else (1, h, 0, false)
/-- How a heap and a thread are when something is done. -/
structure Dk (h : Hp) (j : Nat) (t : Th) (o : Op) : Prop where
  ht : h.th[j]? = some t
  wf : h.m.wf
  st : ∀ x ∈ t.st, U64 x
  sl : t.st.length ≤ 17592186044416
  v : U64 o.v
  m : U64 o.m
  fr : rgt h.fs h.fa h.fl
  fl : h.fl = h.m.n
  bf : (t.ba = 0 ∧ t.be = 0) ∨ (0 ≤ t.ba ∧ t.ba ≤ t.be ∧ t.be ≤ h.fa)
theorem mkr_n (m : Me) (s a l x y t k mp size : Int) : (mkr m s a l x y t k mp size).m.n = m.n := by
  unfold mkr
  split
  · exact put_n _ _ _ _ _
  · split
    · split
      · exact put_n _ _ _ _ _
      · rfl
    · split
      · exact (put_n _ _ _ _ _).trans (rtm_n _ _ _ _)
      · exact rtm_n _ _ _ _
def Run3 (D T : Nat) (Φ : Int → World → Prop) : List Clo3 → World → Prop
  | [], w => Φ 0 w
  | c :: cs, w => (∀ args w, (callFunc c.1 args).run Tryz.prog w = .ok (.enter c.1 args) w) ∧ ∀ w0, Up w w0 → Calls Tryz.prog c.1 (c.2.1 ++ c.2.2) w0 fun e w' => ∃ x : Int, e = .returned (.int .i64 x) ∧ Kp [D, T] w0 w' ∧ (x ≠ 0 → Φ x w') ∧ (x = 0 → Run3 D T Φ cs w')
/-- What the row comes to. -/
def Phi (base D T : Nat) (S3 : List Nat) (h : Hp) (j : Nat) (t : Th) (o : Op) (x : Int) (w : World) : Prop := x = (deed h j t o).1 ∧ ∃ s, St base D T S3 (deed h j t o).2.1 j o s w ∧ (x = 0 → s.e = 0 ∧ s.w = (deed h j t o).2.2.1 ∧ s.y = (deed h j t o).2.2.2)
section
variable {base D T : Nat} {S3 : List Nat} {h : Hp} {j : Nat} {o : Op} {w : World} {t : Th} {B : Nat}
theorem phi_of {x : Int} {h' : Hp} {V : Int} {Y : Bool} {s : Ks} (he : deed h j t o = (x, h', V, Y)) (hs : St base D T S3 h' j o s w) (hz : x = 0 → s.e = 0 ∧ s.w = V ∧ s.y = Y) : Phi base D T S3 h j t o x w := by
  unfold Phi
  rw [he]
  exact ⟨rfl, s, hs, hz⟩
theorem unl_0 {b : Bool} {x : Int} (hx : x ≠ 0) : unl b x = 0 ↔ b = true := by
  unfold unl
  cases b
  · simp [hx]
  · simp
theorem unl_x {b : Bool} {x : Int} (h : unl b x ≠ 0) : b = false ∧ unl b x = x := by
  cases b
  · exact ⟨rfl, rfl⟩
  · exact absurd rfl h
/-- The kinds that begin with a field. -/
theorem run_field {cs : List Clo3} (k : Dk h j t o) (hS : St base D T S3 h j o ks0 w) (hB : Blk w B 74 #[.pointer (some ⟨D, 0, none⟩)]) (hBn : B ∉ [D, T]) (he : fe h.m t.st o ≠ 0 → deed h j t o = (fe h.m t.st o, h, 0, false))
    (hn : fe h.m t.st o = 0 → ∀ w', St base D T S3 h j o (kf h.m t.st o ks0) w' → Blk w' B 74 #[.pointer (some ⟨D, 0, none⟩)] → Run3 D T (Phi base D T S3 h j t o) cs w') : Run3 D T (Phi base D T S3 h j t o) (fmv D 74 :: cs) w :=
  ⟨Tryz.call74, fun w0 u0 => (field_st (hS.up u0) k.ht k.wf k.st).mono fun e w' ⟨h1, h2, s', h3, h4⟩ => ⟨_, h1, h2, fun q => phi_of (he q) h3 fun q2 => absurd q2 q, fun q => by
    obtain rfl := h4 q
    exact hn q w' h3 ((hB.up u0).kp h2 hBn)⟩⟩
theorem run_scalar {cs : List Clo3} {s : Ks} (hS : St base D T S3 h j o s w) (hB : Blk w B 74 #[.pointer (some ⟨D, 0, none⟩)]) (hBn : B ∉ [D, T]) (he : s.p = true → deed h j t o = (8, h, 0, false))
    (hn : s.p = false → ∀ w', St base D T S3 h j o s w' → Blk w' B 74 #[.pointer (some ⟨D, 0, none⟩)] → Run3 D T (Phi base D T S3 h j t o) cs w') : Run3 D T (Phi base D T S3 h j t o) (fmv D 75 :: cs) w :=
  ⟨Tryz.call75, fun w0 u0 => (scalar_st (hS.up u0)).mono fun e w' ⟨h1, h2, h3⟩ => ⟨_, h1, h2, fun q => by
    obtain ⟨q1, q2⟩ := unl_x q
    rw [q2]
    exact phi_of (he (by simpa using q1)) h3 (fun q3 => by cases q3), fun q => hn (by have := (unl_0 (by decide)).1 q; simpa using this) w' h3 ((hB.up u0).kp h2 hBn)⟩⟩
theorem run_leads {cs : List Clo3} {s : Ks} (hS : St base D T S3 h j o s w) (hB : Blk w B 74 #[.pointer (some ⟨D, 0, none⟩)]) (hBn : B ∉ [D, T]) (he : s.p = false → deed h j t o = (8, h, 0, false))
    (hn : s.p = true → ∀ w', St base D T S3 h j o s w' → Blk w' B 74 #[.pointer (some ⟨D, 0, none⟩)] → Run3 D T (Phi base D T S3 h j t o) cs w') : Run3 D T (Phi base D T S3 h j t o) (fmv D 81 :: cs) w :=
  ⟨Tryz.call81, fun w0 u0 => (leads_st (hS.up u0)).mono fun e w' ⟨h1, h2, h3⟩ => ⟨_, h1, h2, fun q => by
    obtain ⟨q1, q2⟩ := unl_x q
    rw [q2]
    exact phi_of (he q1) h3 (fun q3 => by cases q3), fun q => hn ((unl_0 (by decide)).1 q) w' h3 ((hB.up u0).kp h2 hBn)⟩⟩
theorem run_first {cs : List Clo3} {s : Ks} (k : Dk h j t o) (hS : St base D T S3 h j o s w) (hB : Blk w B 74 #[.pointer (some ⟨D, 0, none⟩)]) (hBn : B ∉ [D, T]) (he : K.gte t.st o.h ≠ 0 → deed h j t o = (K.gte t.st o.h, h, 0, false))
    (hn : K.gte t.st o.h = 0 → ∀ w', St base D T S3 h j o { s with h := K.gtv t.st o.h } w' → Blk w' B 74 #[.pointer (some ⟨D, 0, none⟩)] → Run3 D T (Phi base D T S3 h j t o) cs w') : Run3 D T (Phi base D T S3 h j t o) (fmv D 85 :: cs) w :=
  ⟨Tryz.call85, fun w0 u0 => (first_st (hS.up u0) k.ht).mono fun e w' ⟨h1, h2, h3⟩ => ⟨_, h1, h2, fun q => phi_of (he q) h3 fun q2 => absurd q2 q, fun q => hn q w' h3 ((hB.up u0).kp h2 hBn)⟩⟩
theorem run_second {cs : List Clo3} {s : Ks} (k : Dk h j t o) (hS : St base D T S3 h j o s w) (hB : Blk w B 74 #[.pointer (some ⟨D, 0, none⟩)]) (hBn : B ∉ [D, T]) (he : K.gte t.st o.k ≠ 0 → deed h j t o = (K.gte t.st o.k, h, 0, false))
    (hn : K.gte t.st o.k = 0 → ∀ w', St base D T S3 h j o { s with k := K.gtv t.st o.k } w' → Blk w' B 74 #[.pointer (some ⟨D, 0, none⟩)] → Run3 D T (Phi base D T S3 h j t o) cs w') : Run3 D T (Phi base D T S3 h j t o) (fmv D 84 :: cs) w :=
  ⟨Tryz.call84, fun w0 u0 => (second_st (hS.up u0) k.ht).mono fun e w' ⟨h1, h2, h3⟩ => ⟨_, h1, h2, fun q => phi_of (he q) h3 fun q2 => absurd q2 q, fun q => hn q w' h3 ((hB.up u0).kp h2 hBn)⟩⟩
/-- The last one of a row. -/
theorem run_end {c : Clo3} {x : Int} {h' : Hp} {s s' : Ks} (hc : ∀ args w, (callFunc c.1 args).run Tryz.prog w = .ok (.enter c.1 args) w) (h1 : ∀ w0, Up w w0 → Calls Tryz.prog c.1 (c.2.1 ++ c.2.2) w0 (Sp base D T S3 x h' j o s' w0)) {V : Int} {Y : Bool} (he : deed h j t o = (x, h', V, Y)) (hz : x = 0 → s'.e = 0 ∧ s'.w = V ∧ s'.y = Y) : Run3 D T (Phi base D T S3 h j t o) [c] w :=
  ⟨hc, fun w0 u0 => (h1 w0 u0).mono fun e w' ⟨h1, h2, h3⟩ => ⟨x, h1, h2, fun _ => phi_of he h3 hz, fun q => by
    have := phi_of he h3 hz
    rw [q] at this
    exact this⟩⟩
end
end Go.Proofs.YtddoljfkbkbfjaaGreat.T
