import PyProof.Rows.All
import Wide.All
import OpenK.AllK
import Wide.FinOn
import PySem.Challenge.RW_curvefaces_k31_low_and_high
import HandS.ForMost
import HandS.TupAny
import HandS.Flow
import HandS.IsInst
import HandS.Evl
import HandS.Deep
import HandS.Walk
import HandS.EndOwn
import HandS.Nested
import HandS.Zip0
import HandS.Zip
import HandS.EndTab
import HandS.AnyAll
import KE.GoesZip
import KE.GoesEnum
import KE.GoesMore
import HandS.SetFor
import PyProof.GenCompD
import PyProof.GenCompT
import HandS.Conv
import HandS.Dict
import HandS.RaiseMore
import HandS.TupSets
import HandS.CallLocal
import HandS.NoneIn
import HandS.Lambda
set_option Elab.async false
set_option linter.all false
set_option maxRecDepth 100000
set_option maxHeartbeats 1000000
namespace CF
open PySem PySem.Spec PyProof.Rows L2 Evl
/-! ### data without lists: none, bools, ints, texts, tuples; it stays whatever is done to lists -/
mutual
inductive Dt (K : PySem.W.Frag) (H : Hp) : V → PyData → Prop
  | non : Dt K H .non .none
  | bl (b : Bool) : Dt K H (.bl b) (.bool b)
  | int (i : Int) : Dt K H (.int i) (.int i)
  | str (x : Str) : Dt K H (.str x) (.str x)
  | tup {a : Addr} {xs : List V} {ds : List PyData} : SqT K H a xs → DtAll K H xs ds → Dt K H (.ref a) (.tuple ds)
inductive DtAll (K : PySem.W.Frag) (H : Hp) : List V → List PyData → Prop
  | nil : DtAll K H [] []
  | cons {v : V} {vs : List V} {d : PyData} {ds : List PyData} : Dt K H v d → DtAll K H vs ds → DtAll K H (v :: vs) (d :: ds)
end
/-- what is a tuple (or locked) stays -/
def Tx (H H' : Hp) : Prop := ∀ a u, Rd H a (.tup u) → Rd H' a (.tup u)
theorem Tx.refl (H : Hp) : Tx H H := fun _ _ h => h
theorem Tx.trans {H H1 H2 : Hp} (a : Tx H H1) (b : Tx H1 H2) : Tx H H2 := fun c u h => b c u (a c u h)
theorem tx_of {H H' : Hp} (e : Ex H H') : Tx H H' := fun _ _ h => ex_rd e h
/-- a store at a list -/
theorem tx_lst {H : Hp} {D : Addr} {o : HO} {xs : List V} (h : H D = some (.lst xs)) : Tx H (upd H D o) := fun a u r => by
  have n : a ≠ D := fun z => by
    subst z
    rcases r with r | ⟨o, r⟩ <;> (rw [h] at r; cases r)
  rcases r with r | ⟨o, r⟩
  · exact .inl (by rw [upd_ne n]; exact r)
  · exact .inr ⟨o, by rw [upd_ne n]; exact r⟩
theorem tx_sq {K : PySem.W.Frag} {H H' : Hp} {a : Addr} {xs : List V} (e : Tx H H') (h : SqT K H a xs) : SqT K H' a xs := by
  rcases h with h | h
  · exact .inl (e _ _ h)
  · exact .inr h
mutual
theorem dt_tx {K : PySem.W.Frag} {H H' : Hp} (e : Tx H H') : ∀ {v : V} {d : PyData}, Dt K H v d → Dt K H' v d
  | _, _, .non => .non
  | _, _, .bl b => .bl b
  | _, _, .int i => .int i
  | _, _, .str x => .str x
  | _, _, .tup h a => .tup (tx_sq e h) (dta_tx e a)
theorem dta_tx {K : PySem.W.Frag} {H H' : Hp} (e : Tx H H') : ∀ {vs : List V} {ds : List PyData}, DtAll K H vs ds → DtAll K H' vs ds
  | _, _, .nil => .nil
  | _, _, .cons h t => .cons (dt_tx e h) (dta_tx e t)
end
theorem dt_ex {K : PySem.W.Frag} {H H' : Hp} (e : Ex H H') {v : V} {d : PyData} (h : Dt K H v d) : Dt K H' v d := dt_tx (tx_of e) h
theorem dta_ex {K : PySem.W.Frag} {H H' : Hp} (e : Ex H H') {vs : List V} {ds : List PyData} (h : DtAll K H vs ds) : DtAll K H' vs ds := dta_tx (tx_of e) h
mutual
theorem dt_dp {K : PySem.W.Frag} {H : Hp} : ∀ {v : V} {d : PyData}, Dt K H v d → Dp K H v d
  | _, _, .non => .non
  | _, _, .bl b => .bl b
  | _, _, .int i => .int i
  | _, _, .str x => .str x
  | _, _, .tup h a => .tup h (dta_dp a)
theorem dta_dp {K : PySem.W.Frag} {H : Hp} : ∀ {vs : List V} {ds : List PyData}, DtAll K H vs ds → DpAll K H vs ds
  | _, _, .nil => .nil
  | _, _, .cons h t => .cons (dt_dp h) (dta_dp t)
end
section
variable {K : PySem.W.Frag} {H : Hp}
theorem dta_len : ∀ {vs : List V} {ds : List PyData}, DtAll K H vs ds → vs.length = ds.length
  | _, _, .nil => rfl
  | _, _, .cons _ t => by rw [List.length_cons, List.length_cons, dta_len t]
theorem dta_get : ∀ {vs : List V} {ds : List PyData} {i : Nat} {v : V}, DtAll K H vs ds → vs[i]? = some v → ∃ d, ds[i]? = some d ∧ Dt K H v d
  | _, _, _, _, .nil, e => by simp at e
  | _, _, 0, _, .cons h _, e => by simp at e; subst e; exact ⟨_, rfl, h⟩
  | _, _, i + 1, v, .cons _ t, e => by
    obtain ⟨d, h1, h2⟩ := dta_get (i := i) (v := v) t (by simpa using e)
    exact ⟨d, by simpa using h1, h2⟩
theorem dta_get' : ∀ {vs : List V} {ds : List PyData} {i : Nat} {d : PyData}, DtAll K H vs ds → ds[i]? = some d → ∃ v, vs[i]? = some v ∧ Dt K H v d
  | _, _, _, _, .nil, e => by simp at e
  | _, _, 0, _, .cons h _, e => by simp at e; subst e; exact ⟨_, rfl, h⟩
  | _, _, i + 1, d, .cons _ t, e => by
    obtain ⟨v, h1, h2⟩ := dta_get' (i := i) (d := d) t (by simpa using e)
    exact ⟨v, by simpa using h1, h2⟩
theorem dta_app : ∀ {vs ws : List V} {ds es : List PyData}, DtAll K H vs ds → DtAll K H ws es → DtAll K H (vs ++ ws) (ds ++ es)
  | _, _, _, _, .nil, s => s
  | _, _, _, _, .cons h t, s => .cons h (dta_app t s)
theorem dta_one {v : V} {d : PyData} (h : Dt K H v d) : DtAll K H [v] [d] := .cons h .nil
theorem dta_take : ∀ {vs : List V} {ds : List PyData} (n : Nat), DtAll K H vs ds → DtAll K H (vs.take n) (ds.take n)
  | _, _, 0, _ => .nil
  | _, _, _ + 1, .nil => .nil
  | _, _, n + 1, .cons h t => .cons h (dta_take n t)
theorem dta_drop : ∀ {vs : List V} {ds : List PyData} (n : Nat), DtAll K H vs ds → DtAll K H (vs.drop n) (ds.drop n)
  | _, _, 0, r => r
  | _, _, _ + 1, .nil => .nil
  | _, _, n + 1, .cons _ t => dta_drop n t
theorem dta_ints : ∀ (l : List Int), DtAll K H (l.map V.int) (l.map PyData.int)
  | [] => .nil
  | i :: l => .cons (.int i) (dta_ints l)
theorem dta_ints_inv : ∀ {vs : List V} {l : List Int}, DtAll K H vs (l.map PyData.int) → vs = l.map V.int
  | _, [], .nil => rfl
  | _, i :: l, .cons h t => by
    cases h
    rw [dta_ints_inv t]
    rfl
end

/-! ### a new address apart -/
theorem ne_free {H : Hp} {p q : Addr} {o : HO} (h : H q = some o) (n : H p = none) : p ≠ q := fun e => by
  subst e; rw [n] at h; cases h

/-! ### what evaluates to which data -/
def EvD (K : PySem.W.Frag) (te : TE) (σ : L2.St) (H : Hp) (d : PyData) : Prop := ∀ H1, Ex H H1 → ∀ Q : VK, (∀ v H2, Ex H1 H2 → Dt K H2 v d → Q v H2) → te σ H1 Q
/-- a new list of data -/
def EvF (K : PySem.W.Frag) (te : TE) (σ : L2.St) (H : Hp) (ds : List PyData) : Prop := ∀ H1, Ex H H1 → ∀ Q : VK, (∀ p xs H2, H1 p = none → Ex H1 H2 → H2 p = some (.lst xs) → DtAll K H2 xs ds → Q (.ref p) H2) → te σ H1 Q
def EvB (K : PySem.W.Frag) (ta : TA) (σ : L2.St) (H : Hp) (ds : List PyData) : Prop := ∀ H1, Ex H H1 → ∀ Q : List V → Hp → Prop, (∀ vs H2, Ex H1 H2 → DtAll K H2 vs ds → Q vs H2) → ta σ H1 Q
section
variable {K : PySem.W.Frag} {σ : L2.St} {H H' : Hp} {ta tb te tx : TE} {t u : TT} {x y z v : V} {r : R2} {d : PyData} {ds es : List PyData}
theorem EvD.mono (e : Ex H H') (h : EvD K te σ H d) : EvD K te σ H' d := fun H1 a Q q => h H1 (e.trans a) Q q
theorem EvF.mono (e : Ex H H') (h : EvF K te σ H ds) : EvF K te σ H' ds := fun H1 a Q q => h H1 (e.trans a) Q q
theorem ed_var {i : Nat} (h : σ[i]? = some (some v)) (hd : Dt K H v d) : EvD K (tVar i) σ H d := fun H1 e _ q => ⟨v, h, q v H1 (Ex.refl H1) (dt_ex e hd)⟩
theorem ed_ev (h : Ev te σ H v) (hd : Dt K H v d) : EvD K te σ H d := fun H1 e Q q => h H1 e Q fun H2 e2 => q v H2 e2 (dt_ex (e.trans e2) hd)
theorem ev_int {i : Int} (h : EvD K te σ H (.int i)) : Ev te σ H (.int i) := fun H1 e Q q => h H1 e Q fun v H2 e2 hd => by
  cases hd
  exact q H2 e2
theorem ev_bl {b : Bool} (h : EvD K te σ H (.bool b)) : Ev te σ H (.bl b) := fun H1 e Q q => h H1 e Q fun v H2 e2 hd => by
  cases hd
  exact q H2 e2
theorem ev_str {s : Str} (h : EvD K te σ H (.str s)) : Ev te σ H (.str s) := fun H1 e Q q => h H1 e Q fun v H2 e2 hd => by
  cases hd
  exact q H2 e2
theorem ed_int {i : Int} (h : Ev te σ H (.int i)) : EvD K te σ H (.int i) := ed_ev h (.int i)
theorem ed_bl {b : Bool} (h : Ev te σ H (.bl b)) : EvD K te σ H (.bool b) := ed_ev h (.bl b)
theorem ed_is {e : PyData} (h : EvD K te σ H d) (q : d = e) : EvD K te σ H e := q ▸ h
theorem ef_is (h : EvF K te σ H ds) (q : ds = es) : EvF K te σ H es := q ▸ h
theorem eb_nil : EvB K tNil σ H [] := fun H1 _ _ q => q [] H1 (Ex.refl H1) .nil
theorem eb_cons {tr : TA} (h : EvD K ta σ H d) (hr : EvB K tr σ H ds) : EvB K (tCons ta tr) σ H (d :: ds) := fun H1 e _ q =>
  h H1 e _ fun v H2 e2 hd => hr H2 (e.trans e2) _ fun vs H3 e3 ha => q (v :: vs) H3 (e2.trans e3) (.cons (dt_ex e3 hd) ha)
theorem ed_tup {ta : TA} (h : EvB K ta σ H ds) (hl : ds.length ≤ 100000) : EvD K (tTup ta) σ H (.tuple ds) := fun H1 e _ q =>
  h H1 e _ fun vs H2 e2 ha => ⟨sz_of (by rw [dta_len ha]; exact hl), fun p hp => q _ _ (e2.trans (Ex.new hp)) (.tup (.inl (.inl upd_same)) (dta_ex (Ex.new hp) ha))⟩
theorem ef_lst {ta : TA} (h : EvB K ta σ H ds) (hl : ds.length ≤ 100000) : EvF K (tLst ta) σ H ds := fun H1 e _ q =>
  h H1 e _ fun vs H2 e2 ha => ⟨sz_of (by rw [dta_len ha]; exact hl), fun p hp => q p vs _ (fresh_back e2 hp) (e2.trans (Ex.new hp)) upd_same (dta_ex (Ex.new hp) ha)⟩
/-- t + u -/
theorem ed_cat {xs ys : List PyData} (ha : EvD K ta σ H (.tuple xs)) (hb : EvD K tb σ H (.tuple ys)) (hl : xs.length + ys.length ≤ 100000) : EvD K (tOp (rCatA K) ta tb) σ H (.tuple (xs ++ ys)) := fun H1 e Q q =>
  ha H1 e _ fun v H2 e2 hv => hb H2 (e.trans e2) _ fun w H3 e3 hw => by
    have hv := dt_ex e3 hv
    cases hv with
    | tup hs hx =>
      cases hw with
      | tup ht hy =>
        rename_i a vs b ws
        refine ⟨_, _, _, _, rfl, rfl, hs, ht, sz_of (by rw [dta_len hx, dta_len hy]; exact hl), fun z => ?_, fun _ z => ?_, fun _ _ p hp => ?_⟩
        · subst z
          cases hx
          exact q _ _ (e2.trans e3) (.tup ht hy)
        · subst z
          cases hy
          rw [List.append_nil] at q
          exact q _ _ (e2.trans e3) (.tup hs hx)
        · exact q _ _ ((e2.trans e3).trans (Ex.new hp)) (.tup (.inl (.inl upd_same)) (dta_ex (Ex.new hp) (dta_app hx hy)))
theorem atI_dta {vs : List V} {i : Int} (h : DtAll K H vs ds) (e : atI ds i = some d) : ∃ v, atI vs i = some v ∧ Dt K H v d := by
  unfold atI at e ⊢
  rw [dta_len h]
  cases q : ixN ds.length i with
  | none => rw [q] at e; cases e
  | some j =>
    rw [q] at e
    exact dta_get' h e
theorem ed_ixT {i : Int} (ha : EvD K ta σ H (.tuple ds)) (hb : Ev tb σ H (.int i)) (h : atI ds i = some d) : EvD K (tOp (rIxT K) ta tb) σ H d := fun H1 e Q q =>
  ha H1 e _ fun v H2 e2 hv => hb H2 (e.trans e2) _ fun H3 e3 => by
    have hv := dt_ex e3 hv
    cases hv with
    | tup hs hx =>
      obtain ⟨w, hw, hd⟩ := atI_dta hx h
      exact ⟨_, _, i, w, rfl, rfl, hs, hw, q w H3 (e2.trans e3) hd⟩
/-- xs[i] of a list that stands -/
theorem ed_ixL {i : Int} {a : Addr} {xs : List V} (ha : Ev ta σ H (.ref a)) (hs : SqL K H a xs) (hx : DtAll K H xs ds) (hb : Ev tb σ H (.int i)) (h : atI ds i = some d) : EvD K (tOp (rIxL K) ta tb) σ H d := fun H1 e Q q =>
  ha H1 e _ fun H2 e2 => hb H2 (e.trans e2) _ fun H3 e3 => by
    obtain ⟨w, hw, hd⟩ := atI_dta (dta_ex ((e.trans e2).trans e3) hx) h
    exact ⟨_, _, i, w, rfl, rfl, ex_l ((e.trans e2).trans e3) hs, hw, q w H3 (e2.trans e3) hd⟩
/-- [..][i]: of a list made on the way -/
theorem ed_ixF {i : Int} (ha : EvF K ta σ H ds) (hb : Ev tb σ H (.int i)) (h : atI ds i = some d) : EvD K (tOp (rIxL K) ta tb) σ H d := fun H1 e Q q =>
  ha H1 e _ fun p xs H2 _ e2 hp hx => hb H2 (e.trans e2) _ fun H3 e3 => by
    obtain ⟨w, hw, hd⟩ := atI_dta (dta_ex e3 hx) h
    exact ⟨_, _, i, w, rfl, rfl, sq_of (e3 p _ hp), hw, q w H3 (e2.trans e3) hd⟩
theorem ev_lenT (ha : EvD K ta σ H (.tuple ds)) : Ev (tCB (rLenS K) (tCons ta tNil)) σ H (.int (ds.length : Int)) := fun H1 e Q q =>
  ha H1 e _ fun v H2 e2 hv => by
    cases hv with
    | tup hs hx =>
      refine ⟨_, _, rfl, .inr hs, ?_⟩
      rw [dta_len hx]
      exact q H2 e2
theorem ev_lenF (ha : EvF K ta σ H ds) : Ev (tCB (rLenS K) (tCons ta tNil)) σ H (.int (ds.length : Int)) := fun H1 e Q q =>
  ha H1 e _ fun p xs H2 _ e2 hp hx => ⟨p, xs, rfl, .inl (sq_of hp), by rw [dta_len hx]; exact q H2 e2⟩
theorem ev_lenD {a : Addr} {xs : List V} (ha : Ev ta σ H (.ref a)) (hs : SqL K H a xs) (hx : DtAll K H xs ds) : Ev (tCB (rLenS K) (tCons ta tNil)) σ H (.int (ds.length : Int)) := by
  rw [← dta_len hx]
  exact ev_len ha hs
/-- xs + ys -/
theorem ef_catLF {p : Addr} {xs : List V} (ha : Ev ta σ H (.ref p)) (hp : H p = some (.lst xs)) (hx : DtAll K H xs ds) (hb : EvF K tb σ H es) (hl : ds.length + es.length ≤ 100000) : EvF K (tOp rCat ta tb) σ H (ds ++ es) := fun H1 e Q q =>
  ha H1 e _ fun H2 e2 => hb H2 (e.trans e2) _ fun b ys H3 _ e3 hb' hy =>
    ⟨_, _, _, _, rfl, rfl, ((e.trans e2).trans e3) p _ hp, hb', sz_of (by rw [dta_len hx, dta_len hy]; exact hl), fun n hn =>
      q n _ _ (fresh_back (e2.trans e3) hn) ((e2.trans e3).trans (Ex.new hn)) upd_same (dta_ex (Ex.new hn) (dta_app (dta_ex ((e.trans e2).trans e3) hx) hy))⟩
theorem ef_catFF (ha : EvF K ta σ H ds) (hb : EvF K tb σ H es) (hl : ds.length + es.length ≤ 100000) : EvF K (tOp rCat ta tb) σ H (ds ++ es) := fun H1 e Q q =>
  ha H1 e _ fun p xs H2 np e2 hp hx => hb H2 (e.trans e2) _ fun b ys H3 _ e3 hb' hy =>
    ⟨_, _, _, _, rfl, rfl, e3 p _ hp, hb', sz_of (by rw [dta_len hx, dta_len hy]; exact hl), fun n hn =>
      q n _ _ (fresh_back (e2.trans e3) hn) ((e2.trans e3).trans (Ex.new hn)) upd_same (dta_ex (Ex.new hn) (dta_app (dta_ex e3 hx) hy))⟩
/-! calls of defs that hand on data -/
def spD (K : PySem.W.Frag) (pre : List PyData → Prop) (f : List PyData → PyData) : Sp := fun vs H Q _ => ∃ ds, DtAll K H vs ds ∧ pre ds ∧ ∀ v H2, Ex H H2 → Dt K H2 v (f ds) → Q v H2
def spF (K : PySem.W.Frag) (pre : List PyData → Prop) (f : List PyData → List PyData) : Sp := fun vs H Q _ => ∃ ds, DtAll K H vs ds ∧ pre ds ∧ ∀ p xs H2, H p = none → Ex H H2 → H2 p = some (.lst xs) → DtAll K H2 xs (f ds) → Q (.ref p) H2
theorem ed_call {pre : List PyData → Prop} {f : List PyData → PyData} {E : XK} {ta : TA} (h : EvB K ta σ H ds) (hp : pre ds) : EvD K (tCall (spD K pre f) [] E ta) σ H (f ds) := fun H1 e Q q =>
  h H1 e _ fun vs H2 e2 ha => by
    show spD K pre f (vs ++ []) H2 Q E
    rw [List.append_nil]
    exact ⟨ds, ha, hp, fun v H3 e3 hd => q v H3 (e2.trans e3) hd⟩
theorem ef_call {pre : List PyData → Prop} {f : List PyData → List PyData} {E : XK} {ta : TA} (h : EvB K ta σ H ds) (hp : pre ds) : EvF K (tCall (spF K pre f) [] E ta) σ H (f ds) := fun H1 e Q q =>
  h H1 e _ fun vs H2 e2 ha => by
    show spF K pre f (vs ++ []) H2 Q E
    rw [List.append_nil]
    exact ⟨ds, ha, hp, fun p xs H3 np e3 hx hd => q p xs H3 (fresh_back e2 np) (e2.trans e3) hx hd⟩
/-! == and != -/
theorem ev_eqDD {d e : PyData} (ha : EvD K ta σ H d) (hb : EvD K tb σ H e) (sd : SeqAt.shaped d = true) (se : SeqAt.shaped e = true) : Ev (tOp (rEqD K) ta tb) σ H (.bl (PyData.eqv d e)) := fun H1 e1 Q q =>
  ha H1 e1 _ fun v H2 e2 hv => hb H2 (e1.trans e2) _ fun w H3 e3 hw => ⟨d, e, dt_dp (dt_ex e3 hv), dt_dp hw, sd, se, q H3 (e2.trans e3)⟩
theorem ev_neDD {d e : PyData} (ha : EvD K ta σ H d) (hb : EvD K tb σ H e) (sd : SeqAt.shaped d = true) (se : SeqAt.shaped e = true) : Ev (tOp (rNeD K) ta tb) σ H (.bl (!PyData.eqv d e)) := fun H1 e1 Q q =>
  ha H1 e1 _ fun v H2 e2 hv => hb H2 (e1.trans e2) _ fun w H3 e3 hw => ⟨d, e, dt_dp (dt_ex e3 hv), dt_dp hw, sd, se, q H3 (e2.trans e3)⟩
theorem ev_neFF (ha : EvF K ta σ H ds) (hb : EvF K tb σ H es) (sd : SeqAt.shaped (.list ds) = true) (se : SeqAt.shaped (.list es) = true) : Ev (tOp (rNeD K) ta tb) σ H (.bl (!PyData.eqv (.list ds) (.list es))) := fun H1 e1 Q q =>
  ha H1 e1 _ fun p xs H2 _ e2 hp hx => hb H2 (e1.trans e2) _ fun r ys H3 _ e3 hr hy => ⟨_, _, .lst (sq_of (e3 p _ hp)) (dta_dp (dta_ex e3 hx)), .lst (sq_of hr) (dta_dp hy), sd, se, q H3 (e2.trans e3)⟩
theorem ev_eqFF (ha : EvF K ta σ H ds) (hb : EvF K tb σ H es) (sd : SeqAt.shaped (.list ds) = true) (se : SeqAt.shaped (.list es) = true) : Ev (tOp (rEqD K) ta tb) σ H (.bl (PyData.eqv (.list ds) (.list es))) := fun H1 e1 Q q =>
  ha H1 e1 _ fun p xs H2 _ e2 hp hx => hb H2 (e1.trans e2) _ fun r ys H3 _ e3 hr hy => ⟨_, _, .lst (sq_of (e3 p _ hp)) (dta_dp (dta_ex e3 hx)), .lst (sq_of hr) (dta_dp hy), sd, se, q H3 (e2.trans e3)⟩
/-- lists that stand -/
theorem rv_neL {a b : Addr} {xs ys : List V} (h1 : SqL K H a xs) (hx : DtAll K H xs ds) (h2 : SqL K H b ys) (hy : DtAll K H ys es) (sd : SeqAt.shaped (.list ds) = true) (se : SeqAt.shaped (.list es) = true) : RV (rNeD K) (.ref a) (.ref b) H (.bl (!PyData.eqv (.list ds) (.list es))) := fun H1 e Q q =>
  ⟨_, _, .lst (ex_l e h1) (dta_dp (dta_ex e hx)), .lst (ex_l e h2) (dta_dp (dta_ex e hy)), sd, se, q H1 (Ex.refl H1)⟩
/-! comprehensions -/
def Cd (K : PySem.W.Frag) (H : Hp) (Dl : Addr) (ds : List PyData) (H' : Hp) : Prop := H Dl = none ∧ Ex H H' ∧ ∃ acc, H' Dl = some (.lst acc) ∧ DtAll K H' acc ds
theorem cd_turn {H H' : Hp} {Dl : Addr} {ds : List PyData} {b : Bool} {d : PyData} {σ2 : L2.St} (p : Cd K H Dl ds H') (hi : ds.length < 50000) (ht : EvT t σ2 H' b) (he : b = true → EvD K te σ2 H' d) :
    t σ2 H' fun b H3 => if b = true then te σ2 H3 fun y H4 => ∃ acc, H4 Dl = some (.lst acc) ∧ acc.length < sizeLine ∧ Cd K H Dl (ds ++ [d]) (upd H4 Dl (.lst (acc ++ [y]))) else Cd K H Dl ds H3 := by
  obtain ⟨p1, p2, acc, p3, p4⟩ := p
  refine ht H' (Ex.refl H') _ fun H3 e3 => ?_
  cases b with
  | true =>
    show te σ2 H3 fun y H4 => _
    refine (he rfl) H3 e3 _ fun y H4 e4 hd => ⟨acc, e4 Dl _ (e3 Dl _ p3), sz_lt (by rw [dta_len p4]; omega), p1, Ex.mut ((p2.trans e3).trans e4) p1, _, upd_same, ?_⟩
    exact dta_tx (tx_lst (e4 Dl _ (e3 Dl _ p3))) (dta_app (dta_ex (e3.trans e4) p4) (dta_one hd))
  | false => exact ⟨p1, p2.trans e3, acc, e3 Dl _ p3, dta_ex e3 p4⟩
theorem filter_take_succ {α : Type} {f : α → Bool} {l : List α} {i : Nat} {a : α} (h : l[i]? = some a) : (l.take (i + 1)).filter f = (l.take i).filter f ++ (if f a = true then [a] else []) := by
  rw [List.take_add_one, h, List.filter_append]
  show _ ++ List.filter f [a] = _
  rw [List.filter_cons]
  cases f a <;> rfl
/-- the turn of a comprehension over things as .. filtered by f, told by g -/
theorem cd_step {α : Type} {f : α → Bool} {g : α → PyData} {l : List α} {H H' : Hp} {Dl : Addr} {i : Nat} {a : α} {σ2 : L2.St} (p : Cd K H Dl (((l.take i).filter f).map g) H') (hl : l.length < 50000) (ha : l[i]? = some a) (ht : EvT t σ2 H' (f a)) (he : f a = true → EvD K te σ2 H' (g a)) :
    t σ2 H' fun b H3 => if b = true then te σ2 H3 fun y H4 => ∃ acc, H4 Dl = some (.lst acc) ∧ acc.length < sizeLine ∧ Cd K H Dl (((l.take (i + 1)).filter f).map g) (upd H4 Dl (.lst (acc ++ [y]))) else Cd K H Dl (((l.take (i + 1)).filter f).map g) H3 := by
  have hz : (((l.take i).filter f).map g).length < 50000 := by
    rw [List.length_map]
    have h1 := List.length_filter_le f (l.take i)
    have h2 : (l.take i).length ≤ l.length := by rw [List.length_take]; exact Nat.min_le_right _ _
    omega
  obtain ⟨p1, p2, acc, p3, p4⟩ := p
  refine ht H' (Ex.refl H') _ fun H3 e3 => ?_
  have e1 := filter_take_succ (f := f) ha
  cases hb : f a with
  | true =>
    rw [hb, if_pos rfl] at e1
    refine iteT ?_
    refine he hb H3 e3 _ fun y H4 e4 hd => ⟨acc, e4 Dl _ (e3 Dl _ p3), sz_lt (by rw [dta_len p4]; omega), p1, Ex.mut ((p2.trans e3).trans e4) p1, _, upd_same, ?_⟩
    rw [e1, List.map_append]
    exact dta_tx (tx_lst (e4 Dl _ (e3 Dl _ p3))) (dta_app (dta_ex (e3.trans e4) p4) (dta_one hd))
  | false =>
    rw [hb, if_neg Bool.false_ne_true, List.append_nil] at e1
    refine iteF ?_
    rw [e1]
    exact ⟨p1, p2.trans e3, acc, e3 Dl _ p3, dta_ex e3 p4⟩
/-- over a list that stands -/
theorem ef_lcL {a : Addr} {xs : List V} {tl : TE} {j : Nat} {vs : List Nat} (f : PyData → Bool) (g : PyData → PyData) (h : Ev tl σ H (.ref a)) (hx : SqL K H a xs) (hd : DtAll K H xs ds) (hz : ds.length < 50000) (hw : ∀ x, wipe ((wipe σ vs).set j (some x)) vs = wipe σ vs)
    (ht : ∀ (d : PyData) (x : V) H1, Ex H H1 → d ∈ ds → Dt K H1 x d → EvT t ((wipe σ vs).set j (some x)) H1 (f d)) (he : ∀ (d : PyData) (x : V) H1, Ex H H1 → d ∈ ds → Dt K H1 x d → f d = true → EvD K te ((wipe σ vs).set j (some x)) H1 (g d)) :
    EvF K (tLc (iList K tl) (gName j) t te vs) σ H ((ds.filter f).map g) := fun H0 e Q q => h H0 e _ fun H1 e1 => ⟨a, rfl, ⟨xs, ex_l (e.trans e1) hx⟩, fun Dl hD =>
  lc_list (xs := xs) (fun i H' => Cd K H1 Dl (((ds.take i).filter f).map g) H') ⟨hD, Ex.new hD, [], upd_same, .nil⟩ (fun i H' _ p => ex_l ((e.trans e1).trans p.2.1) hx) (fun i x H' hi p => by
      obtain ⟨d, h1, h2⟩ := dta_get (dta_ex ((e.trans e1).trans p.2.1) hd) hi
      have hm := List.mem_of_getElem? h1
      have e3 := (e.trans e1).trans p.2.1
      exact ⟨hw x, cd_step p hz h1 (ht d x H' e3 hm h2) (fun hf => he d x H' e3 hm h2 hf)⟩)
    (fun H' p => by
      obtain ⟨p1, p2, acc, p3, p4⟩ := p
      have e5 : ds.take xs.length = ds := List.take_of_length_le (by rw [dta_len hd]; exact Nat.le_refl _)
      rw [e5] at p4
      exact q Dl acc H' (fresh_back e1 p1) (e1.trans p2) p3 p4)⟩
/-- over a tuple -/
theorem ef_lcT {tl : TE} {j : Nat} {vs : List Nat} (f : PyData → Bool) (g : PyData → PyData) (h : EvD K tl σ H (.tuple ds)) (hz : ds.length < 50000) (hw : ∀ x, wipe ((wipe σ vs).set j (some x)) vs = wipe σ vs)
    (ht : ∀ (d : PyData) (x : V) H1, Ex H H1 → d ∈ ds → Dt K H1 x d → EvT t ((wipe σ vs).set j (some x)) H1 (f d)) (he : ∀ (d : PyData) (x : V) H1, Ex H H1 → d ∈ ds → Dt K H1 x d → f d = true → EvD K te ((wipe σ vs).set j (some x)) H1 (g d)) :
    EvF K (tLc (iTup K tl) (gName j) t te vs) σ H ((ds.filter f).map g) := fun H0 e Q q => h H0 e _ fun v H1 e1 hv => by
  cases hv with
  | tup hx hd =>
    rename_i a xs
    exact ⟨a, rfl, ⟨xs, hx⟩, fun Dl hD =>
      lc_tup (xs := xs) (fun i H' => Cd K H1 Dl (((ds.take i).filter f).map g) H') ⟨hD, Ex.new hD, [], upd_same, .nil⟩ (fun i H' _ p => ex_t p.2.1 hx) (fun i x H' hi p => by
          obtain ⟨d, h1, h2⟩ := dta_get (dta_ex p.2.1 hd) hi
          have hm := List.mem_of_getElem? h1
          have e3 := (e.trans e1).trans p.2.1
          exact ⟨hw x, cd_step p hz h1 (ht d x H' e3 hm h2) (fun hf => he d x H' e3 hm h2 hf)⟩)
        (fun H' p => by
          obtain ⟨p1, p2, acc, p3, p4⟩ := p
          have e5 : ds.take xs.length = ds := List.take_of_length_le (by rw [dta_len hd]; exact Nat.le_refl _)
          rw [e5] at p4
          exact q Dl acc H' (fresh_back e1 p1) (e1.trans p2) p3 p4)⟩
/-- over a list made on the way -/
theorem ef_lcF {tl : TE} {j : Nat} {vs : List Nat} (f : PyData → Bool) (g : PyData → PyData) (h : EvF K tl σ H ds) (hz : ds.length < 50000) (hw : ∀ x, wipe ((wipe σ vs).set j (some x)) vs = wipe σ vs)
    (ht : ∀ (d : PyData) (x : V) H1, Ex H H1 → d ∈ ds → Dt K H1 x d → EvT t ((wipe σ vs).set j (some x)) H1 (f d)) (he : ∀ (d : PyData) (x : V) H1, Ex H H1 → d ∈ ds → Dt K H1 x d → f d = true → EvD K te ((wipe σ vs).set j (some x)) H1 (g d)) :
    EvF K (tLc (iList K tl) (gName j) t te vs) σ H ((ds.filter f).map g) := fun H0 e Q q => h H0 e _ fun a xs H1 ha e1 hx hd => ⟨a, rfl, ⟨xs, sq_of hx⟩, fun Dl hD =>
  lc_list (xs := xs) (fun i H' => Cd K H1 Dl (((ds.take i).filter f).map g) H') ⟨hD, Ex.new hD, [], upd_same, .nil⟩ (fun i H' _ p => sq_of (p.2.1 a _ hx)) (fun i x H' hi p => by
      obtain ⟨d, h1, h2⟩ := dta_get (dta_ex p.2.1 hd) hi
      have hm := List.mem_of_getElem? h1
      have e3 := (e.trans e1).trans p.2.1
      exact ⟨hw x, cd_step p hz h1 (ht d x H' e3 hm h2) (fun hf => he d x H' e3 hm h2 hf)⟩)
    (fun H' p => by
      obtain ⟨p1, p2, acc, p3, p4⟩ := p
      have e5 : ds.take xs.length = ds := List.take_of_length_le (by rw [dta_len hd]; exact Nat.le_refl _)
      rw [e5] at p4
      exact q Dl acc H' (fresh_back e1 p1) (e1.trans p2) p3 p4)⟩
/-- the ints lo, lo + 1, .. below hi -/
def upTo (lo hi : Int) : List Int := (List.range (hi - lo).toNat).map fun (i : Nat) => lo + (i : Int)
theorem upTo_get {lo hi : Int} {i : Nat} (h : i < (hi - lo).toNat) : (upTo lo hi)[i]? = some (lo + (i : Int)) := by
  unfold upTo
  rw [List.getElem?_map, List.getElem?_range h]
  rfl
theorem upTo_len (lo hi : Int) : (upTo lo hi).length = (hi - lo).toNat := by
  unfold upTo
  rw [List.length_map, List.length_range]
theorem ef_lcR2 {ta : TA} {j : Nat} {vs : List Nat} {lo hi : Int} (f : Int → Bool) (g : Int → PyData) (h : EvA ta σ H [.int lo, .int hi]) (hn : -10000 ≤ lo ∧ lo ≤ 10000 ∧ -10000 ≤ hi ∧ hi ≤ 10000) (hw : ∀ x, wipe ((wipe σ vs).set j (some x)) vs = wipe σ vs)
    (ht : ∀ (i : Int) H1, Ex H H1 → lo ≤ i → i < hi → EvT t ((wipe σ vs).set j (some (.int i))) H1 (f i)) (he : ∀ (i : Int) H1, Ex H H1 → lo ≤ i → i < hi → f i = true → EvD K te ((wipe σ vs).set j (some (.int i))) H1 (g i)) :
    EvF K (tLc (iRng2 ta) (gName j) t te vs) σ H (((upTo lo hi).filter f).map g) := fun H0 e Q q => h H0 e _ fun H1 e1 => ⟨lo, hi, rfl, ⟨by omega, by omega, by omega, by omega⟩, fun Dl hD =>
  lc_range (lo := lo) (n := (hi - lo).toNat) (fun i H' => Cd K H1 Dl ((((upTo lo hi).take i).filter f).map g) H') ⟨hD, Ex.new hD, [], upd_same, .nil⟩ (fun i H' hi p => by
      have e3 := (e.trans e1).trans p.2.1
      exact ⟨hw _, cd_step p (by rw [upTo_len]; omega) (upTo_get hi) (ht _ H' e3 (by omega) (by omega)) (fun hf => he _ H' e3 (by omega) (by omega) hf)⟩)
    (fun H' p => by
      obtain ⟨p1, p2, acc, p3, p4⟩ := p
      have e5 : (upTo lo hi).take (hi - lo).toNat = upTo lo hi := List.take_of_length_le (by rw [upTo_len]; exact Nat.le_refl _)
      rw [e5] at p4
      exact q Dl acc H' (fresh_back e1 p1) (e1.trans p2) p3 p4)⟩
theorem ef_lcR1 {ta : TA} {j : Nat} {vs : List Nat} {hi : Int} (f : Int → Bool) (g : Int → PyData) (h : EvA ta σ H [.int hi]) (hn : -10000 ≤ hi ∧ hi ≤ 10000) (hw : ∀ x, wipe ((wipe σ vs).set j (some x)) vs = wipe σ vs)
    (ht : ∀ (i : Int) H1, Ex H H1 → 0 ≤ i → i < hi → EvT t ((wipe σ vs).set j (some (.int i))) H1 (f i)) (he : ∀ (i : Int) H1, Ex H H1 → 0 ≤ i → i < hi → f i = true → EvD K te ((wipe σ vs).set j (some (.int i))) H1 (g i)) :
    EvF K (tLc (iRng1 ta) (gName j) t te vs) σ H (((upTo 0 hi).filter f).map g) := fun H0 e Q q => h H0 e _ fun H1 e1 => ⟨hi, rfl, by omega, by omega, fun Dl hD =>
  lc_range (lo := 0) (n := hi.toNat) (fun i H' => Cd K H1 Dl ((((upTo 0 hi).take i).filter f).map g) H') ⟨hD, Ex.new hD, [], upd_same, .nil⟩ (fun i H' hi p => by
      have e3 := (e.trans e1).trans p.2.1
      exact ⟨hw _, cd_step p (by rw [upTo_len]; omega) (upTo_get (by omega)) (ht _ H' e3 (by omega) (by omega)) (fun hf => he _ H' e3 (by omega) (by omega) hf)⟩)
    (fun H' p => by
      obtain ⟨p1, p2, acc, p3, p4⟩ := p
      have e5 : (upTo 0 hi).take hi.toNat = upTo 0 hi := List.take_of_length_le (by rw [upTo_len]; omega)
      rw [e5] at p4
      exact q Dl acc H' (fresh_back e1 p1) (e1.trans p2) p3 p4)⟩
theorem et_yes : EvT tYes σ H true := fun H1 _ _ q => q H1 (Ex.refl H1)
theorem ev_chain {r r' : R2} {tc : TE} {a b : Bool} (ha : Ev ta σ H x) (hb : Ev tb σ H y) (hc : Ev tc σ H z) (h1 : RV r x y H (.bl a)) (h2 : RV r' y z H (.bl b)) : Ev (tChain r r' ta tb tc) σ H (.bl (a && b)) := fun H1 e Q q =>
  ha H1 e _ fun H2 e2 => hb H2 (e.trans e2) _ fun H3 e3 => h1 H3 ((e.trans e2).trans e3) _ fun H4 e4 => ⟨a, rfl, by
    cases a with
    | true => exact iteT (hc H4 (((e.trans e2).trans e3).trans e4) _ fun H5 e5 => h2 H5 ((((e.trans e2).trans e3).trans e4).trans e5) Q fun H6 e6 => q H6 ((((e2.trans e3).trans e4).trans e5).trans e6))
    | false => exact iteF (q H4 ((e2.trans e3).trans e4))⟩
/-- x or y, x a tuple -/
theorem ed_orT (ha : EvD K ta σ H (.tuple ds)) (hb : ds = [] → EvD K tb σ H d) (hd : ds ≠ [] → d = .tuple ds) : EvD K (tOrT K ta tb) σ H d := fun H1 e Q q =>
  ha H1 e _ fun v H2 e2 hv => by
    cases hv with
    | tup hs hx =>
      rename_i a xs
      refine ⟨!xs.isEmpty, .inr (.inl ⟨xs, hs, rfl⟩), ?_⟩
      cases xs with
      | nil =>
        cases hx
        exact iteF (hb rfl H2 (e.trans e2) Q fun w H3 e3 hw => q w H3 (e2.trans e3) hw)
      | cons x xs =>
        refine iteT ?_
        have hne : ds ≠ [] := fun z => by
          subst z
          cases hx
        refine q _ H2 e2 ?_
        rw [hd hne]
        exact .tup hs hx
theorem ev_isi {ty c : String} {b : Bool} (ha : Ev ta σ H v) (hb : Ev tb σ H (.ty c)) (ht : ∀ H1, Ex H H1 → TyX K H1 v (.type ty)) (hk : kitB ty c = some b) : Ev (tCB (rIsi K) (tCons ta (tCons tb tNil))) σ H (.bl b) := fun H1 e Q q =>
  ha H1 e _ fun H2 e2 => hb H2 (e.trans e2) _ fun H3 e3 => ⟨v, .ty c, .type ty, .type c, b, rfl, .ty c, ht H3 ((e.trans e2).trans e3), kit_ty hk, q H3 (e2.trans e3)⟩
theorem ty_int {i : Int} : ∀ H1, Ex H H1 → TyX K H1 (.int i) (.type "int") := fun _ _ => .base (.int i)
theorem ev_min2 {i j : Int} (ha : Ev ta σ H (.int i)) (hb : Ev tb σ H (.int j)) : Ev (tCB (fun xs H Q => ∃ i j, xs = [.int i, .int j] ∧ Q (.int (if j < i then j else i)) H) (tCons ta (tCons tb tNil))) σ H (.int (if j < i then j else i)) := fun H1 e Q q =>
  ha H1 e _ fun H2 e2 => hb H2 (e.trans e2) _ fun H3 e3 => ⟨i, j, rfl, q H3 (e2.trans e3)⟩
/-- a def that hands back a value and leaves the heap -/
def spV (pre : List V → Hp → Prop) (f : List V → V) : Sp := fun vs H Q _ => pre vs H ∧ ∀ H2, Ex H H2 → Q (f vs) H2
theorem ev_spv {pre : List V → Hp → Prop} {f : List V → V} {E : XK} {ta : TA} {vs : List V} (h : EvA ta σ H vs) (hp : ∀ H1, Ex H H1 → pre vs H1) : Ev (tCall (spV pre f) [] E ta) σ H (f vs) := fun H1 e Q q =>
  h H1 e _ fun H2 e2 => by
    show spV pre f (vs ++ []) H2 Q E
    rw [List.append_nil]
    exact ⟨hp H2 (e.trans e2), fun H3 e3 => q H3 (e2.trans e3)⟩
end
section
variable {K : PySem.W.Frag} {σ : L2.St} {H H' : Hp} {te : TE} {d : PyData} {ds : List PyData} {D : Ends} {tz tu : TS} {i : Nat}
theorem s_asgF (h : EvF K te σ H ds) (k : ∀ p xs H1, H p = none → Ex H H1 → H1 p = some (.lst xs) → DtAll K H1 xs ds → D.nx (σ.set i (some (.ref p))) H1) : tAsg te (gName i) D σ H := h H (Ex.refl H) _ k
theorem q_asgF (h : EvF K te σ H ds) (k : ∀ p xs H1, H p = none → Ex H H1 → H1 p = some (.lst xs) → DtAll K H1 xs ds → tz D (σ.set i (some (.ref p))) H1) : tSeq (tAsg te (gName i)) tz D σ H := h H (Ex.refl H) _ k
theorem s_asgD (h : EvD K te σ H d) (k : ∀ v H1, Ex H H1 → Dt K H1 v d → D.nx (σ.set i (some v)) H1) : tAsg te (gName i) D σ H := h H (Ex.refl H) _ k
theorem q_asgD (h : EvD K te σ H d) (k : ∀ v H1, Ex H H1 → Dt K H1 v d → tz D (σ.set i (some v)) H1) : tSeq (tAsg te (gName i)) tz D σ H := h H (Ex.refl H) _ k
theorem s_retF (h : EvF K te σ H ds) (k : ∀ p xs H1, H p = none → Ex H H1 → H1 p = some (.lst xs) → DtAll K H1 xs ds → D.rt (.ref p) H1) : tRet te D σ H := h H (Ex.refl H) _ k
theorem s_retD (h : EvD K te σ H d) (k : ∀ v H1, Ex H H1 → Dt K H1 v d → D.rt v H1) : tRet te D σ H := h H (Ex.refl H) _ k
end
/-! ### lots as lists of ints -/
def lotD (l : List Int) : PyData := .tuple (l.map PyData.int)
theorem lotD_ix {l : List Int} {i : Int} {x : Int} (h : atI l i = some x) : atI (l.map PyData.int) i = some (.int x) := by
  unfold atI at h ⊢
  rw [List.length_map]
  cases q : ixN l.length i with
  | none => rw [q] at h; cases h
  | some j =>
    rw [q] at h
    show (l.map PyData.int)[j]? = _
    rw [List.getElem?_map, show l[j]? = some x from h]
    rfl
theorem dt_lot {K : PySem.W.Frag} {H : Hp} {v : V} {l : List Int} (h : Dt K H v (lotD l)) : ∃ a, v = .ref a ∧ SqT K H a (l.map V.int) := by
  unfold lotD at h
  cases h with
  | tup hs hx =>
    rw [dta_ints_inv hx] at hs
    exact ⟨_, rfl, hs⟩
theorem lot_dt {K : PySem.W.Frag} {H : Hp} {a : Addr} {l : List Int} (h : SqT K H a (l.map V.int)) : Dt K H (.ref a) (lotD l) := .tup h (dta_ints l)
theorem inV_ints (x : Int) : ∀ l : List Int, inV (.int x) (l.map V.int) = l.contains x := by
  intro l
  induction l with
  | nil => rfl
  | cons y r ih =>
    have e : inV (.int x) ((y :: r).map V.int) = (eqV (.int y) (.int x) || inV (.int x) (r.map V.int)) := rfl
    rw [e, ih, List.contains_cons]
    have e2 : eqV (.int y) (.int x) = (x == y) := by
      show (y == x) = (x == y)
      exact Bool.beq_comm
    rw [e2]
theorem flat_ints : ∀ l : List Int, (l.map V.int).all flatV = true
  | [] => rfl
  | x :: r => by
    show (true && (r.map V.int).all flatV) = true
    rw [flat_ints r]
    rfl
theorem lastD (l : List Int) (hne : l ≠ []) : atI l (-1) = some (l.getLast hne) := by
  have e : l = l.dropLast ++ [l.getLast hne] := (List.dropLast_concat_getLast hne).symm
  have := atI_last l.dropLast (l.getLast hne)
  rw [← e] at this
  exact this
theorem units1 {k : Nat} {A : Around} (r : Room k A) : A.units + 65 < cLine := by
  have := r.un
  omega
def topS (i : Nat) : Stmt := PySem.Challenge.pw_curvefaces_k31_low_and_high.main.body.getD i (.Pass ⟨0, 0, 0, 0⟩)
abbrev s_is_whole : Stmt := topS 5
abbrev N_is_whole : List Str := ["thing"]
theorem sc_is_whole : FnScope N_is_whole ["thing"] (defScope s_is_whole) := ⟨rfl, rfl, rfl, by decide +kernel, rfl, by decide +kernel, by decide +kernel⟩
abbrev s_is_lot_of : Stmt := topS 6
abbrev N_is_lot_of : List Str := ["thing", "many", "least", "one"]
theorem sc_is_lot_of : FnScope N_is_lot_of ["thing", "many"] (defScope s_is_lot_of) := ⟨rfl, rfl, rfl, by decide +kernel, rfl, by decide +kernel, by decide +kernel⟩
abbrev s_next_number : Stmt := topS 7
abbrev N_next_number : List Str := ["some"]
theorem sc_next_number : FnScope N_next_number ["some"] (defScope s_next_number) := ⟨rfl, rfl, rfl, by decide +kernel, rfl, by decide +kernel, by decide +kernel⟩
abbrev s_choices : Stmt := topS 8
abbrev N_choices : List Str := ["many", "size", "chosen", "left", "some", "k"]
theorem sc_choices : FnScope N_choices ["many", "size"] (defScope s_choices) := ⟨rfl, rfl, rfl, by decide +kernel, rfl, by decide +kernel, by decide +kernel⟩
abbrev s_odd_blocks : Stmt := topS 9
abbrev N_odd_blocks : List Str := ["many", "lot", "out_ahead", "at", "corner", "k"]
theorem sc_odd_blocks : FnScope N_odd_blocks ["many", "lot"] (defScope s_odd_blocks) := ⟨rfl, rfl, rfl, by decide +kernel, rfl, by decide +kernel, by decide +kernel⟩
abbrev s_paired : Stmt := topS 10
abbrev N_paired : List Str := ["chosen", "first", "corners", "at", "k"]
theorem sc_paired : FnScope N_paired ["chosen", "first"] (defScope s_paired) := ⟨rfl, rfl, rfl, by decide +kernel, rfl, by decide +kernel, by decide +kernel⟩
abbrev s_ended : Stmt := topS 11
abbrev N_ended : List Str := ["many", "deep", "head", "tail", "pairs", "room", "chosen"]
theorem sc_ended : FnScope N_ended ["many", "deep", "head", "tail"] (defScope s_ended) := ⟨rfl, rfl, rfl, by decide +kernel, rfl, by decide +kernel, by decide +kernel⟩
abbrev s_low_lots : Stmt := topS 12
abbrev N_low_lots : List Str := ["many", "deep"]
theorem sc_low_lots : FnScope N_low_lots ["many", "deep"] (defScope s_low_lots) := ⟨rfl, rfl, rfl, by decide +kernel, rfl, by decide +kernel, by decide +kernel⟩
abbrev s_high_lots : Stmt := topS 13
abbrev N_high_lots : List Str := ["many", "deep"]
theorem sc_high_lots : FnScope N_high_lots ["many", "deep"] (defScope s_high_lots) := ⟨rfl, rfl, rfl, by decide +kernel, rfl, by decide +kernel, by decide +kernel⟩
abbrev s_is_curve : Stmt := topS 17
abbrev N_is_curve : List Str := ["thing", "many", "deep"]
theorem sc_is_curve : FnScope N_is_curve ["thing"] (defScope s_is_curve) := ⟨rfl, rfl, rfl, by decide +kernel, rfl, by decide +kernel, by decide +kernel⟩
abbrev s_need_curve : Stmt := topS 18
abbrev N_need_curve : List Str := ["curve"]
theorem sc_need_curve : FnScope N_need_curve ["curve"] (defScope s_need_curve) := ⟨rfl, rfl, rfl, by decide +kernel, rfl, by decide +kernel, by decide +kernel⟩
abbrev s_is_lot : Stmt := topS 19
abbrev N_is_lot : List Str := ["thing", "curve"]
theorem sc_is_lot : FnScope N_is_lot ["thing", "curve"] (defScope s_is_lot) := ⟨rfl, rfl, rfl, by decide +kernel, rfl, by decide +kernel, by decide +kernel⟩
abbrev s_is_pane : Stmt := topS 20
abbrev N_is_pane : List Str := ["thing", "curve"]
theorem sc_is_pane : FnScope N_is_pane ["thing", "curve"] (defScope s_is_pane) := ⟨rfl, rfl, rfl, by decide +kernel, rfl, by decide +kernel, by decide +kernel⟩
abbrev s_need_pane : Stmt := topS 22
abbrev N_need_pane : List Str := ["curve", "pane"]
theorem sc_need_pane : FnScope N_need_pane ["curve", "pane"] (defScope s_need_pane) := ⟨rfl, rfl, rfl, by decide +kernel, rfl, by decide +kernel, by decide +kernel⟩
abbrev s_is_low : Stmt := topS 24
abbrev N_is_low : List Str := ["curve", "pane", "last_out", "corner"]
theorem sc_is_low : FnScope N_is_low ["curve", "pane"] (defScope s_is_low) := ⟨rfl, rfl, rfl, by decide +kernel, rfl, by decide +kernel, by decide +kernel⟩
abbrev s_low_panes : Stmt := topS 25
abbrev N_low_panes : List Str := ["curve", "many", "deep"]
theorem sc_low_panes : FnScope N_low_panes ["curve"] (defScope s_low_panes) := ⟨rfl, rfl, rfl, by decide +kernel, rfl, by decide +kernel, by decide +kernel⟩
abbrev s_high_panes : Stmt := topS 26
abbrev N_high_panes : List Str := ["curve", "many", "deep"]
theorem sc_high_panes : FnScope N_high_panes ["curve"] (defScope s_high_panes) := ⟨rfl, rfl, rfl, by decide +kernel, rfl, by decide +kernel, by decide +kernel⟩
abbrev s__law_box : Stmt := topS 28
abbrev N__law_box : List Str := ["_law_script", "_law_k", "_law_here", "_law_number", "_law_j", "_law_part"]
theorem sc__law_box : FnScope N__law_box ["_law_script", "_law_k"] (defScope s__law_box) := ⟨rfl, rfl, rfl, by decide +kernel, rfl, by decide +kernel, by decide +kernel⟩
abbrev s__law_more : Stmt := topS 29
abbrev N__law_more : List Str := ["_law_box_here", "_law_number", "_law_j"]
theorem sc__law_more : FnScope N__law_more ["_law_box_here"] (defScope s__law_more) := ⟨rfl, rfl, rfl, by decide +kernel, rfl, by decide +kernel, by decide +kernel⟩
abbrev s__law_take : Stmt := topS 30
abbrev N__law_take : List Str := ["_law_box_here", "_law_wide", "_law_rest_of", "_law_digit"]
theorem sc__law_take : FnScope N__law_take ["_law_box_here", "_law_wide"] (defScope s__law_take) := ⟨rfl, rfl, rfl, by decide +kernel, rfl, by decide +kernel, by decide +kernel⟩
abbrev s__law_curve : Stmt := topS 31
abbrev N__law_curve : List Str := ["_law_box_here", "_law_deep"]
theorem sc__law_curve : FnScope N__law_curve ["_law_box_here"] (defScope s__law_curve) := ⟨rfl, rfl, rfl, by decide +kernel, rfl, by decide +kernel, by decide +kernel⟩
abbrev s__law_lots : Stmt := topS 32
abbrev N__law_lots : List Str := ["_law_many", "_law_size", "_law_found", "_law_turn", "_law_longer", "_law_lot", "_law_corner"]
theorem sc__law_lots : FnScope N__law_lots ["_law_many", "_law_size"] (defScope s__law_lots) := ⟨rfl, rfl, rfl, by decide +kernel, rfl, by decide +kernel, by decide +kernel⟩
abbrev s__law_is_pane : Stmt := topS 33
abbrev N__law_is_pane : List Str := ["_law_curve_here", "_law_lot", "_law_apart", "_law_corner", "_law_place", "_law_one", "_law_other"]
theorem sc__law_is_pane : FnScope N__law_is_pane ["_law_curve_here", "_law_lot"] (defScope s__law_is_pane) := ⟨rfl, rfl, rfl, by decide +kernel, rfl, by decide +kernel, by decide +kernel⟩
abbrev s__law_panes : Stmt := topS 34
abbrev N__law_panes : List Str := ["_law_curve_here", "_law_lot"]
theorem sc__law_panes : FnScope N__law_panes ["_law_curve_here"] (defScope s__law_panes) := ⟨rfl, rfl, rfl, by decide +kernel, rfl, by decide +kernel, by decide +kernel⟩
abbrev s__law_has : Stmt := topS 35
abbrev N__law_has : List Str := ["_law_pane", "_law_lot", "_law_corner"]
theorem sc__law_has : FnScope N__law_has ["_law_pane", "_law_lot"] (defScope s__law_has) := ⟨rfl, rfl, rfl, by decide +kernel, rfl, by decide +kernel, by decide +kernel⟩
abbrev s__law_low : Stmt := topS 36
abbrev N__law_low : List Str := ["_law_curve_here", "_law_pane", "_law_last", "_law_corner"]
theorem sc__law_low : FnScope N__law_low ["_law_curve_here", "_law_pane"] (defScope s__law_low) := ⟨rfl, rfl, rfl, by decide +kernel, rfl, by decide +kernel, by decide +kernel⟩
abbrev s_law : Stmt := topS 37
abbrev N_law : List Str := ["_law_script", "_law_k", "_law_box_here", "_law_curve_here", "_law_rows", "_law_low_here", "_law_pane", "_law_high", "_law_found", "_law_turn", "_law_one", "_law_other", "_law_call", "_law_due", "_law_least", "_law_first", "_law_later"]
theorem sc_law : FnScope N_law ["_law_script"] (defScope s_law) := ⟨rfl, rfl, rfl, by decide +kernel, rfl, by decide +kernel, by decide +kernel⟩
/-- the built-ins that the text uses are the built-ins -/
structure Bt (mg : Str → Option Value) : Prop where
  isinstance_ : mg "isinstance" = none
  int_ : mg "int" = none
  bool_ : mg "bool" = none
  tuple_ : mg "tuple" = none
  range_ : mg "range" = none
  len_ : mg "len" = none
  enumerate_ : mg "enumerate" = none
  max_ : mg "max" = none
  abs_ : mg "abs" = none
  divmod_ : mg "divmod" = none
  min_ : mg "min" = none
  list_ : mg "list" = none
/-- a def of the text: where it stands, its name, how its arguments bind -/
structure Df (K : PySem.W.Frag) (mg : Str → Option Value) (x : Str) (st : Stmt) (ps : List Str) (f : Addr) (fd : FuncData) : Prop where
  F : Fun K x x st f fd
  g : mg x = some (.ref f)
  b : Binds K fd ps []
structure All (K : PySem.W.Frag) (mg : Str → Option Value) where
  B : Bt mg
  f_is_whole : Addr
  fd_is_whole : FuncData
  D_is_whole : Df K mg "is_whole" s_is_whole ["thing"] f_is_whole fd_is_whole
  f_is_lot_of : Addr
  fd_is_lot_of : FuncData
  D_is_lot_of : Df K mg "is_lot_of" s_is_lot_of ["thing", "many"] f_is_lot_of fd_is_lot_of
  f_next_number : Addr
  fd_next_number : FuncData
  D_next_number : Df K mg "next_number" s_next_number ["some"] f_next_number fd_next_number
  f_choices : Addr
  fd_choices : FuncData
  D_choices : Df K mg "choices" s_choices ["many", "size"] f_choices fd_choices
  f_odd_blocks : Addr
  fd_odd_blocks : FuncData
  D_odd_blocks : Df K mg "odd_blocks" s_odd_blocks ["many", "lot"] f_odd_blocks fd_odd_blocks
  f_paired : Addr
  fd_paired : FuncData
  D_paired : Df K mg "paired" s_paired ["chosen", "first"] f_paired fd_paired
  f_ended : Addr
  fd_ended : FuncData
  D_ended : Df K mg "ended" s_ended ["many", "deep", "head", "tail"] f_ended fd_ended
  f_low_lots : Addr
  fd_low_lots : FuncData
  D_low_lots : Df K mg "low_lots" s_low_lots ["many", "deep"] f_low_lots fd_low_lots
  f_high_lots : Addr
  fd_high_lots : FuncData
  D_high_lots : Df K mg "high_lots" s_high_lots ["many", "deep"] f_high_lots fd_high_lots
  f_is_curve : Addr
  fd_is_curve : FuncData
  D_is_curve : Df K mg "is_curve" s_is_curve ["thing"] f_is_curve fd_is_curve
  f_need_curve : Addr
  fd_need_curve : FuncData
  D_need_curve : Df K mg "need_curve" s_need_curve ["curve"] f_need_curve fd_need_curve
  f_is_lot : Addr
  fd_is_lot : FuncData
  D_is_lot : Df K mg "is_lot" s_is_lot ["thing", "curve"] f_is_lot fd_is_lot
  f_is_pane : Addr
  fd_is_pane : FuncData
  D_is_pane : Df K mg "is_pane" s_is_pane ["thing", "curve"] f_is_pane fd_is_pane
  f_need_pane : Addr
  fd_need_pane : FuncData
  D_need_pane : Df K mg "need_pane" s_need_pane ["curve", "pane"] f_need_pane fd_need_pane
  f_is_low : Addr
  fd_is_low : FuncData
  D_is_low : Df K mg "is_low" s_is_low ["curve", "pane"] f_is_low fd_is_low
  f_low_panes : Addr
  fd_low_panes : FuncData
  D_low_panes : Df K mg "low_panes" s_low_panes ["curve"] f_low_panes fd_low_panes
  f_high_panes : Addr
  fd_high_panes : FuncData
  D_high_panes : Df K mg "high_panes" s_high_panes ["curve"] f_high_panes fd_high_panes
  f__law_box : Addr
  fd__law_box : FuncData
  D__law_box : Df K mg "_law_box" s__law_box ["_law_script", "_law_k"] f__law_box fd__law_box
  f__law_more : Addr
  fd__law_more : FuncData
  D__law_more : Df K mg "_law_more" s__law_more ["_law_box_here"] f__law_more fd__law_more
  f__law_take : Addr
  fd__law_take : FuncData
  D__law_take : Df K mg "_law_take" s__law_take ["_law_box_here", "_law_wide"] f__law_take fd__law_take
  f__law_curve : Addr
  fd__law_curve : FuncData
  D__law_curve : Df K mg "_law_curve" s__law_curve ["_law_box_here"] f__law_curve fd__law_curve
  f__law_lots : Addr
  fd__law_lots : FuncData
  D__law_lots : Df K mg "_law_lots" s__law_lots ["_law_many", "_law_size"] f__law_lots fd__law_lots
  f__law_is_pane : Addr
  fd__law_is_pane : FuncData
  D__law_is_pane : Df K mg "_law_is_pane" s__law_is_pane ["_law_curve_here", "_law_lot"] f__law_is_pane fd__law_is_pane
  f__law_panes : Addr
  fd__law_panes : FuncData
  D__law_panes : Df K mg "_law_panes" s__law_panes ["_law_curve_here"] f__law_panes fd__law_panes
  f__law_low : Addr
  fd__law_low : FuncData
  D__law_low : Df K mg "_law_low" s__law_low ["_law_curve_here", "_law_pane"] f__law_low fd__law_low
  t_MOST_DEEP : Tok
  c_MOST_DEEP : mg "MOST_DEEP" = some (.int 6 t_MOST_DEEP)
  t_MOST_CORNERS : Tok
  c_MOST_CORNERS : mg "MOST_CORNERS" = some (.int 9 t_MOST_CORNERS)
section
variable {P : Program} {w : World} {K : PySem.W.Frag} {mg : Str → Option Value} {base : Heap}
/-! ### the law's box -/
def BoxAt (H : Hp) (b : Addr) : Prop := ∃ n d : Int, H b = some (.lst [.int n, .int d])
/-- all that was tracked but b is as it was -/
def Bx (b : Addr) (H H' : Hp) : Prop := ∀ c o, c ≠ b → H c = some o → H' c = some o
theorem Bx.refl (b : Addr) (H : Hp) : Bx b H H := fun _ _ _ h => h
theorem Bx.trans {b : Addr} {H H1 H2 : Hp} (x : Bx b H H1) (y : Bx b H1 H2) : Bx b H H2 := fun c o n h => y c o n (x c o n h)
theorem bx_ex {b : Addr} {H H' : Hp} (e : Ex H H') : Bx b H H' := fun c o _ h => e c o h
theorem bx_set {b : Addr} {H H' : Hp} {o : HO} (e : Bx b H H') : Bx b H (upd H' b o) := fun c u n h => by
  rw [upd_ne n]
  exact e c u n h
theorem bx_tx {b : Addr} {H H' : Hp} {xs : List V} (e : Bx b H H') (h : H b = some (.lst xs)) : Tx H H' := fun a u r => by
  have n : a ≠ b := fun z => by
    subst z
    rcases r with r | ⟨o, r⟩ <;> (rw [h] at r; cases r)
  rcases r with r | ⟨o, r⟩
  · exact .inl (e a _ n r)
  · exact .inr ⟨o, e a _ n r⟩
theorem BoxAt.ex {H H' : Hp} {b : Addr} (e : Ex H H') (h : BoxAt H b) : BoxAt H' b := by
  obtain ⟨n, d, h⟩ := h
  exact ⟨n, d, e b _ h⟩
def spBox (K : PySem.W.Frag) : Sp := fun vs H Q _ => ∃ (a : Addr) (ns : List Int) (k : Int), vs = [.ref a, .int k] ∧ SqL K H a (ns.map V.int) ∧ 0 ≤ k ∧ k < 1000 ∧ ∀ p H2, H p = none → Ex H H2 → BoxAt H2 p → Q (.ref p) H2
theorem emod_in (x : Int) {m : Int} (h : 0 < m) : 0 ≤ x % m ∧ x % m < m := ⟨Int.emod_nonneg _ (by omega), Int.emod_lt_of_pos _ h⟩
theorem cm_r {i j : Int} (h1 : -(2 ^ 64) < j) (h2 : j < 2 ^ 64) : CMul i j := .inr ⟨h1, h2⟩
theorem cm_l {i j : Int} (h1 : -(2 ^ 64) < i) (h2 : i < 2 ^ 64) : CMul i j := .inl ⟨h1, h2⟩
theorem ev_abs {te : TE} {σ : L2.St} {H : Hp} {i : Int} (h : Ev te σ H (.int i)) : Ev (tCB (fun xs H Q => ∃ i, xs = [.int i] ∧ Q (.int (if i < 0 then -i else i)) H) (tCons te tNil)) σ H (.int (if i < 0 then -i else i)) := fun H1 e _ q =>
  h H1 e _ fun H2 e2 => ⟨i, rfl, q H2 e2⟩
theorem okk_box {f : Addr} {fd : FuncData} {k : Nat} (D : Df K mg "_law_box" s__law_box ["_law_script", "_law_k"] f fd) (B : Bt mg) : FnOk P w K mg base CX0 (k + 1) f fd ["_law_script", "_law_k"] (spBox K) := by
  refine D.F.ok sc__law_box (fun vs H Q E h => ?_) (fun cdv A outer s H vs Q E hr h => ?_)
  · obtain ⟨a, ns, k, rfl, _⟩ := h
    rfl
  · obtain ⟨a, ns, j, rfl, hS, k0, k1, q⟩ := h
    refine ⟨_, (pss_cons (ps_set (i := 2) sc__law_box.nd rfl (.inl rfl) (pe_op op_add (pe_op op_mul pe_int (pv 1)) pe_int))  (pss_cut (ps_if (pt_cmpR op_lt (pv 1) (pe_callB (show CallR _ _ (rLenS K) from call_len_seq) (by rfl) B.len_ (by decide +kernel) (pa_cons (pv 0) pa_nil)) (nomark _))   (pss_one (ps_set (i := 2) sc__law_box.nd rfl (.inl rfl) (pe_ix (show IxR _ (rIxL K) from ix_list) (pv 0) (pv 1) (fun _ _ => rfl))))   pss_nil)  (pss_cons (ps_if (pt_cmpR op_eq (pe_op op_mod (pv 2) pe_int) pe_int (nomark _))   (pss_one (ps_ret (pe_lst (pa_cons (pe_op op_fdiv (pv 2) pe_int) (pa_cons (pe_op op_mod (pe_callB call_abs (by rfl) B.abs_ (by decide +kernel) (pa_cons (pv 2) pa_nil)) pe_int) pa_nil)))))   pss_nil)  (pss_cons (ps_set (i := 3) sc__law_box.nd rfl (.inl rfl) pe_int)  (pss_cons (ps_for PassesOwn.never rfl (pi_range1 (by rfl) B.range_ (pa_cons pe_int pa_nil)) (pg_name (i := 4) sc__law_box.nd rfl (.inl rfl))   (pss_cons (ps_set (i := 5) sc__law_box.nd rfl (.inl rfl) (pe_op op_mod (pe_op op_add (pe_op op_add (pe_op op_mul (pe_op op_mod (pv 2) pe_int) pe_int) (pe_op op_mul pe_int (pv 4))) pe_int) pe_int))  (pss_cons (ps_set (i := 5) sc__law_box.nd rfl (.inl rfl) (pe_op op_mod (pe_op op_mul (pv 5) (pv 5)) pe_int))  (pss_one (ps_set (i := 3) sc__law_box.nd rfl (.inl rfl) (pe_op op_add (pe_op op_mul (pv 3) pe_int) (pe_op op_mod (pe_op op_mul (pv 5) (pe_op op_add (pv 5) pe_int)) pe_int)))))))  (pss_one (ps_ret (pe_lst (pa_cons (pv 3) (pa_cons (pe_op op_mod (pe_callB call_abs (by rfl) B.abs_ (by decide +kernel) (pa_cons (pv 2) pa_nil)) pe_int) pa_nil)))))))))), ?_⟩
    refine q_asg (v := .int (7919 * j + 13)) (ev_op (ev_op ev_c (ev_var rfl) (rv_I (cm_l (by decide) (by decide)))) ev_c rv_I0) fun H1 e1 => ?_
    refine q_cut (M := fun σ' H' => ∃ h : Int, σ' = [some (.ref a), some (.int j), some (.int h), none, none, none] ∧ Ex H H') ?_ ?_
    · refine s_when (et_test (ev_op (ev_var rfl) (ev_len (ev_var rfl) (ex_l e1 hS)) rv_I0)) (fun hb H2 e2 => ?_) (fun hb H2 e2 => ⟨_, rfl, e1.trans e2⟩)
      have hlt : j < ((ns.map V.int).length : Int) := of_decide_eq_true hb
      obtain ⟨m, rfl⟩ : ∃ m : Nat, j = (m : Int) := ⟨j.toNat, by omega⟩
      have hm : m < ns.length := by rw [List.length_map] at hlt; omega
      refine s_asg (v := .int ns[m]) (ev_op (ev_var rfl) (ev_var rfl) (rv_ixL (ex_l (e1.trans e2) hS) (atI_nat ?_))) fun H3 e3 => ⟨_, rfl, (e1.trans e2).trans e3⟩
      rw [List.getElem?_map, List.getElem?_eq_getElem hm]
      rfl
    · rintro σ' H2 ⟨x, rfl, e2⟩
      refine q_when (et_test (ev_op (ev_op (ev_var rfl) ev_c (rv_I (by show (0 : Int) < 2; decide))) ev_c (rv_eq rfl))) (fun _ H3 e3 => ?_) (fun _ H3 e3 => ?_)
      · refine s_retL (el_lst (ea_cons (ev_op (ev_var rfl) ev_c (rv_I ⟨by decide, by decide⟩)) (ea_cons (ev_op (ev_abs (ev_var rfl)) ev_c (rv_I (by show (0 : Int) < 2147483647; decide))) ea_nil)) (by show 2 ≤ 100000; decide)) fun p H4 np e4 hp => ?_
        exact q p H4 (fresh_back (e2.trans e3) np) ((e2.trans e3).trans e4) ⟨_, _, hp⟩
      · refine q_asg (v := .int 0) ev_c fun H4 e4 => ?_
        refine q_forR1 (n := 16) (ea_cons ev_c ea_nil) (by decide) (fun _ σ' H' => ∃ (n : Int) (y4 y5 : Option V), σ' = [some (.ref a), some (.int j), some (.int x), some (.int n), y4, y5] ∧ Ex H H')
          (fun H5 e5 => ⟨_, _, _, rfl, ((e2.trans e3).trans e4).trans e5⟩) ?_ ?_
        · rintro i σ' H' _ ⟨n, y4, y5, rfl, e5⟩
          have m1 := emod_in (x % 2147483647 * 48271 + 7919 * (i : Int) + 1) (m := 2147483647) (by decide)
          refine q_asg (v := .int ((x % 2147483647 * 48271 + 7919 * (i : Int) + 1) % 2147483647)) (ev_op (ev_op (ev_op (ev_op (ev_op (ev_var rfl) ev_c (rv_I (by show (0 : Int) < 2147483647; decide))) ev_c (rv_I (cm_r (by decide) (by decide)))) (ev_op ev_c (ev_var rfl) (rv_I (cm_l (by decide) (by decide)))) rv_I0) ev_c rv_I0) ev_c (rv_I (by show (0 : Int) < 2147483647; decide))) fun H6 e6 => ?_
          generalize (x % 2147483647 * 48271 + 7919 * (i : Int) + 1) % 2147483647 = y at m1 ⊢
          have m2 := emod_in (y * y) (m := 2147483629) (by decide)
          refine q_asg (v := .int (y * y % 2147483629)) (ev_op (ev_op (ev_var rfl) (ev_var rfl) (rv_I (cm_l (by omega) (by omega)))) ev_c (rv_I (by show (0 : Int) < 2147483629; decide))) fun H7 e7 => ?_
          generalize y * y % 2147483629 = z at m2 ⊢
          refine s_asg (v := .int (n * 2147483647 + z * (z + 13) % 2147483647)) (ev_op (ev_op (ev_var rfl) ev_c (rv_I (cm_r (by decide) (by decide)))) (ev_op (ev_op (ev_var rfl) (ev_op (ev_var rfl) ev_c rv_I0) (rv_I (cm_l (by omega) (by omega)))) ev_c (rv_I (by show (0 : Int) < 2147483647; decide))) rv_I0) fun H8 e8 => ?_
          exact ⟨_, _, _, rfl, ((e5.trans e6).trans e7).trans e8⟩
        · rintro σ' H' ⟨n, y4, y5, rfl, e5⟩
          refine s_retL (el_lst (ea_cons (ev_var rfl) (ea_cons (ev_op (ev_abs (ev_var rfl)) ev_c (rv_I (by show (0 : Int) < 2147483647; decide))) ea_nil)) (by show 2 ≤ 100000; decide)) fun p H6 np e6 hp => ?_
          exact q p H6 (fresh_back e5 np) (e5.trans e6) ⟨_, _, hp⟩
def spMore : Sp := fun vs H Q _ => ∃ (b : Addr) (n d : Int), vs = [.ref b] ∧ H b = some (.lst [.int n, .int d]) ∧ ∀ m d' H2, H2 b = some (.lst [.int n, .int d']) → Bx b H H2 → Q (.int m) H2
theorem okk_more {f : Addr} {fd : FuncData} {k : Nat} (D : Df K mg "_law_more" s__law_more ["_law_box_here"] f fd) (B : Bt mg) : FnOk P w K mg base CX0 (k + 1) f fd ["_law_box_here"] spMore := by
  refine D.F.ok sc__law_more (fun vs H Q E h => ?_) (fun cdv A outer s H vs Q E hr h => ?_)
  · obtain ⟨b, n, d, rfl, _⟩ := h
    rfl
  · obtain ⟨b, n, d, rfl, hb, q⟩ := h
    refine ⟨_, (pss_cons (ps_set (i := 1) sc__law_more.nd rfl (.inl rfl) pe_int)  (pss_cons (ps_for PassesOwn.never rfl (pi_range1 (by rfl) B.range_ (pa_cons pe_int pa_nil)) (pg_name (i := 2) sc__law_more.nd rfl (.inl rfl))   (pss_cons (ps_asg (pe_op op_mod (pe_op op_add (pe_op op_mul (pe_ix (show IxR _ (rIxL K) from ix_list) (pv 0) pe_int (fun _ _ => rfl)) pe_int) pe_int) pe_int) (pg_sub (pv 0) pe_int set_list))  (pss_one (ps_set (i := 1) sc__law_more.nd rfl (.inl rfl) (pe_op op_add (pe_op op_mul (pv 1) pe_int) (pe_op op_mod (pe_op op_fdiv (pe_ix (show IxR _ (rIxL K) from ix_list) (pv 0) pe_int (fun _ _ => rfl)) pe_int) pe_int))))))  (pss_one (ps_ret (pv 1))))), ?_⟩
    refine q_asg (v := .int 0) ev_c fun H1 e1 => ?_
    refine q_forR1 (n := 12) (ea_cons ev_c ea_nil) (by decide) (fun _ σ' H' => ∃ (m d' : Int) (y : Option V), σ' = [some (.ref b), some (.int m), y] ∧ H' b = some (.lst [.int n, .int d']) ∧ Bx b H H')
      (fun H2 e2 => ⟨_, _, _, rfl, e2 b _ (e1 b _ hb), bx_ex (e1.trans e2)⟩) ?_ ?_
    · rintro i σ' H' _ ⟨m, d', y, rfl, hb', x'⟩
      refine q_setL (j := 1) hb' (v := .int ((d' * 48271 + 30269) % 2147483647)) (ev_op (ev_op (ev_op (ev_op (ev_var rfl) ev_c (rv_ixL (v := .int d') (sq_of hb') rfl)) ev_c (rv_I (cm_r (by decide) (by decide)))) ev_c rv_I0) ev_c (rv_I (by show (0 : Int) < 2147483647; decide))) (ev_var rfl) ev_c (by show 1 < 2; decide) fun H2 e2 => ?_
      generalize (d' * 48271 + 30269) % 2147483647 = z
      have hb2 : upd H2 b (.lst ([V.int n, V.int d'].set 1 (.int z))) b = some (.lst [.int n, .int z]) := upd_same
      refine s_asg (v := .int (m * 65521 + z / 7 % 65521)) (ev_op (ev_op (ev_var rfl) ev_c (rv_I (cm_r (by decide) (by decide)))) (ev_op (ev_op (ev_op (ev_var rfl) ev_c (rv_ixL (v := .int z) (sq_of hb2) rfl)) ev_c (rv_I ⟨by decide, by decide⟩)) ev_c (rv_I (by show (0 : Int) < 65521; decide))) rv_I0) fun H3 e3 => ?_
      exact ⟨_, _, _, rfl, e3 b _ hb2, (bx_set (x'.trans (bx_ex e2))).trans (bx_ex e3)⟩
    · rintro σ' H' ⟨m, d', y, rfl, hb', x'⟩
      exact s_ret (ev_var rfl) fun H2 e2 => q m d' H2 (e2 b _ hb') (x'.trans (bx_ex e2))
def spTake : Sp := fun vs H Q _ => ∃ (b : Addr) (wd : Int), vs = [.ref b, .int wd] ∧ BoxAt H b ∧ 0 < wd ∧ wd < 1073741824 ∧ ∀ r H2, 0 ≤ r → r < wd → BoxAt H2 b → Bx b H H2 → Q (.int r) H2
theorem okk_take {f fm : Addr} {fd fdm : FuncData} {k : Nat} (D : Df K mg "_law_take" s__law_take ["_law_box_here", "_law_wide"] f fd) (D__law_more : Df K mg "_law_more" s__law_more ["_law_box_here"] fm fdm) (B : Bt mg) : FnOk P w K mg base CX0 (k + 2) f fd ["_law_box_here", "_law_wide"] spTake := by
  have G__law_more : FnOk P w K mg base CX0 (k + 1) fm fdm ["_law_box_here"] spMore := okk_more D__law_more B
  refine D.F.ok sc__law_take (fun vs H Q E h => ?_) (fun cdv A outer s H vs Q E hr h => ?_)
  · obtain ⟨b, n, rfl, _⟩ := h
    rfl
  · obtain ⟨b, wd, rfl, ⟨n, d, hb⟩, w0, w1, q⟩ := h
    refine ⟨_, (pss_cut (ps_if (pt_chain op_le op_lt pe_int (pe_ix (show IxR _ (rIxL K) from ix_list) (pv 0) pe_int (fun _ _ => rfl)) (pv 1))   (pss_one (ps_asg (pe_op op_add (pe_ix (show IxR _ (rIxL K) from ix_list) (pv 0) pe_int (fun _ _ => rfl)) (pe_op op_mul (pv 1) (pe_call G__law_more (hr.mono (by omega)) (by rfl) D__law_more.g D__law_more.F.kp D__law_more.b .nil pass0 (pa_cons (pv 0) pa_nil)))) (pg_sub (pv 0) pe_int set_list)))   pss_nil)  (pss_cons (ps_asg (pe_callB call_divmod (by rfl) B.divmod_ (by decide +kernel) (pa_cons (pe_ix (show IxR _ (rIxL K) from ix_list) (pv 0) pe_int (fun _ _ => rfl)) (pa_cons (pv 1) pa_nil))) (pg_tup (by rfl) (pgs_cons (pg_name (i := 2) sc__law_take.nd rfl (.inl rfl)) (pgs_cons (pg_name (i := 3) sc__law_take.nd rfl (.inl rfl)) pgs_nil))))  (pss_cons (ps_asg (pv 2) (pg_sub (pv 0) pe_int set_list))  (pss_one (ps_ret (pv 3)))))), ?_⟩
    refine q_cut (M := fun σ' H' => σ' = [some (.ref b), some (.int wd), none, none] ∧ (∃ n d : Int, H' b = some (.lst [.int n, .int d])) ∧ Bx b H H') ?_ ?_
    · refine s_when (et_test (ev_chain ev_c (ev_op (ev_var rfl) ev_c (rv_ixL (v := .int n) (sq_of hb) rfl)) (ev_var rfl) rv_I0 rv_I0)) (fun _ H1 e1 => ?_) (fun _ H1 e1 => ⟨rfl, ⟨_, _, e1 b _ hb⟩, bx_ex e1⟩)
      · have hb1 := e1 b _ hb
        refine ⟨_, rfl, b, _, 0, .int n, rfl, rfl, sq_of hb1, rfl, _, rfl, _, rfl, b, n, d, rfl, hb1, fun m d' H2 hb2 x2 => ?_⟩
        refine ⟨wd, m, rfl, rfl, cm_l (by omega) (by omega), n, wd * m, rfl, rfl, _, rfl, b, _, 0, 0, rfl, rfl, hb2, rfl, ?_⟩
        exact ⟨rfl, ⟨_, _, upd_same⟩, bx_set ((bx_ex e1).trans x2)⟩
    · rintro σ' H' ⟨rfl, ⟨n, d, hb'⟩, x'⟩
      refine ⟨_, rfl, b, _, 0, .int n, rfl, rfl, sq_of hb', rfl, _, rfl, n, wd, rfl, ⟨w0, w1⟩, fun p hp => ?_⟩
      have nb : b ≠ p := ne_of_none hb' hp
      refine ⟨p, _, rfl, st_of upd_same, rfl, _, _, rfl, _, _, rfl, rfl, ?_⟩
      refine ⟨_, rfl, _, rfl, b, _, 0, 0, rfl, rfl, (by rw [upd_ne nb]; exact hb'), rfl, ?_⟩
      refine ⟨_, rfl, ?_⟩
      have m1 := emod_in n w0
      exact q _ _ m1.1 m1.2 ⟨_, _, upd_same⟩ (bx_set (x'.trans (bx_ex (Ex.new hp))))
end
/-! ### what changes the box alone -/
structure Bk (b : Addr) (H H' : Hp) : Prop where
  bx : Bx b H H'
  tx : Tx H H'
theorem Bk.trans {b : Addr} {H H1 H2 : Hp} (x : Bk b H H1) (y : Bk b H1 H2) : Bk b H H2 := ⟨x.bx.trans y.bx, x.tx.trans y.tx⟩
theorem bk_ex {b : Addr} {H H' : Hp} (e : Ex H H') : Bk b H H' := ⟨bx_ex e, tx_of e⟩
theorem Bk.refl (b : Addr) (H : Hp) : Bk b H H := bk_ex (Ex.refl H)
theorem bk_of {b : Addr} {H H' : Hp} (h : BoxAt H b) (x : Bx b H H') : Bk b H H' := by
  obtain ⟨_, _, h⟩ := h
  exact ⟨x, bx_tx x h⟩
theorem ex_bx {b : Addr} {Hs H H' : Hp} (e : Ex Hs H) (x : Bk b H H') (n : Hs b = none) : Ex Hs H' := fun c o h => x.bx c o (ne_of_none h n) (e c o h)
theorem box_ne {H : Hp} {p b : Addr} (hb : BoxAt H b) (n : H p = none) : p ≠ b := by
  obtain ⟨_, _, hb⟩ := hb
  exact ne_free hb n
def EvK (K : PySem.W.Frag) (b : Addr) (te : TE) (σ : L2.St) (H : Hp) (p : PyData → Prop) : Prop := ∀ Q : VK, (∀ v d H2, p d → Dt K H2 v d → BoxAt H2 b → Bk b H H2 → Q v H2) → te σ H Q
section
variable {K : PySem.W.Frag} {b : Addr} {σ : L2.St} {H H' : Hp} {ta tb te tl : TE} {p p' : PyData → Prop} {d : PyData} {ds : List PyData} {D : Ends} {tz tu : TS} {i : Nat}
theorem ek_of (h : EvD K te σ H d) (hb : BoxAt H b) : EvK K b te σ H (fun e => e = d) := fun Q q => h H (Ex.refl H) Q fun v H2 e2 hv => q v d H2 rfl hv (hb.ex e2) (bk_ex e2)
theorem ek_mono (h : EvK K b te σ H p) (hp : ∀ d, p d → p' d) : EvK K b te σ H p' := fun Q q => h Q fun v d H2 h1 => q v d H2 (hp d h1)
theorem ek_take {j : Nat} {wd : Int} {E : XK} (hj : σ[j]? = some (some (.ref b))) (hb : BoxAt H b) (hw : Ev ta σ H (.int wd)) (w0 : 0 < wd) (w1 : wd < 1073741824) : EvK K b (tCall spTake [] E (tCons (tVar j) (tCons ta tNil))) σ H (fun d => ∃ r, d = .int r ∧ 0 ≤ r ∧ r < wd) := fun Q q =>
  ⟨_, hj, hw H (Ex.refl H) _ fun H2 e2 => ⟨b, wd, rfl, hb.ex e2, w0, w1, fun r H3 r0 r1 hb3 x3 => q _ (.int r) H3 ⟨r, rfl, r0, r1⟩ (.int r) hb3 ((bk_ex e2).trans (bk_of (hb.ex e2) x3))⟩⟩
/-- [..][take] -/
theorem ek_menu (hl : EvF K tl σ H ds) (hb : BoxAt H b) (hi : ∀ H', Ex H H' → BoxAt H' b → EvK K b ta σ H' (fun d => ∃ r : Int, d = .int r ∧ 0 ≤ r ∧ r < (ds.length : Int))) : EvK K b (tOp (rIxL K) tl ta) σ H (fun d => d ∈ ds) := fun Q q =>
  hl H (Ex.refl H) _ fun p xs H1 np e1 hp hx => hi H1 e1 (hb.ex e1) _ fun v d H2 hr hv hb2 x2 => by
    obtain ⟨r, rfl, r0, r1⟩ := hr
    cases hv
    obtain ⟨m, rfl⟩ : ∃ m : Nat, r = (m : Int) := ⟨r.toNat, by omega⟩
    have hm : m < ds.length := by omega
    obtain ⟨w, hw, hd⟩ := dta_get' (dta_tx x2.tx hx) (List.getElem?_eq_getElem hm)
    exact ⟨p, xs, (m : Int), w, rfl, rfl, sq_of (x2.bx p _ (box_ne hb np) hp), atI_nat hw, q w _ H2 (List.getElem_mem hm) hd hb2 ((bk_ex e1).trans x2)⟩
/-- i op take -/
theorem ek_opI {f : Int → Int → Int} {x : Int} {pr : Int → Prop} (ha : Ev ta σ H (.int x)) (hb : ∀ H', Ex H H' → EvK K b tb σ H' (fun d => ∃ r, d = .int r ∧ pr r)) : EvK K b (tOp (rI0 fun i j => .int (f i j)) ta tb) σ H (fun d => ∃ r, d = .int (f x r) ∧ pr r) := fun Q q =>
  ha H (Ex.refl H) _ fun H2 e2 => hb H2 e2 _ fun v d H3 hr hv hb3 x3 => by
    obtain ⟨r, rfl, hr⟩ := hr
    cases hv
    exact ⟨x, r, rfl, rfl, q _ _ H3 ⟨r, rfl, hr⟩ (.int _) hb3 ((bk_ex e2).trans x3)⟩
theorem q_asgK (h : EvK K b te σ H p) (k : ∀ v d H2, p d → Dt K H2 v d → BoxAt H2 b → Bk b H H2 → tz D (σ.set i (some v)) H2) : tSeq (tAsg te (gName i)) tz D σ H := h _ k
theorem s_asgK (h : EvK K b te σ H p) (k : ∀ v d H2, p d → Dt K H2 v d → BoxAt H2 b → Bk b H H2 → D.nx (σ.set i (some v)) H2) : tAsg te (gName i) D σ H := h _ k
/-- a box made -/
theorem q_box {a : Addr} {ns : List Int} {x : Int} {E : XK} (ha : Ev ta σ H (.ref a)) (hS : SqL K H a (ns.map V.int)) (hk : Ev tb σ H (.int x)) (x0 : 0 ≤ x) (x1 : x < 1000) (h : ∀ p H2, H p = none → Ex H H2 → BoxAt H2 p → tz D (σ.set i (some (.ref p))) H2) : tSeq (tAsg (tCall (spBox K) [] E (tCons ta (tCons tb tNil))) (gName i)) tz D σ H :=
  ha H (Ex.refl H) _ fun H1 e1 => hk H1 e1 _ fun H2 e2 => ⟨a, ns, x, rfl, ex_l (e1.trans e2) hS, x0, x1, fun p H3 np e3 hb => h p H3 (fresh_back (e1.trans e2) np) ((e1.trans e2).trans e3) hb⟩
/-! loops over a list made on the way -/
/-- nothing changes but new things -/
theorem s_forF {g : TG} (h : EvF K tl σ H ds) (Pv : Nat → L2.St → Hp → Prop) (h0 : ∀ H1, Ex H H1 → Pv 0 σ H1)
    (hs : ∀ H1 i x d σ' H', Ex H H1 → Ex H1 H' → ds[i]? = some d → Dt K H' x d → Pv i σ' H' → g x σ' H' fun σ2 H2 => tu { D with nx := fun σ3 H3 => Ex H1 H3 ∧ Pv (i + 1) σ3 H3, ct := fun σ3 H3 => Ex H1 H3 ∧ Pv (i + 1) σ3 H3, bk := D.nx } σ2 H2)
    (hd : ∀ σ' H', Ex H H' → Pv ds.length σ' H' → D.nx σ' H') : tFor (iList K tl) g tu D σ H :=
  h H (Ex.refl H) _ fun p xs H1 np e1 hp hx => ⟨p, rfl, ⟨xs, sq_of hp⟩, for_list (xs := xs) (fun i σ' H' => Ex H1 H' ∧ Pv i σ' H') ⟨Ex.refl _, h0 H1 e1⟩ (fun i σ' H' _ hw => sq_of (hw.1 p _ hp)) (fun i x σ' H' hi hw => by
      obtain ⟨d, h1, h2⟩ := dta_get (dta_ex hw.1 hx) hi
      exact hs H1 i x d σ' H' e1 hw.1 h1 h2 hw.2) (fun σ' H' hw => hd σ' H' (e1.trans hw.1) (by rw [← dta_len hx]; exact hw.2))⟩
theorem q_forF {g : TG} (h : EvF K tl σ H ds) (Pv : Nat → L2.St → Hp → Prop) (h0 : ∀ H1, Ex H H1 → Pv 0 σ H1)
    (hs : ∀ H1 i x d σ' H', Ex H H1 → Ex H1 H' → ds[i]? = some d → Dt K H' x d → Pv i σ' H' → g x σ' H' fun σ2 H2 => tu { D with nx := fun σ3 H3 => Ex H1 H3 ∧ Pv (i + 1) σ3 H3, ct := fun σ3 H3 => Ex H1 H3 ∧ Pv (i + 1) σ3 H3, bk := tz D } σ2 H2)
    (hd : ∀ σ' H', Ex H H' → Pv ds.length σ' H' → tz D σ' H') : tSeq (tFor (iList K tl) g tu) tz D σ H := s_forF (D := { D with nx := tz D }) h Pv h0 hs hd
/-- the box changes, too -/
theorem s_forFB {g : TG} (h : EvF K tl σ H ds) (hb : BoxAt H b) (Pv : Nat → L2.St → Hp → Prop) (h0 : ∀ H1, Ex H H1 → Pv 0 σ H1)
    (hs : ∀ H1 i x d σ' H', Ex H H1 → Bk b H1 H' → BoxAt H' b → ds[i]? = some d → Dt K H' x d → Pv i σ' H' → g x σ' H' fun σ2 H2 => tu { D with nx := fun σ3 H3 => Bk b H1 H3 ∧ BoxAt H3 b ∧ Pv (i + 1) σ3 H3, ct := fun σ3 H3 => Bk b H1 H3 ∧ BoxAt H3 b ∧ Pv (i + 1) σ3 H3, bk := D.nx } σ2 H2)
    (hd : ∀ σ' H', Bk b H H' → BoxAt H' b → Pv ds.length σ' H' → D.nx σ' H') : tFor (iList K tl) g tu D σ H :=
  h H (Ex.refl H) _ fun p xs H1 np e1 hp hx => ⟨p, rfl, ⟨xs, sq_of hp⟩, for_list (xs := xs) (fun i σ' H' => Bk b H1 H' ∧ BoxAt H' b ∧ Pv i σ' H') ⟨Bk.refl _ _, hb.ex e1, h0 H1 e1⟩ (fun i σ' H' _ hw => sq_of (hw.1.bx p _ (box_ne hb np) hp)) (fun i x σ' H' hi hw => by
      obtain ⟨d, h1, h2⟩ := dta_get (dta_tx hw.1.tx hx) hi
      exact hs H1 i x d σ' H' e1 hw.1 hw.2.1 h1 h2 hw.2.2) (fun σ' H' hw => hd σ' H' ((bk_ex e1).trans hw.1) hw.2.1 (by rw [← dta_len hx]; exact hw.2.2))⟩
theorem q_forFB {g : TG} (h : EvF K tl σ H ds) (hb : BoxAt H b) (Pv : Nat → L2.St → Hp → Prop) (h0 : ∀ H1, Ex H H1 → Pv 0 σ H1)
    (hs : ∀ H1 i x d σ' H', Ex H H1 → Bk b H1 H' → BoxAt H' b → ds[i]? = some d → Dt K H' x d → Pv i σ' H' → g x σ' H' fun σ2 H2 => tu { D with nx := fun σ3 H3 => Bk b H1 H3 ∧ BoxAt H3 b ∧ Pv (i + 1) σ3 H3, ct := fun σ3 H3 => Bk b H1 H3 ∧ BoxAt H3 b ∧ Pv (i + 1) σ3 H3, bk := tz D } σ2 H2)
    (hd : ∀ σ' H', Bk b H H' → BoxAt H' b → Pv ds.length σ' H' → tz D σ' H') : tSeq (tFor (iList K tl) g tu) tz D σ H := s_forFB (D := { D with nx := tz D }) h hb Pv h0 hs hd
/-- how many cells are read -/
theorem ev_cells {a : Addr} {ns : List Int} {c : Int} (h : Ev ta σ H (.ref a)) (hS : SqL K H a (ns.map V.int)) (c0 : 1 ≤ c) : ∃ n : Int, 1 ≤ n ∧ n ≤ c ∧ Ev (tCB rMax2 (tCons (tC (.int 1)) (tCons (tCB (fun xs H Q => ∃ i j, xs = [.int i, .int j] ∧ Q (.int (if j < i then j else i)) H) (tCons (tCB (rLenS K) (tCons ta tNil)) (tCons (tC (.int c)) tNil))) tNil))) σ H (.int n) := by
  refine ⟨_, ?_, ?_, ev_max2 ev_c (ev_min2 (ev_len h hS) ev_c)⟩
  · split <;> split <;> omega
  · split <;> split <;> omega
end
def spLaw (K : PySem.W.Frag) : Sp := fun vs H Q _ => ∃ (a : Addr) (ns : List Int), vs = [.ref a] ∧ SqL K H a (ns.map V.int) ∧ ns.length ≤ 63 ∧ ∀ H', Q (.bl true) H'
def curveD (m d : Int) : PyData := .tuple [.int m, .int d]
def unint : PyData → Int
  | .int i => i
  | _ => 0
def unlot : PyData → List Int
  | .tuple ds => ds.map unint
  | _ => []
theorem unlot_lot (l : List Int) : unlot (lotD l) = l := by
  show (l.map PyData.int).map unint = l
  rw [List.map_map]
  exact List.map_id' l
theorem dec_int (a b : Int) : decide (V.int a = V.int b) = decide (a = b) := by
  by_cases h : a = b
  · subst h
    simp
  · rw [decide_eq_false h, decide_eq_false (fun z => h (V.int.inj z))]
theorem cut_take (xs : List V) (i : Nat) (hi : i ≤ xs.length) : cutV xs none (some (i : Int)) = xs.take i := by
  unfold cutV
  rw [HT.sIx_none, show HT.sIx xs.length xs.length (some (i : Int)) = min i xs.length from HT.sIx_nat xs.length xs.length i, Nat.min_eq_left hi]
  rfl
theorem filt_len {l : List Int} {f : PyData → Bool} {g : Int → Bool} {h : PyData → PyData} (e : ∀ c, f (.int c) = g c) : (((l.map PyData.int).filter f).map h).length = (l.filter g).length := by
  rw [List.length_map, List.filter_map, List.length_map]
  have : (f ∘ PyData.int) = g := funext e
  rw [this]
theorem mem_ints {l : List Int} {d : PyData} (h : d ∈ l.map PyData.int) : ∃ c, c ∈ l ∧ d = .int c := by
  obtain ⟨c, h1, h2⟩ := List.mem_map.mp h
  exact ⟨c, h1, h2.symm⟩
theorem mem_lots {ls : List (List Int)} {d : PyData} (h : d ∈ ls.map lotD) : ∃ l, l ∈ ls ∧ d = lotD l := by
  obtain ⟨c, h1, h2⟩ := List.mem_map.mp h
  exact ⟨c, h1, h2.symm⟩
theorem filt_lots {ls : List (List Int)} {f : PyData → Bool} {g : List Int → Bool} (e : ∀ l, f (lotD l) = g l) : ((ls.map lotD).filter f).map (fun d => d) = (ls.filter g).map lotD := by
  rw [List.map_id', List.filter_map]
  have : (f ∘ lotD) = g := funext e
  rw [this]
theorem filt_ints {ls : List Int} {f : PyData → Bool} {g : Int → Bool} (e : ∀ l, f (.int l) = g l) : ((ls.map PyData.int).filter f).map (fun d => d) = (ls.filter g).map PyData.int := by
  rw [List.map_id', List.filter_map]
  have : (f ∘ PyData.int) = g := funext e
  rw [this]
/-! ### all lots of so many corners, and panes, as the law tells them -/
def lotsL (m : Int) : Nat → List (List Int)
  | 0 => [[]]
  | s + 1 => (lotsL m s).flatMap fun l => (upTo (l.getLast?.getD (-1) + 1) m).map fun c => l ++ [c]
def lotsGood : Bool := (List.range 10).all fun m => (List.range 10).all fun s => decide ((lotsL (m : Int) s).length ≤ 200) && (lotsL (m : Int) s).all fun l => l.all fun x => decide (0 ≤ x) && decide (x < 10)
theorem lots_good : lotsGood = true := by decide +kernel
theorem lots_len {m : Int} {s : Nat} (h0 : 0 ≤ m) (h1 : m < 10) (h2 : s < 10) : (lotsL m s).length ≤ 200 := by
  have h := lots_good
  unfold lotsGood at h
  rw [List.all_eq_true] at h
  have h := h m.toNat (List.mem_range.mpr (by omega))
  rw [List.all_eq_true] at h
  have h := h s (List.mem_range.mpr h2)
  rw [Bool.and_eq_true, Int.toNat_of_nonneg h0] at h
  exact of_decide_eq_true h.1
theorem lots_in {m : Int} {s : Nat} (h0 : 0 ≤ m) (h1 : m < 10) (h2 : s < 10) {l : List Int} (hl : l ∈ lotsL m s) {x : Int} (hx : x ∈ l) : 0 ≤ x ∧ x < 10 := by
  have h := lots_good
  unfold lotsGood at h
  rw [List.all_eq_true] at h
  have h := h m.toNat (List.mem_range.mpr (by omega))
  rw [List.all_eq_true] at h
  have h := h s (List.mem_range.mpr h2)
  rw [Bool.and_eq_true, Int.toNat_of_nonneg h0] at h
  have h := h.2
  rw [List.all_eq_true] at h
  have h := h l hl
  rw [List.all_eq_true] at h
  have h := h x hx
  rw [Bool.and_eq_true] at h
  exact ⟨of_decide_eq_true h.1, of_decide_eq_true h.2⟩
theorem flat_take {α β : Type} (f : α → List β) (l : List α) (i : Nat) : ((l.take i).flatMap f).length ≤ (l.flatMap f).length := by
  have e : l.flatMap f = (l.take i).flatMap f ++ (l.drop i).flatMap f := by
    rw [← List.flatMap_append, List.take_append_drop]
  rw [e, List.length_append]
  omega
theorem flat_succ {α β : Type} {f : α → List β} {l : List α} {i : Nat} {a : α} (h : l[i]? = some a) : (l.take (i + 1)).flatMap f = (l.take i).flatMap f ++ f a := by
  rw [List.take_add_one, h, List.flatMap_append]
  simp
section
variable {P : Program} {w : World} {K : PySem.W.Frag} {mg : Str → Option Value} {base : Heap}
def spLots (K : PySem.W.Frag) : Sp := fun vs H Q _ => ∃ (m s : Int), vs = [.int m, .int s] ∧ 0 ≤ m ∧ m < 10 ∧ 0 ≤ s ∧ s < 10 ∧ ∀ p xs H2, H p = none → Ex H H2 → H2 p = some (.lst xs) → DtAll K H2 xs ((lotsL m s.toNat).map lotD) → Q (.ref p) H2
def nextL (m : Int) (l : List Int) : List (List Int) := (upTo (l.getLast?.getD (-1) + 1) m).map fun c => l ++ [c]
theorem okk_lots {f : Addr} {fd : FuncData} {k : Nat} (D : Df K mg "_law_lots" s__law_lots ["_law_many", "_law_size"] f fd) (B : Bt mg) : FnOk P w K mg base CX0 (k + 1) f fd ["_law_many", "_law_size"] (spLots K) := by
  refine D.F.ok sc__law_lots (fun vs H Q E h => ?_) (fun cdv A outer s H vs Q E hr h => ?_)
  · obtain ⟨m, s, rfl, _⟩ := h
    rfl
  · obtain ⟨m, z, rfl, m0, m1, z0, z1, q⟩ := h
    refine ⟨_, (pss_cons (ps_set (i := 2) sc__law_lots.nd rfl (.inl rfl) (pe_lst (pa_cons (pe_tup pa_nil) pa_nil)))  (pss_cons (ps_for PassesOwn.never rfl (pi_range1 (by rfl) B.range_ (pa_cons (pv 1) pa_nil)) (pg_name (i := 3) sc__law_lots.nd rfl (.inl rfl))   (pss_cons (ps_set (i := 4) sc__law_lots.nd rfl (.inl rfl) (pe_lst pa_nil))  (pss_cons (ps_for PassesOwn.never rfl (pi_list (pv 2)) (pg_name (i := 5) sc__law_lots.nd rfl (.inr rfl))   (pss_one (ps_set (i := 4) sc__law_lots.nd rfl (.inl rfl) (pe_op op_cat (pv 4) (pe_lc (own := [("_law_corner", 6)]) rfl sc__law_lots.nd (pi_range2 (by rfl) B.range_ (pa_cons (pe_op op_add (pe_ix (show IxR _ (rIxT K) from ix_tup) (pe_orT (pv 5) (pe_one (pe_tup (pa_cons (pe_un un_neg pe_int) pa_nil)))) (pe_un un_neg pe_int) (fun _ _ => rfl)) pe_int) (pa_cons (pv 0) pa_nil))) (blkOk_by (own := [("_law_corner", 6)]) (N := N__law_lots) (sc := defScope s__law_lots) (by decide +kernel)) (fun _ _ _ _ _ => (pg_name (i := 6) sc__law_lots.nd rfl (.inl rfl))) (fun _ _ _ _ _ => pts_nil) (fun _ _ _ _ _ => (pe_op (show OpR _ _ (rCatA K) from op_catA) (pv 5) (pe_tup (pa_cons (pv 6) pa_nil)))))))))  (pss_one (ps_set (i := 2) sc__law_lots.nd rfl (.inl rfl) (pv 4))))))  (pss_one (ps_ret (pv 2))))), ?_⟩
    refine q_asgF (ef_lst (K := K) (ds := [lotD []]) (eb_cons (ed_tup eb_nil (by decide)) eb_nil) (by decide)) fun p xs H1 np e1 hp hx => ?_
    refine q_forR1 (n := z) (ea_cons (ev_var rfl) ea_nil) ⟨z0, by omega⟩ (fun i σ' H' => ∃ (p : Addr) (xs : List V) (y3 y4 y5 y6 : Option V), σ' = [some (.int m), some (.int z), some (.ref p), y3, y4, y5, y6] ∧ H p = none ∧ Ex H H' ∧ H' p = some (.lst xs) ∧ DtAll K H' xs ((lotsL m i).map lotD))
      (fun H2 e2 => ⟨p, xs, _, _, _, _, rfl, np, e1.trans e2, e2 p _ hp, dta_ex e2 hx⟩) ?_ ?_
    · rintro i σ' H' hi ⟨p, xs, y3, y4, y5, y6, rfl, np, e', hp, hx⟩
      have hlen : (lotsL m (i + 1)).length ≤ 200 := lots_len m0 m1 (by omega)
      refine q_asgF (ef_lst (K := K) (ds := []) eb_nil (by decide)) fun r zs H2 nr e2 hr' hz => ?_
      cases hz
      refine q_forLn (ev_var rfl) (sq_of (e2 p _ hp)) (fun j σ' H' => ∃ (r : Addr) (zs : List V) (y5 y6 : Option V), σ' = [some (.int m), some (.int z), some (.ref p), some (.int (i : Int)), some (.ref r), y5, y6] ∧ H r = none ∧ Ex H2 H' ∧ H' r = some (.lst zs) ∧ DtAll K H' zs ((((lotsL m i).take j).flatMap (nextL m)).map lotD))
        (fun H3 e3 => ⟨r, [], _, _, rfl, fresh_back e' nr, e3, e3 r _ hr', .nil⟩) (fun j σ' H' _ hw => ?_) ?_ ?_
      · obtain ⟨r, zs, y5, y6, rfl, nr, e3, _⟩ := hw
        exact sq_of (e3 p _ (e2 p _ hp))
      · rintro j x σ' H3 hj ⟨r, zs, y5, y6, rfl, nr, e3, hr3, hz3⟩
        obtain ⟨d, hd1, hd2⟩ := dta_get (dta_ex (e2.trans e3) hx) hj
        rw [List.getElem?_map] at hd1
        cases hl : (lotsL m i)[j]? with
        | none => rw [hl] at hd1; cases hd1
        | some l =>
          rw [hl] at hd1
          have ed : lotD l = d := Option.some.inj hd1
          subst ed
          have hmem : l ∈ lotsL m i := List.mem_of_getElem? hl
          have hlast : -1 ≤ l.getLast?.getD (-1) ∧ l.getLast?.getD (-1) < 10 := by
            cases l with
            | nil => exact ⟨by decide, by decide⟩
            | cons a t =>
              rw [List.getLast?_eq_some_getLast (List.cons_ne_nil a t)]
              have := lots_in m0 m1 (by omega) hmem (List.getLast_mem (List.cons_ne_nil a t))
              exact ⟨by show (-1 : Int) ≤ (a :: t).getLast _; omega, this.2⟩
          have hll : l.length ≤ 1000 := by
            have : ∀ (s : Nat) (l : List Int), l ∈ lotsL m s → l.length = s := by
              intro s
              induction s with
              | zero => intro l h; simp [lotsL] at h; rw [h]; rfl
              | succ s ih =>
                intro l h
                simp only [lotsL, List.mem_flatMap, List.mem_map] at h
                obtain ⟨a, ha, c, _, rfl⟩ := h
                rw [List.length_append, ih a ha]; rfl
            rw [this i l hmem]
            omega
          have hext : (((lotsL m i).take (j + 1)).flatMap (nextL m)) = ((lotsL m i).take j).flatMap (nextL m) ++ nextL m l := flat_succ hl
          have hbig : (((lotsL m i).take (j + 1)).flatMap (nextL m)).length ≤ 200 := Nat.le_trans (flat_take _ _ _) hlen
          have hbase : EvD K (tOrT K (tVar 5) (tTup (tCons (tUn (rU fun i => .int (-i)) (tC (.int 1))) tNil))) [some (.int m), some (.int z), some (.ref p), some (.int (i : Int)), some (.ref r), some x, y6] H3 (if l = [] then .tuple [.int (-1)] else lotD l) := by
            refine ed_orT (ds := l.map PyData.int) (ed_var rfl hd2) (fun he => ?_) (fun hne => ?_)
            · have : l = [] := List.map_eq_nil_iff.mp he
              rw [if_pos this]
              exact ed_tup (eb_cons (ed_int (ev_un ev_c ru_neg)) eb_nil) (by decide)
            · have : l ≠ [] := fun z => hne (by rw [z]; rfl)
              rw [if_neg this]
              rfl
          have hix : Ev (tOp (rIxT K) (tOrT K (tVar 5) (tTup (tCons (tUn (rU fun i => .int (-i)) (tC (.int 1))) tNil))) (tUn (rU fun i => .int (-i)) (tC (.int 1)))) [some (.int m), some (.int z), some (.ref p), some (.int (i : Int)), some (.ref r), some x, y6] H3 (.int (l.getLast?.getD (-1))) := by
            refine ev_int (K := K) ?_
            cases l with
            | nil => exact ed_ixT (ds := [.int (-1)]) hbase (ev_un ev_c ru_neg) rfl
            | cons a t =>
              rw [if_neg (List.cons_ne_nil a t)] at hbase
              refine ed_ixT (ds := (a :: t).map PyData.int) hbase (ev_un ev_c ru_neg) ?_
              rw [List.getLast?_eq_some_getLast (List.cons_ne_nil a t)]
              exact lotD_ix (lastD _ (List.cons_ne_nil a t))
          refine s_asgF (ef_catLF (K := K) (p := r) (ev_var rfl) hr3 hz3 (ef_lcR2 (fun _ => true) (fun c => lotD (l ++ [c])) (ea_cons (ev_op hix ev_c rv_I0) (ea_cons (ev_var rfl) ea_nil)) ⟨by omega, by omega, by omega, by omega⟩ (fun _ => rfl) (fun _ _ _ _ _ => et_yes) (fun c H4 e4 _ _ _ => ?_)) ?_) fun r' zs' H4 nr' e4 hr4 hz4 => ?_
          · refine ed_is (ed_cat (ed_var rfl (dt_ex e4 hd2)) (ed_tup (eb_cons (ed_int (ev_var rfl)) eb_nil) (by show 1 ≤ 100000; decide)) ?_) ?_
            · show (l.map PyData.int).length + 1 ≤ 100000
              rw [List.length_map]; omega
            · show PyData.tuple (l.map PyData.int ++ [.int c]) = lotD (l ++ [c])
              unfold lotD
              rw [List.map_append]
              rfl
          · rw [List.filter_eq_self.mpr (fun _ _ => rfl)]
            rw [List.length_map, List.length_map, upTo_len]
            have : (nextL m l).length = (m - (l.getLast?.getD (-1) + 1)).toNat := by
              unfold nextL
              rw [List.length_map, upTo_len]
            rw [hext, List.length_append] at hbig
            omega
          · refine ⟨r', zs', _, _, rfl, fresh_back (e'.trans (e2.trans e3)) nr', e3.trans e4, hr4, ?_⟩
            rw [hext, List.map_append]
            rw [List.filter_eq_self.mpr (fun _ _ => rfl)] at hz4
            unfold nextL
            rw [List.map_map (l := upTo _ _)]
            exact hz4
      · rintro σ' H3 ⟨r, zs, y5, y6, rfl, nr, e3, hr3, hz3⟩
        have elen : (lotsL m i).take xs.length = lotsL m i := List.take_of_length_le (by rw [dta_len hx, List.length_map]; exact Nat.le_refl _)
        rw [elen] at hz3
        refine s_asg (ev_var rfl) fun H4 e4 => ⟨r, zs, _, _, _, _, rfl, nr, (e'.trans (e2.trans e3)).trans e4, e4 r _ hr3, dta_ex e4 hz3⟩
    · rintro σ' H' ⟨p, xs, y3, y4, y5, y6, rfl, np, e', hp, hx⟩
      exact s_ret (ev_var rfl) fun H2 e2 => q p xs H2 np (e'.trans e2) (e2 p _ hp) (dta_ex e2 hx)
end
def gapBad (l : List Int) (o n : Int) : Bool := decide ((((l.filter fun c => decide (o < c) && decide (c < n)).length : Nat) : Int) % 2 = 1)
def apartL (m : Int) (l : List Int) : List Int := (upTo 0 m).filter fun c => !l.contains c
def rowOk (l ap : List Int) (j : Nat) : Bool := (ap.take j).all fun o => !gapBad l o (ap.getD j 0)
def isPaneL (m d : Int) (l : List Int) : Bool := ((List.range (apartL m l).length).all (rowOk l (apartL m l))) && decide ((l.length : Int) = d)
def panesL (m d : Int) : List (List Int) := (lotsL m d.toNat).filter (isPaneL m d)
theorem apart_len (m : Int) (l : List Int) : (apartL m l).length ≤ m.toNat := by
  have h := List.length_filter_le (fun c => !l.contains c) (upTo 0 m)
  rw [upTo_len] at h
  show ((upTo 0 m).filter _).length ≤ _
  omega
section
variable {P : Program} {w : World} {K : PySem.W.Frag} {mg : Str → Option Value} {base : Heap}
theorem ef_lots {σ : L2.St} {H : Hp} {ta : TA} {m s : Int} {E : XK} (h : EvA ta σ H [.int m, .int s]) (m0 : 0 ≤ m) (m1 : m < 10) (s0 : 0 ≤ s) (s1 : s < 10) : EvF K (tCall (spLots K) [] E ta) σ H ((lotsL m s.toNat).map lotD) := fun H1 e Q q =>
  h H1 e _ fun H2 e2 => ⟨m, s, rfl, m0, m1, s0, s1, fun p xs H3 np e3 hp hx => q p xs H3 (fresh_back e2 np) (e2.trans e3) hp hx⟩
def spIsPane (K : PySem.W.Frag) : Sp := fun vs H Q _ => ∃ (m d : Int) (l : List Int), DtAll K H vs [curveD m d, lotD l] ∧ 0 ≤ m ∧ m < 10 ∧ l.length < 1000 ∧ ∀ H2, Ex H H2 → Q (.bl (isPaneL m d l)) H2
theorem okk_is_pane {f : Addr} {fd : FuncData} {k : Nat} (D : Df K mg "_law_is_pane" s__law_is_pane ["_law_curve_here", "_law_lot"] f fd) (B : Bt mg) : FnOk P w K mg base CX0 (k + 1) f fd ["_law_curve_here", "_law_lot"] (spIsPane K) := by
  refine D.F.ok sc__law_is_pane (fun vs H Q E h => ?_) (fun cdv A outer s H vs Q E hr h => ?_)
  · obtain ⟨m, d, l, hd, _⟩ := h
    rw [dta_len hd]
    rfl
  · obtain ⟨m, d, l, hd, m0, m1, hlen, q⟩ := h
    cases hd with
    | cons h1 h2 =>
    cases h2 with
    | cons h2 h3 =>
    cases h3
    rename_i cv lv
    obtain ⟨la, rfl, hl⟩ := dt_lot h2
    refine ⟨_, (pss_cons (ps_setLc (i := 2) (own := [("_law_corner", 3)]) rfl sc__law_is_pane.nd rfl rfl (sw_true rfl rfl rfl (by decide +kernel)) (pi_range1 (by rfl) B.range_ (pa_cons (pe_ix (show IxR _ (rIxT K) from ix_tup) (pv 0) pe_int (fun _ _ => rfl)) pa_nil)) (blkOk_by (own := [("_law_corner", 3)]) (N := N__law_is_pane) (sc := defScope s__law_is_pane) (by decide +kernel)) (fun _ _ _ _ _ => (pg_name (i := 3) sc__law_is_pane.nd rfl (.inl rfl))) (fun _ _ _ _ _ => pts_one (pt_cmpR (show OpR _ _ (rIn K true) from op_notIn_seq) (pv 3) (pv 1) (by rfl))) (fun _ _ _ _ _ => (pv 3)))  (pss_cons (ps_for PassesOwn.never rfl (pi_enum (by rfl) B.enumerate_ (pa_cons (pv 2) pa_nil)) (pg_tup (by rfl) (pgs_cons (pg_name (i := 4) sc__law_is_pane.nd rfl (.inl rfl)) (pgs_cons (pg_name (i := 5) sc__law_is_pane.nd rfl (.inr rfl)) pgs_nil)))   (pss_one (ps_for PassesOwn.never rfl (pi_list (pe_slice (show SlR _ (rSlL K) from sl_list) (pv 2) po_none (po_some (pv 4)))) (pg_name (i := 6) sc__law_is_pane.nd rfl (.inr rfl))   (pss_one (ps_if (pt_cmpR op_eq (pe_op op_mod (pe_callB (show CallR _ _ (rLenS K) from call_len_seq) (by rfl) B.len_ (by decide +kernel) (pa_cons (pe_lc (own := [("_law_corner", 3)]) rfl sc__law_is_pane.nd (pi_tup (pv 1)) (blkOk_by (own := [("_law_corner", 3)]) (N := N__law_is_pane) (sc := defScope s__law_is_pane) (by decide +kernel)) (fun _ _ _ _ _ => (pg_name (i := 3) sc__law_is_pane.nd rfl (.inl rfl))) (fun _ _ _ _ _ => pts_one (pt_chain op_lt op_lt (pv 6) (pv 3) (pv 5))) (fun _ _ _ _ _ => (pv 3))) pa_nil)) pe_int) pe_int (nomark _))   (pss_one (ps_ret pe_bl))   pss_nil)))))  (pss_one (ps_ret (pe_cmpR op_eq (pe_callB (show CallR _ _ (rLenS K) from call_len_seq) (by rfl) B.len_ (by decide +kernel) (pa_cons (pv 1) pa_nil)) (pe_ix (show IxR _ (rIxT K) from ix_tup) (pv 0) pe_int (fun _ _ => rfl)) (nomark _)))))), ?_⟩
    refine q_asgF (K := K) (ds := (apartL m l).map PyData.int) (ef_is (ef_lcR1 (fun c => !l.contains c) PyData.int (ea_cons (ev_int (K := K) (ed_ixT (ds := [.int m, .int d]) (ed_var rfl h1) ev_c rfl)) ea_nil) ⟨by omega, by omega⟩ (fun _ => rfl) (fun c H1 e1 _ _ => ?_) (fun c H1 e1 _ _ _ => ed_int (ev_var rfl))) rfl) fun p xs H1 np e1 hp hx => ?_
    · refine et_is (et_test (ev_op (ev_var rfl) (ev_var rfl) (rv_niT (ex_t e1 hl) rfl (flat_ints l)))) ?_
      rw [inV_ints]
    · rw [dta_ints_inv hx] at hp
      clear hx
      have hal := apart_len m l
      generalize hap : apartL m l = ap at hp hal
      refine ⟨.ref p, rfl, p, ap.map V.int, rfl, sq_of hp, for_it (walk_enum (K := K) (a := p) (xs := ap.map V.int)) (fun i σ' H' => ∃ y3 y4 y5 y6 : Option V, σ' = [some cv, some (.ref la), some (.ref p), y3, y4, y5, y6] ∧ Ex H1 H' ∧ (List.range i).all (rowOk l ap) = true) ⟨_, _, _, _, rfl, Ex.refl _, rfl⟩ (fun i σ' H' _ hw => ?_) (fun i x σ' H' H'' hi hw hy => ?_) (fun σ' H' hw => ?_)⟩
      · obtain ⟨_, _, _, _, _, e2, _⟩ := hw
        exact sq_of (e2 p _ hp)
      · obtain ⟨y3, y4, y5, y6, rfl, e2, hok⟩ := hw
        obtain ⟨T, x1, x2, rfl, nT, rfl, g1, g2⟩ := hy
        cases Option.some.inj g1
        have hi' : i < ap.length := by rw [List.length_map] at hi; exact hi
        replace g2 : (ap.map V.int)[i]? = some x2 := g2
        rw [List.getElem?_map, List.getElem?_eq_getElem hi'] at g2
        cases Option.some.inj g2
        have hget : ap.getD i 0 = ap[i] := by
          rw [List.getD_eq_getElem?_getD, List.getElem?_eq_getElem hi']
          rfl
        have e3 : Ex H1 (upd H' T (.tup [.int (i : Nat), .int ap[i]])) := e2.trans (Ex.new nT)
        refine ⟨T, _, rfl, st_of upd_same, rfl, _, _, rfl, _, _, rfl, rfl, ?_⟩
        refine s_forNL (xs := (ap.take i).map V.int) ?_ (fun r j σ' H'' => ∃ y3 y6 : Option V, σ' = [some cv, some (.ref la), some (.ref p), y3, some (.int (i : Nat)), some (.int ap[i]), y6] ∧ Ex H1 H'' ∧ H'' r = some (.lst ((ap.take i).map V.int)) ∧ ((ap.take i).take j).all (fun o => !gapBad l o ap[i]) = true)
          (fun r H2 nr e4 hr' => ⟨_, _, rfl, e3.trans e4, hr', rfl⟩) (fun r j σ' H2 _ hw => ?_) (fun r j x σ' H2 hj hw => ?_) (fun r σ' H2 hw => ?_)
        · rw [List.map_take, ← cut_take _ _ (by rw [List.length_map]; omega)]
          exact el_sl (ev_var rfl) eo_none (eo_some (ev_var rfl)) (sq_of (e3 p _ hp))
        · obtain ⟨_, _, _, _, hr', _⟩ := hw
          exact sq_of hr'
        · obtain ⟨y3, y6, rfl, e4, hr', hall⟩ := hw
          rw [List.getElem?_map] at hj
          cases ho : (ap.take i)[j]? with
          | none => rw [ho] at hj; cases hj
          | some o =>
            rw [ho] at hj
            cases Option.some.inj hj
            have htest : EvT (tTest (tOp rEq (tOp (rI (fun _ j => 0 < j) fun i j => .int (i % j)) (tCB (rLenS K) (tCons (tLc (iTup K (tVar 1)) (gName 3) (tTest (tChain (rI0 fun i j => .bl (decide (i < j))) (rI0 fun i j => .bl (decide (i < j))) (tVar 6) (tVar 3) (tVar 5))) (tVar 3) [3]) tNil)) (tC (.int 2))) (tC (.int 1)))) [some cv, some (.ref la), some (.ref p), y3, some (.int (i : Nat)), some (.int ap[i]), some (.int o)] H2 (gapBad l o ap[i]) := by
              refine et_is (et_test (ev_op (ev_op (ev_lenF (K := K) (ef_lcT (ds := l.map PyData.int) (fun d => decide (o < unint d) && decide (unint d < ap[i])) (fun d => d) (ed_var rfl (dt_ex (e1.trans e4) h2)) (by rw [List.length_map]; omega) (fun _ => rfl) (fun d x H3 e5 hm hd => ?_) (fun d x H3 e5 hm hd _ => ed_var rfl hd))) ev_c (rv_I (by show (0 : Int) < 2; decide))) ev_c (rv_eq rfl))) ?_
              · obtain ⟨c, _, rfl⟩ := mem_ints hm
                cases hd
                exact et_test (ev_chain (ev_var rfl) (ev_var rfl) (ev_var rfl) rv_I0 rv_I0)
              · rw [dec_int, filt_len (g := fun c => decide (o < c) && decide (c < ap[i])) (fun _ => rfl)]
                rfl
            refine s_when htest (fun hb H3 e5 => ?_) (fun hb H3 e5 => ?_)
            · refine s_ret ev_c fun H4 e6 => ?_
              have hbad : isPaneL m d l = false := by
                unfold isPaneL
                rw [hap]
                have : (List.range ap.length).all (rowOk l ap) = false := by
                  cases hq : (List.range ap.length).all (rowOk l ap) with
                  | false => rfl
                  | true =>
                    rw [List.all_eq_true] at hq
                    have h6 := hq i (List.mem_range.mpr hi')
                    unfold rowOk at h6
                    rw [List.all_eq_true] at h6
                    have h7 := h6 o (List.mem_of_getElem? ho)
                    rw [hget, hb] at h7
                    cases h7
                rw [this]
                rfl
              rw [← hbad]
              exact q H4 ((e1.trans (e4.trans e5)).trans e6)
            · refine ⟨_, _, rfl, e4.trans e5, e5 r _ hr', ?_⟩
              rw [List.take_add_one, ho, List.all_append, hall]
              show (true && (!gapBad l o ap[i] && true)) = true
              rw [hb]
              rfl
        · obtain ⟨y3, y6, rfl, e4, hr', hall⟩ := hw
          refine ⟨_, _, _, _, rfl, e4, ?_⟩
          rw [List.range_succ, List.all_append, hok]
          show (true && (rowOk l ap i && true)) = true
          have : rowOk l ap i = true := by
            unfold rowOk
            rw [hget]
            rw [List.length_map, List.take_of_length_le (Nat.le_refl _)] at hall
            exact hall
          rw [this]
          rfl
      · obtain ⟨y3, y4, y5, y6, rfl, e2, hok⟩ := hw
        rw [List.length_map] at hok
        have hres : isPaneL m d l = decide ((l.length : Int) = d) := by
          unfold isPaneL
          rw [hap, hok]
          rfl
        refine s_ret (v := .bl (isPaneL m d l)) (ev_is (ev_op (ev_lenT (K := K) (ds := l.map PyData.int) (ed_var rfl (dt_ex (e1.trans e2) h2))) (ev_int (K := K) (ed_ixT (ds := [.int m, .int d]) (ed_var rfl (dt_ex (e1.trans e2) h1)) ev_c rfl)) (rv_eq rfl)) ?_) fun H3 e5 => q H3 ((e1.trans e2).trans e5)
        rw [hres, dec_int, List.length_map]
def spPanes (K : PySem.W.Frag) : Sp := fun vs H Q _ => ∃ (m d : Int), DtAll K H vs [curveD m d] ∧ 0 ≤ m ∧ m < 10 ∧ 0 ≤ d ∧ d < 10 ∧ ∀ p xs H2, H p = none → Ex H H2 → H2 p = some (.lst xs) → DtAll K H2 xs ((panesL m d).map lotD) → Q (.ref p) H2
theorem lots_sz {m : Int} : ∀ {s : Nat} {l : List Int}, l ∈ lotsL m s → l.length = s := by
  intro s
  induction s with
  | zero => intro l h; simp [lotsL] at h; rw [h]; rfl
  | succ s ih =>
    intro l h
    simp only [lotsL, List.mem_flatMap, List.mem_map] at h
    obtain ⟨a, ha, c, _, rfl⟩ := h
    rw [List.length_append, ih ha]; rfl
theorem okk_panes {f fl fi : Addr} {fd fdl fdi : FuncData} {k : Nat} (D : Df K mg "_law_panes" s__law_panes ["_law_curve_here"] f fd) (D__law_lots : Df K mg "_law_lots" s__law_lots ["_law_many", "_law_size"] fl fdl) (D__law_is_pane : Df K mg "_law_is_pane" s__law_is_pane ["_law_curve_here", "_law_lot"] fi fdi) (B : Bt mg) : FnOk P w K mg base CX0 (k + 2) f fd ["_law_curve_here"] (spPanes K) := by
  have G__law_lots : FnOk P w K mg base CX0 (k + 1) fl fdl ["_law_many", "_law_size"] (spLots K) := okk_lots D__law_lots B
  have G__law_is_pane : FnOk P w K mg base CX0 (k + 1) fi fdi ["_law_curve_here", "_law_lot"] (spIsPane K) := okk_is_pane D__law_is_pane B
  refine D.F.ok sc__law_panes (fun vs H Q E h => ?_) (fun cdv A outer s H vs Q E hr h => ?_)
  · obtain ⟨m, d, hd, _⟩ := h
    rw [dta_len hd]
    rfl
  · obtain ⟨m, d, hd, m0, m1, d0, d1, q⟩ := h
    cases hd with
    | cons h1 h2 =>
    cases h2
    rename_i cv
    refine ⟨_, (pss_one (ps_ret (pe_lc (own := [("_law_lot", 1)]) rfl sc__law_panes.nd (pi_list (pe_call G__law_lots (hr.mono (by omega)) (by rfl) D__law_lots.g D__law_lots.F.kp D__law_lots.b .nil pass0 (pa_cons (pe_ix (show IxR _ (rIxT K) from ix_tup) (pv 0) pe_int (fun _ _ => rfl)) (pa_cons (pe_ix (show IxR _ (rIxT K) from ix_tup) (pv 0) pe_int (fun _ _ => rfl)) pa_nil)))) (blkOk_by (own := [("_law_lot", 1)]) (N := N__law_panes) (sc := defScope s__law_panes) (by decide +kernel)) (fun _ _ _ _ _ => (pg_name (i := 1) sc__law_panes.nd rfl (.inl rfl))) (fun _ _ _ _ _ => pts_one (pt_val (pe_call G__law_is_pane (hr.mono (by omega)) (by rfl) D__law_is_pane.g D__law_is_pane.F.kp D__law_is_pane.b .nil pass0 (pa_cons (pv 0) (pa_cons (pv 1) pa_nil))))) (fun _ _ _ _ _ => (pv 1))))), ?_⟩
    have hll : (lotsL m d.toNat).length ≤ 200 := lots_len m0 m1 (by omega)
    refine s_retF (K := K) (ds := (panesL m d).map lotD) (ef_is (ef_lcF (ds := (lotsL m d.toNat).map lotD) (fun x => isPaneL m d (unlot x)) (fun x => x) (ef_lots (ea_cons (ev_int (K := K) (ed_ixT (ds := [.int m, .int d]) (ed_var rfl h1) ev_c rfl)) (ea_cons (ev_int (K := K) (ed_ixT (ds := [.int m, .int d]) (ed_var rfl h1) ev_c rfl)) ea_nil)) m0 m1 d0 d1) (by rw [List.length_map]; omega) (fun _ => rfl) (fun x v H1 e1 hm hx => ?_) (fun x v H1 e1 hm hx _ => ed_var rfl hx)) (filt_lots fun l => by rw [unlot_lot])) fun p xs H1 np e1 hp hx => q p xs H1 np e1 hp hx
    obtain ⟨l, hl, rfl⟩ := mem_lots hm
    rw [unlot_lot]
    refine et_B (fun H2 e2 Q' q' => ?_)
    refine ⟨_, rfl, _, rfl, m, d, l, .cons (dt_ex (e1.trans e2) h1) (.cons (dt_ex e2 hx) .nil), m0, m1, ?_, fun H3 e3 => q' H3 e3⟩
    rw [lots_sz hl]
    omega
end
theorem ty_int_inv {K : PySem.W.Frag} {H : Hp} {x : V} {t : String} (ty : TyX K H x (.type t)) (h : t = "int") : ∃ i, x = .int i := by
  cases ty with
  | base b => cases b <;> first | exact ⟨_, rfl⟩ | exact absurd h (by decide)
  | _ => exact absurd h (by decide)
theorem ty_of_int {K : PySem.W.Frag} {H : Hp} {i : Int} {t : String} (ty : TyX K H (.int i) (.type t)) : t = "int" := by
  cases ty with
  | base b => cases b; rfl
def tyNames : List String := ["NoneType", "bool", "int", "str", "list", "tuple", "dict"]
def tyGood : Bool := tyNames.all fun t => match kitB t "int", kitB t "bool" with
  | some a, some b => (a && !b) == (t == "int")
  | _, _ => false
theorem ty_good : tyGood = true := by decide +kernel
theorem ty_ib {t : String} (h : t ∈ tyNames) : ∃ a b, kitB t "int" = some a ∧ kitB t "bool" = some b ∧ (a && !b) = (t == "int") := by
  have h2 := ty_good
  unfold tyGood at h2
  rw [List.all_eq_true] at h2
  have h3 := h2 t h
  cases h4 : kitB t "int" with
  | none => rw [h4] at h3; cases h3
  | some a =>
    cases h5 : kitB t "bool" with
    | none => rw [h4, h5] at h3; cases h3
    | some b =>
      rw [h4, h5] at h3
      exact ⟨a, b, rfl, rfl, eq_of_beq h3⟩
section
variable {P : Program} {w : World} {K : PySem.W.Frag} {mg : Str → Option Value} {base : Heap}
def spWhole (K : PySem.W.Frag) : Sp := fun vs H Q _ => ∃ (v : V) (t : String), vs = [v] ∧ t ∈ tyNames ∧ (∀ H1, Ex H H1 → TyX K H1 v (.type t)) ∧ ∀ H2, Ex H H2 → Q (.bl (t == "int")) H2
theorem ev_whole {σ : L2.St} {H : Hp} {te : TE} {v : V} {t : String} {E : XK} (h : Ev te σ H v) (ht : t ∈ tyNames) (hx : ∀ H1, Ex H H1 → TyX K H1 v (.type t)) : Ev (tCall (spWhole K) [] E (tCons te tNil)) σ H (.bl (t == "int")) := fun H1 e Q q =>
  h H1 e _ fun H2 e2 => ⟨v, t, rfl, ht, fun H3 e3 => hx H3 ((e.trans e2).trans e3), fun H3 e3 => q H3 (e2.trans e3)⟩
theorem okk_is_whole {f : Addr} {fd : FuncData} {k : Nat} (D : Df K mg "is_whole" s_is_whole ["thing"] f fd) (B : Bt mg) : FnOk P w K mg base CX0 (k + 1) f fd ["thing"] (spWhole K) := by
  refine D.F.ok sc_is_whole (fun vs H Q E h => ?_) (fun cdv A outer s H vs Q E hr h => ?_)
  · obtain ⟨v, t, rfl, _⟩ := h
    rfl
  · obtain ⟨v, t, rfl, ht, hx, q⟩ := h
    refine ⟨_, (pss_one (ps_ret (pe_and (pe_callB (show CallR _ _ (rIsi K) from call_isi) (by rfl) B.isinstance_ (by decide +kernel) (pa_cons (pv 0) (pa_cons (pe_bltn (v := .ty "int") (by rfl) B.int_ (by decide +kernel) rfl) pa_nil))) (pe_one (pe_not (pe_callB (show CallR _ _ (rIsi K) from call_isi) (by rfl) B.isinstance_ (by decide +kernel) (pa_cons (pv 0) (pa_cons (pe_bltn (v := .ty "bool") (by rfl) B.bool_ (by decide +kernel) rfl) pa_nil)))))))), ?_⟩
    obtain ⟨a, b, ha, hb, hab⟩ := ty_ib ht
    refine s_ret (ev_andV (ev_isi (ev_var rfl) ev_c hx ha) (fun _ => ev_notV (ev_isi (ev_var rfl) ev_c hx hb))) fun H1 e1 => ?_
    rw [hab]
    exact q H1 e1
theorem ev_wholeI {σ : L2.St} {H : Hp} {te : TE} {i : Int} {E : XK} (h : Ev te σ H (.int i)) : Ev (tCall (spWhole K) [] E (tCons te tNil)) σ H (.bl true) := ev_whole h (by decide) ty_int
end
theorem tyes_go' {σ : L2.St} {H : Hp} {F G : Hp → Prop} (h : F H) : tYes σ H fun b H3 => if b = true then F H3 else G H3 := by
  show (if true = true then F H else G H)
  exact iteT h
/-! ### enumerate(tuple) -/
set_option maxHeartbeats 1000000 in
theorem meets_enum_new1 {v : Value} {o : Obj} {H : Heap → Prop} (B : Begins v o H) :
    Meets (Builtin.«enumerate.__new__» ⟨[.type "enumerate", v], []⟩) (fun _ R s => H s.heap ∧
      R (.ok (.ret (.ref (s.heap.push o).objs.size))) { s with heap := (s.heap.push o).push { cls := .type "enumerate", data := .fields #[.none, .bool false, .ref s.heap.objs.size, rawInt 0, .none, .none] } }) :=
  .of_wp fun prog w A R s h => by
    obtain ⟨hp, g, d, tk, os⟩ := s; obtain ⟨h1, h⟩ := h
    have hsub := sub_enumerate
    have q1 : ∀ {A' : Around} {E : Value → Shared → Prop} {Q : Value → Shared → Prop}, Q (.ref hp.objs.size) ⟨hp.push o, g, d, tk, os⟩ → wpAny (model prog w) A' (pyIter v) Q E ⟨hp, g, d, tk, os⟩ :=
      fun q => B.iter prog w _ _ ⟨hp, g, d, tk, os⟩ _ h1 q
    wp_walk using q1
    refine wpAny_stack_any fun st => wpAny_pure ?_
    split
    · rename_i c _ _ _ _ _
      cases (c == Value.type "enumerate")
      · wp_walk using q1
        exact ⟨_, rfl, h⟩
      · wp_walk using q1
        exact ⟨_, rfl, h⟩
    · wp_walk using q1
      exact ⟨_, rfl, h⟩
theorem call_enum_tuple {prog : Program} {w : World} {A : Around} {E : Value → Shared → Prop} {s : Shared} {l : Addr} {items : Array Value} {Q : Value → Shared → Prop} (hL : s.heap.IsTuple l items)
    (h : ∀ h', IsEnum h' (s.heap.objs.size + 1) s.heap.objs.size 0 .none → h'.IsTupleIter s.heap.objs.size l 0 → h'.objs.size = s.heap.objs.size + 2 →
      (∀ b o, s.heap.get? b = some o → h'.get? b = some o) → Q (.ref (s.heap.objs.size + 1)) { s with heap := h' }) :
    wpAny (model prog w) A (call (.type "enumerate") [.ref l]) Q E s := by
  refine callType_new F.called_enumerate (by decide) (F.typeCall_enumerate_1 _) (F.newCall_enumerate_1 _) (fun obj => F.args_object_init_2 obj _) F.entry_enumerate_new
    (meets_enum_new1 (begins_tuple l items)) ⟨hL, ?_⟩
  have hz : (s.heap.push { cls := .type "tuple_iterator", data := .fields #[.ref l, .int 0 0] }).objs.size = s.heap.objs.size + 1 := Heap.size_push ..
  show _ ∧ _
  rw [hz]
  have he : IsEnum ((s.heap.push { cls := .type "tuple_iterator", data := .fields #[.ref l, .int 0 0] }).push
      { cls := .type "enumerate", data := .fields #[.none, .bool false, .ref s.heap.objs.size, rawInt 0, .none, .none] }) (s.heap.objs.size + 1) s.heap.objs.size 0 .none := by
    have := Heap.get?_push_size (s.heap.push { cls := .type "tuple_iterator", data := .fields #[.ref l, .int 0 0] })
      (o := { cls := .type "enumerate", data := .fields #[.none, .bool false, .ref s.heap.objs.size, rawInt 0, .none, .none] }) rfl
    rw [hz] at this; exact this
  refine ⟨⟨_, he, rfl⟩, h _ he ⟨_, Heap.get?_push_of_some _ (Heap.get?_push_size _ rfl), rfl, rfl⟩ (by rw [Heap.size_push, hz]) fun b o x => Heap.get?_push_of_some _ (Heap.get?_push_of_some _ x)⟩
def ItU (K : PySem.W.Frag) (a : Addr) : It :=
  ⟨fun i H => ∃ (xs : List V) (x : V), SqT K H a xs ∧ xs[i]? = some x, fun i H v H' => ∃ T x, v = .ref T ∧ H T = none ∧ H' = upd H T (.tup [.int (i : Nat), x]) ∧ ∀ xs, SqT K H a xs → xs[i]? = some x, fun i H => ∃ xs : List V, SqT K H a xs ∧ xs.length ≤ i⟩
theorem turn_enumT {P : Program} {w : World} {K : PySem.W.Frag} {elts : List Expr} {kk : Nat} {tpos : Pos} (a e it : Addr) :
    Turn P w K (.Tuple elts kk tpos) (ItU K a) [e, it] e (fun i h => (∃ old, IsEnum h e it ((i : Nat) : Int) old) ∧ h.IsTupleIter it a i ∧ e ≠ it) where
  mem := by simp
  obj := fun i h st b hb => by
    obtain ⟨⟨old, he⟩, ⟨o, ho, hc, hd⟩, _⟩ := st
    have e' : b = e ∨ b = it := by simpa using hb
    rcases e' with z | z
    · rw [z]; exact ⟨_, he, fun v q => nomatch q⟩
    · rw [z]; exact ⟨o, ho, fun v q => by rw [hd] at q; cases q⟩
  keep := fun i h h' st k => let ⟨⟨old, he⟩, hi, hne⟩ := st; ⟨⟨old, k e (by simp) _ he⟩, hi.at fun o q => k it (by simp) o q, hne⟩
  item := by
    intro X hP hw hK hc i pins s σ H E I hf st hg
    subst hP hw hK
    obtain ⟨⟨old, he⟩, hit, hne⟩ := st
    obtain ⟨xs, x, hq, hx⟩ := hg
    obtain ⟨its, rv, p, hz⟩ := I.tuple hq
    obtain ⟨u, hu, ru⟩ := rv.get hx
    have hel : e < s.heap.objs.size := Heap.lt_size he
    have hil : it < s.heap.objs.size := by obtain ⟨_, q, _⟩ := hit; exact Heap.lt_size q
    have hai : a ≠ it := fun z => by
      subst z
      obtain ⟨_, q, c1, _⟩ := hit
      obtain ⟨_, q2, c2, _⟩ := p
      rw [q] at q2
      cases q2
      rw [c1] at c2
      exact absurd (Value.type.inj c2) (by decide)
    have hae : a ≠ e := fun z => by
      subst z
      obtain ⟨_, q2, c2, _⟩ := p
      have he' := he
      unfold IsEnum at he'
      rw [he'] at q2
      cases q2
      exact absurd (Value.type.inj c2) (by decide)
    have hlt : i < its.toArray.size := by
      have h1 : its[i]? = some u := hu
      have := (List.getElem?_eq_some_iff.mp h1).1
      simpa using this
    have hd0 : X.A.in1.handled = none := I.ok.hd hc
    refine wpAny_pyNext_enum_itemD (Draws.tuple hd0 it a hai its.toArray) he ⟨hit, p⟩ hlt hne (by simp [hne, Ne.symm hae]) fun u' h' tk hp' ho hst' hT hsz hk => ?_
    have eu : u' = u := by
      have h1 : its[i]? = some u := hu
      have h2 : its.toArray[i]? = some u' := hp'
      rw [List.getElem?_toArray, h1] at h2
      exact (Option.some.inj h2).symm
    subst eu
    refine ⟨_, rfl, wpAny_letOwnedTupleGo_enum (s := { s with heap := h', toks := tk + 1 }) ho fun h'' he' sb => ?_⟩
    have hT2 : h''.get? s.heap.objs.size = some { cls := .type "tuple", data := .seq #[.int i tk, u'] } := (sb.2 _ (Nat.ne_of_gt hel)).trans hT
    have new : ObjOk X.prog X.w (upd H s.heap.objs.size (.tup [.int (i : Nat), x])) h'' s.heap.objs.size (.tup [.int (i : Nat), x]) :=
      ⟨by show 2 ≤ sizeLine; decide, [.int i tk, u'], .cons ⟨_, rfl⟩ (.cons ru .nil), ⟨_, hT2, rfl, _, rfl⟩⟩
    have I1 : Inv X pins σ (upd H s.heap.objs.size (.tup [.int (i : Nat), x])) { s with heap := h'', toks := tk + 1 } :=
      I.turnedNew (ch := [e, it]) (fun b ob hb q => (sb.2 b (fun z => hb (by simp [z]))).trans (hk b ob (fun z => hb (by simp [z])) (fun z => hb (by simp [z])) q)) hf (Nat.le_refl _) new
    refine ⟨.ref s.heap.objs.size, _, I1, rfl, ⟨_, x, rfl, I.hok.fresh (Nat.le_refl _), rfl, fun ys hy => by rw [I.tuple_inj hy hq]; exact hx⟩, ⟨⟨u', ?_⟩, hst'.1.at fun o q => (sb.2 it (Ne.symm hne)).trans q, hne⟩, fun b hb => ?_⟩
    · have e1 : ((i + 1 : Nat) : Int) = (i : Int) + 1 := by omega
      rw [e1]; exact he'
    · have hb' : b < s.heap.objs.size := by
        have e' : b = e ∨ b = it := by simpa using hb
        rcases e' with z | z
        · rw [z]; exact hel
        · rw [z]; exact hil
      rw [upd_ne (Nat.ne_of_lt hb')]
      exact (hf b hb).1
  done := by
    intro X hP hw hK hc i pins s σ H E I hf st hg
    subst hP hw hK
    obtain ⟨⟨old, he⟩, hit, hne⟩ := st
    obtain ⟨xs, hq, hx⟩ := hg
    obtain ⟨its, rv, p, hz⟩ := I.tuple hq
    obtain ⟨f0, f1, f2, f3, f4, f5⟩ := hf it (by simp)
    have hl := rv.length
    have hd0 : X.A.in1.handled = none := I.ok.hd hc
    have hT : s.TypeIs (.ref e) "enumerate" := ⟨_, he, rfl⟩
    unfold pyNext
    refine wpAny_bind (wpAny_attempt (wpAny_callSpecial?_slot (name := Str.ofString "__next__") hT F.slot_enumerate_next
      (wpAny_call_entry F.slot_enumerate_next hT F.entry_enumerate_next ?_ (F.args_enumerate_next_1 _))))
    show wpAny _ _ (field (.ref e) 2 >>= _) _ _ _
    refine wpAny_bind (wpAny_field he rfl (x := .ref it) rfl ?_)
    refine wpAny_bind (wpAny_nextOf_tuple_end hd0 hit p (by simp; omega) fun h' x he' hx' => ?_)
    obtain ⟨o, ho, hc⟩ := hx'
    refine wpAny_bind (wpAny_isInstance (T := "StopIteration") (b := true) ⟨o, ho, hc⟩ isSubtype_stop ?_)
    exact wpAny_pure ⟨rfl, I.turned (t' := s.toks) (fun b o hb q => he' b o hb q) f0 f1 f3 f4 f5⟩
  self := fun A i s Q E st h => let ⟨⟨_, he⟩, _⟩ := st; wpAny_pyIter_enum he h
def iEnumT (K : PySem.W.Frag) (ta : TA) : TI := fun σ H R => ta σ H fun vs H1 => ∃ a xs, vs = [.ref a] ∧ SqT K H1 a xs ∧ R (ItU K a) H1
theorem pi_enumT {X : Cx} {e : Expr} {ta : TA} {p pos tpos : Pos} {elts : List Expr} {kk : Nat} (hg : Gl X "enumerate") (hm : X.mg "enumerate" = none) (ha : PA X [e] ta) (hs : starEach [e] X.env = [(false, eval e X.env)] := by rfl) :
    PI X (.Tuple elts kk tpos) (.Call (.Name "enumerate" p) [e] [] pos) (iEnumT X.K ta) := by
  refine ⟨fun pins s σ H R I h => ?_⟩
  refine Call_ (ld_blt I hg hm boot_enumerate (PyProof.Rows.callWith_type1 (thn (ha.run pos pins s σ H _ I h) fun us s1 ⟨vs, H1, I1, r1, q1⟩ => ?_) hs rfl))
  obtain ⟨a, xs, ex, hq, q⟩ := q1
  subst ex
  cases r1 with
  | cons r rr =>
    cases rr
    cases r
    obtain ⟨its, rv, p', hz⟩ := I1.tuple hq
    refine call_enum_tuple p' fun h' he hit hsz hk => wpAny_pyIter_enum he ?_
    have I2 : Inv X pins σ H1 { s1 with heap := h' } := I1.kept (t' := s1.toks) hk
    refine ⟨s1.heap.objs.size + 1, [s1.heap.objs.size + 1, s1.heap.objs.size], _, _, H1, rfl, I2, turn_enumT a (s1.heap.objs.size + 1) s1.heap.objs.size, ⟨⟨.none, he⟩, hit, Nat.succ_ne_self _⟩, fun b hb => ?_, q⟩
    have e' : b = s1.heap.objs.size + 1 ∨ b = s1.heap.objs.size := by simpa using hb
    have hle : s1.heap.objs.size ≤ b := by
      rcases e' with z | z
      · rw [z]; exact Nat.le_add_right _ _
      · rw [z]; exact Nat.le_refl _
    exact I1.fpOk hle (I1.hok.fresh hle)
theorem walk_enumT {K : PySem.W.Frag} {a : Addr} {xs : List V} : Walk (ItU K a) xs.length (fun H => SqT K H a xs) (YPair (fun i => some (.int (i : Nat))) (fun i => xs[i]?)) := by
  refine ⟨fun i _ hi q => ⟨xs, xs[i], q, by simp [hi]⟩, fun _ q => ⟨xs, q, Nat.le_refl _⟩, fun i H v H' _ q y => ?_⟩
  obtain ⟨T, x, h1, h2, h3, h4⟩ := y
  exact ⟨T, .int (i : Nat), x, h1, h2, h3, rfl, h4 xs q⟩
/-! ### small words -/
section
variable {K : PySem.W.Frag} {σ : L2.St} {H H' : Hp} {ta tb te tl : TE} {vs : List V} {v : V} {d0 d1 d2 d3 d4 : PyData}
theorem dt_int {i : Int} (h : Dt K H v (.int i)) : v = .int i := by cases h; rfl
theorem dt_bool {b : Bool} (h : Dt K H v (.bool b)) : v = .bl b := by cases h; rfl
theorem dta0 (h : DtAll K H vs []) : vs = [] := by cases h; rfl
theorem dta1 (h : DtAll K H vs [d0]) : ∃ v0, vs = [v0] ∧ Dt K H v0 d0 := by
  cases h with
  | cons h0 h => rw [dta0 h]; exact ⟨_, rfl, h0⟩
theorem dta2 (h : DtAll K H vs [d0, d1]) : ∃ v0 v1, vs = [v0, v1] ∧ Dt K H v0 d0 ∧ Dt K H v1 d1 := by
  cases h with
  | cons h0 h => obtain ⟨v1, rfl, h1⟩ := dta1 h; exact ⟨_, _, rfl, h0, h1⟩
theorem dta3 (h : DtAll K H vs [d0, d1, d2]) : ∃ v0 v1 v2, vs = [v0, v1, v2] ∧ Dt K H v0 d0 ∧ Dt K H v1 d1 ∧ Dt K H v2 d2 := by
  cases h with
  | cons h0 h => obtain ⟨v1, v2, rfl, h1⟩ := dta2 h; exact ⟨_, _, _, rfl, h0, h1⟩
theorem dta4 (h : DtAll K H vs [d0, d1, d2, d3]) : ∃ v0 v1 v2 v3, vs = [v0, v1, v2, v3] ∧ Dt K H v0 d0 ∧ Dt K H v1 d1 ∧ Dt K H v2 d2 ∧ Dt K H v3 d3 := by
  cases h with
  | cons h0 h => obtain ⟨v1, v2, v3, rfl, h1⟩ := dta3 h; exact ⟨_, _, _, _, rfl, h0, h1⟩
theorem rv_eqI {i j : Int} : RV rEq (.int i) (.int j) H (.bl (decide (i = j))) := by rw [← dec_int]; exact rv_eq rfl
theorem rv_neI {i j : Int} : RV rNe (.int i) (.int j) H (.bl (!decide (i = j))) := by rw [← dec_int]; exact rv_ne rfl
theorem dec_bl (a b : Bool) : decide (V.bl a = V.bl b) = (a == b) := by
  cases a <;> cases b <;> rfl
theorem rv_eqB {a b : Bool} : RV rEq (.bl a) (.bl b) H (.bl (a == b)) := by rw [← dec_bl]; exact rv_eq rfl
theorem rv_neB {a b : Bool} : RV rNe (.bl a) (.bl b) H (.bl (!(a == b))) := by rw [← dec_bl]; exact rv_ne rfl
theorem ev_inI {x : Int} {l : List Int} (ha : Ev ta σ H (.int x)) (hb : EvD K tb σ H (lotD l)) : Ev (tOp (rIn K false) ta tb) σ H (.bl (l.contains x)) := fun H1 e Q q =>
  ha H1 e _ fun H2 e2 => hb H2 (e.trans e2) _ fun w H3 e3 hw => by
    obtain ⟨a, rfl, hs⟩ := dt_lot hw
    rw [← inV_ints] at q
    exact rv_isT hs rfl (flat_ints l) H3 (Ex.refl _) Q fun H4 e4 => q H4 ((e2.trans e3).trans e4)
theorem ev_niI {x : Int} {l : List Int} (ha : Ev ta σ H (.int x)) (hb : EvD K tb σ H (lotD l)) : Ev (tOp (rIn K true) ta tb) σ H (.bl (!l.contains x)) := fun H1 e Q q =>
  ha H1 e _ fun H2 e2 => hb H2 (e.trans e2) _ fun w H3 e3 hw => by
    obtain ⟨a, rfl, hs⟩ := dt_lot hw
    rw [← inV_ints] at q
    exact rv_niT hs rfl (flat_ints l) H3 (Ex.refl _) Q fun H4 e4 => q H4 ((e2.trans e3).trans e4)
theorem ed_if {t : TT} {b : Bool} {d : PyData} (h : EvT t σ H b) (h1 : b = true → EvD K ta σ H d) (h2 : b = false → EvD K tb σ H d) : EvD K (tIf t ta tb) σ H d := fun H1 e Q q => h H1 e _ fun H2 e2 => by
  cases b with
  | true => exact iteT (h1 rfl H2 (e.trans e2) Q fun v H3 e3 => q v H3 (e2.trans e3))
  | false => exact iteF (h2 rfl H2 (e.trans e2) Q fun v H3 e3 => q v H3 (e2.trans e3))
theorem ev_lenI {l : List Int} (ha : EvD K ta σ H (lotD l)) : Ev (tCB (rLenS K) (tCons ta tNil)) σ H (.int (l.length : Int)) := by
  have := ev_lenT (K := K) (ds := l.map PyData.int) ha
  rw [List.length_map] at this
  exact this
theorem ed_catI {l r : List Int} (ha : EvD K ta σ H (lotD l)) (hb : EvD K tb σ H (lotD r)) (hl : l.length + r.length ≤ 1000) : EvD K (tOp (rCatA K) ta tb) σ H (lotD (l ++ r)) := by
  refine ed_is (ed_cat ha hb ?_) ?_
  · rw [List.length_map, List.length_map]; omega
  · unfold lotD; rw [List.map_append]
theorem s_drop' {D : Ends} (h : Ev te σ H v) (k : ∀ H1, Ex H H1 → D.nx σ H1) : tDrop te D σ H := s_drop h k
/-- over enumerate(tuple) -/
theorem ef_lcET {ds : List PyData} {j0 j1 : Nat} {vs : List Nat} (g : Nat → PyData → PyData) (h : EvD K tl σ H (.tuple ds)) (hz : ds.length < 50000) (hw : ∀ x y, wipe (((wipe σ vs).set j0 (some x)).set j1 (some y)) vs = wipe σ vs)
    (he : ∀ (i : Nat) (d : PyData) (x : V) H1, Ex H H1 → ds[i]? = some d → Dt K H1 x d → EvD K te (((wipe σ vs).set j0 (some (.int (i : Int)))).set j1 (some x)) H1 (g i d)) :
    EvF K (tLc (iEnumT K (tCons tl tNil)) (gTup K 2 (gCons (gName j0) (gCons (gName j1) gNil))) tYes te vs) σ H (ds.mapIdx g) := fun H0 e Q q => h H0 e _ fun v H1 e1 hv => by
  cases hv with
  | tup hx hd =>
    rename_i a xs
    refine ⟨a, xs, rfl, hx, fun Dl hD => lc_it (walk_enumT (K := K) (a := a) (xs := xs)) (fun i H' => Cd K H1 Dl ((ds.mapIdx g).take i) H') ⟨hD, Ex.new hD, [], upd_same, .nil⟩ (fun i H' _ p => ex_t p.2.1 hx) (fun i x H' H'' hi p hy => ?_) (fun H' p => ?_)⟩
    · obtain ⟨T, x1, x2, rfl, nT, rfl, g1, g2⟩ := hy
      cases Option.some.inj g1
      obtain ⟨p1, p2, acc, p3, p4⟩ := p
      have eT : Ex H' (upd H' T (.tup [.int (i : Nat), x2])) := Ex.new nT
      obtain ⟨d, h1, h2⟩ := dta_get (dta_ex p2 hd) g2
      refine ⟨T, _, rfl, st_of upd_same, rfl, _, _, rfl, _, _, rfl, rfl, hw _ _, ?_⟩
      refine tyes_go' ?_
      refine he i d x2 _ (((e.trans e1).trans p2).trans eT) h1 (dt_ex eT h2) _ (Ex.refl _) _ fun y H4 e4 hy => ?_
      have p3' := e4 Dl _ (eT Dl _ p3)
      refine ⟨acc, p3', sz_lt ?_, p1, Ex.mut ((p2.trans eT).trans e4) p1, _, upd_same, ?_⟩
      · have := dta_len p4
        rw [List.length_take, List.length_mapIdx] at this
        omega
      · rw [List.take_add_one, List.getElem?_mapIdx, h1]
        exact dta_tx (tx_lst p3') (dta_app (dta_ex (eT.trans e4) p4) (dta_one hy))
    · obtain ⟨p1, p2, acc, p3, p4⟩ := p
      have e5 : (ds.mapIdx g).take xs.length = ds.mapIdx g := List.take_of_length_le (by rw [List.length_mapIdx, dta_len hd]; exact Nat.le_refl _)
      rw [e5] at p4
      exact q Dl acc H' (fresh_back e1 p1) (e1.trans p2) p3 p4
end
theorem pe_bmK {X : Cx} {K : PySem.W.Frag} {T id : String} {name : Str} {r : V → List V → Hp → VK → Prop} {o : Expr} {to : TE} {e : Expr} {es : List Expr} {t : TA} {apos cpos : Pos} (hK : X.K = K) (pa : PlainAttrs T) (slot : Slot T name id) (hty : typeOf (.builtin id) = pure (.type "method_descriptor")) (hm : MtR X id r) (ho : PE X o to) (ha : PA X (e :: es) t)
    (hbase : attributeBase o name X.env (eval o X.env) = eval o X.env := by rfl)
    (hfew : ((backTo cpos (starEach (e :: es) X.env)).all (fun x => !x.1) && (backToKw cpos (keywordEach [] X.env)).all (fun x => x.1.isSome)
      && decide ((e :: es).length + ([] : List Keyword).length + (if ([] : List Keyword).isEmpty then 0 else 1) < 30)) = true := by rfl)
    (hline : (apos.endLine == cpos.line) = true := by rfl) (hs : starEach (e :: es) X.env = (false, eval e X.env) :: starEach es X.env := by rfl) (hplain : (backTo cpos (starEach es X.env)).any (·.1) = false := by rfl) :
    PE X (.Call (.Attribute o name apos) (e :: es) [] cpos) (tBM K T r to t) := by
  subst hK
  exact pe_bm pa slot hty hm ho ha hbase hfew hline hs hplain
section
variable {K : PySem.W.Frag}
theorem et_truL {σ : L2.St} {H : Hp} {te : TE} {p : Addr} {xs : List V} (h : Ev te σ H (.ref p)) (hs : SqL K H p xs) : EvT (fun σ H Q => te σ H fun x H' => ∃ k, TruV K x H' k ∧ Q k H') σ H (!xs.isEmpty) := fun H1 e _ q =>
  h H1 e _ fun H2 e2 => ⟨_, .inl ⟨xs, ex_l (e.trans e2) hs, rfl⟩, q H2 e2⟩
theorem et_truT {σ : L2.St} {H : Hp} {te : TE} {ds : List PyData} (h : EvD K te σ H (.tuple ds)) : EvT (fun σ H Q => te σ H fun x H' => ∃ k, TruV K x H' k ∧ Q k H') σ H (!ds.isEmpty) := fun H1 e _ q =>
  h H1 e _ fun v H2 e2 hv => by
    cases hv with
    | tup hs hx =>
      refine ⟨_, .inr (.inl ⟨_, hs, rfl⟩), ?_⟩
      cases hx with
      | nil => exact q H2 e2
      | cons _ _ => exact q H2 e2
theorem s_appD {D : Ends} {σ : L2.St} {H : Hp} {ta te : TE} {l : Addr} {xs : List V} {d : PyData} (hl : H l = some (.lst xs)) (ha : Ev ta σ H (.ref l)) (h : EvD K te σ H d) (hz : xs.length < 100000) (k : ∀ v H1, Ex H H1 → Dt K H1 v d → D.nx σ (upd H1 l (.lst (xs ++ [v])))) :
    tDrop (tBM K "list" rAppend ta (tCons te tNil)) D σ H := ha H (Ex.refl H) _ fun H1 e1 =>
  ⟨Or.inl ⟨rfl, xs, sq_of (e1 l _ hl)⟩, h H1 e1 _ fun v H2 e2 hv => ⟨l, xs, v, rfl, rfl, e2 l _ (e1 l _ hl), sz_lt hz, k v H2 (e1.trans e2) hv⟩⟩
theorem q_appD {D : Ends} {σ : L2.St} {H : Hp} {ta te : TE} {tz : TS} {l : Addr} {xs : List V} {d : PyData} (hl : H l = some (.lst xs)) (ha : Ev ta σ H (.ref l)) (h : EvD K te σ H d) (hz : xs.length < 100000) (k : ∀ v H1, Ex H H1 → Dt K H1 v d → tz D σ (upd H1 l (.lst (xs ++ [v])))) :
    tSeq (tDrop (tBM K "list" rAppend ta (tCons te tNil))) tz D σ H := s_appD (D := { D with nx := tz D }) hl ha h hz k
end
section
variable {K : PySem.W.Frag} {σ : L2.St} {H : Hp} {ta tb : TE} {ds es : List PyData}
theorem ev_neFL {a : Addr} {ys : List V} (ha : EvF K ta σ H ds) (hb : Ev tb σ H (.ref a)) (hs : SqL K H a ys) (hy : DtAll K H ys es) (sd : SeqAt.shaped (.list ds) = true) (se : SeqAt.shaped (.list es) = true) : Ev (tOp (rNeD K) ta tb) σ H (.bl (!PyData.eqv (.list ds) (.list es))) := fun H1 e1 Q q =>
  ha H1 e1 _ fun p xs H2 _ e2 hp hx => hb H2 (e1.trans e2) _ fun H3 e3 => ⟨_, _, .lst (sq_of (e3 p _ hp)) (dta_dp (dta_ex e3 hx)), .lst (ex_l ((e1.trans e2).trans e3) hs) (dta_dp (dta_ex ((e1.trans e2).trans e3) hy)), sd, se, q H3 (e2.trans e3)⟩
theorem ev_eqFL {a : Addr} {ys : List V} (ha : EvF K ta σ H ds) (hb : Ev tb σ H (.ref a)) (hs : SqL K H a ys) (hy : DtAll K H ys es) (sd : SeqAt.shaped (.list ds) = true) (se : SeqAt.shaped (.list es) = true) : Ev (tOp (rEqD K) ta tb) σ H (.bl (PyData.eqv (.list ds) (.list es))) := fun H1 e1 Q q =>
  ha H1 e1 _ fun p xs H2 _ e2 hp hx => hb H2 (e1.trans e2) _ fun H3 e3 => ⟨_, _, .lst (sq_of (e3 p _ hp)) (dta_dp (dta_ex e3 hx)), .lst (ex_l ((e1.trans e2).trans e3) hs) (dta_dp (dta_ex ((e1.trans e2).trans e3) hy)), sd, se, q H3 (e2.trans e3)⟩
theorem ev_neLF {a : Addr} {xs : List V} (ha : Ev ta σ H (.ref a)) (hs : SqL K H a xs) (hx : DtAll K H xs ds) (hb : EvF K tb σ H es) (sd : SeqAt.shaped (.list ds) = true) (se : SeqAt.shaped (.list es) = true) : Ev (tOp (rNeD K) ta tb) σ H (.bl (!PyData.eqv (.list ds) (.list es))) := fun H1 e1 Q q =>
  ha H1 e1 _ fun H2 e2 => hb H2 (e1.trans e2) _ fun r ys H3 _ e3 hr hy => ⟨_, _, .lst (ex_l ((e1.trans e2).trans e3) hs) (dta_dp (dta_ex ((e1.trans e2).trans e3) hx)), .lst (sq_of hr) (dta_dp hy), sd, se, q H3 (e2.trans e3)⟩
end
section
variable {K : PySem.W.Frag}
theorem q_parFF {σ : L2.St} {H : Hp} {D : Ends} {tz : TS} {ta tb : TE} {i j : Nat} {ds es : List PyData} (h1 : EvF K ta σ H ds) (h2 : ∀ H1, Ex H H1 → EvF K tb σ H1 es) (k : ∀ p xs q ys H2, Ex H H2 → H2 p = some (.lst xs) → DtAll K H2 xs ds → H2 q = some (.lst ys) → DtAll K H2 ys es → tz D ((σ.set i (some (.ref p))).set j (some (.ref q))) H2) : tSeq (tPar i j (tCons ta (tCons tb tNil))) tz D σ H :=
  h1 H (Ex.refl H) _ fun p xs H1 np e1 hp hx => h2 H1 e1 H1 (Ex.refl H1) _ fun q ys H2 nq e2 hq hy => ⟨.ref p, .ref q, rfl, k p xs q ys H2 (e1.trans e2) (e2 p _ hp) (dta_ex e2 hx) hq hy⟩
theorem bools_shaped (a b : Bool) : SeqAt.shaped (.list [.bool a, .bool b]) = true := by cases a <;> cases b <;> decide +kernel
theorem ef_catLL {σ : L2.St} {H : Hp} {ta tb : TE} {p r : Addr} {xs ys : List V} {ds es : List PyData} (ha : Ev ta σ H (.ref p)) (hp : H p = some (.lst xs)) (hx : DtAll K H xs ds) (hb : Ev tb σ H (.ref r)) (hr : H r = some (.lst ys)) (hy : DtAll K H ys es) (hl : ds.length + es.length ≤ 100000) : EvF K (tOp rCat ta tb) σ H (ds ++ es) := fun H1 e Q q =>
  ha H1 e _ fun H2 e2 => hb H2 (e.trans e2) _ fun H3 e3 =>
    ⟨_, _, _, _, rfl, rfl, ((e.trans e2).trans e3) p _ hp, ((e.trans e2).trans e3) r _ hr, sz_of (by rw [dta_len hx, dta_len hy]; exact hl), fun n hn =>
      q n _ _ (fresh_back (e2.trans e3) hn) ((e2.trans e3).trans (Ex.new hn)) upd_same (dta_ex (Ex.new hn) (dta_app (dta_ex ((e.trans e2).trans e3) hx) (dta_ex ((e.trans e2).trans e3) hy)))⟩
theorem ev_intB {σ : L2.St} {H : Hp} {te : TE} {b : Bool} (h : Ev te σ H (.bl b)) : Ev (tCB (fun xs H Q => (∃ i, xs = [.int i] ∧ Q (.int i) H) ∨ ∃ k, xs = [.bl k] ∧ Q (.int (if k then 1 else 0)) H) (tCons te tNil)) σ H (.int (if b then 1 else 0)) := fun H1 e Q q => h H1 e _ fun H2 e2 => .inr ⟨b, rfl, q H2 e2⟩
end
section
variable {K : PySem.W.Frag}
theorem ev_sumF {σ : L2.St} {H : Hp} {ta : TE} {ns : List Int} (ha : EvF K ta σ H (ns.map PyData.int)) : Ev (tCB (rSum K) (tCons ta tNil)) σ H (.int ns.sum) := fun H1 e Q q =>
  ha H1 e _ fun p xs H2 _ e2 hp hx => ⟨p, ns, rfl, sq_of (by rw [dta_ints_inv hx] at hp; exact hp), q H2 e2⟩
end
/-! ### the program's curves and lots -/
theorem free_of {cells : List (Str × Addr)} {names : List (Str × NameKind)} (h : (names.all fun y => !(decide (y.2 = .free)) || (cells.lookup y.1).isSome) = true) : ∀ y ∈ names, y.2 = .free → ∃ c, cells.lookup y.1 = some c := fun y hy e => by
  have q := List.all_eq_true.mp h y hy
  rw [decide_eq_true e] at q
  exact Option.isSome_iff_exists.mp q
theorem tyx_ex {K : PySem.W.Frag} {H H' : Hp} {v : V} {t : String} (e : Ex H H') (ty : TyX K H v (.type t)) : TyX K H' v (.type t) := by
  cases ty with
  | base b =>
    cases b with
    | non => exact .base .non
    | bl x => exact .base (.bl x)
    | int i => exact .base (.int i)
    | str x => exact .base (.str x)
    | flt x => exact .base (.flt x)
    | lst h => exact .base (.lst (e _ _ h))
    | frz h => exact .base (.frz (e _ _ h))
    | tup h => exact .base (.tup (e _ _ h))
    | dK h => exact .base (.dK (e _ _ h))
    | dT h => exact .base (.dT (e _ _ h))
  | byt b => exact .byt b
  | set h => exact .set (e _ _ h)
  | kList h c => exact .kList h c
  | kTuple h c => exact .kTuple h c
  | kDict h c => exact .kDict h c
  | fTuple h => exact .fTuple (e _ _ h)
  | fDict h => exact .fDict (e _ _ h)
theorem ty_sqt {K : PySem.W.Frag} {H : Hp} {a : Addr} {xs : List V} (h : SqT K H a xs) : TyX K H (.ref a) (.type "tuple") := by
  rcases h with (h | ⟨o, h⟩) | ⟨o, its, n, hk, hc, _⟩
  · exact .base (.tup h)
  · exact .fTuple h
  · exact .kTuple hk hc
def risingL (ns : List Int) : Bool := (List.range (min ns.length (ns.drop 1).length)).all fun i => decide (ns.getD i 0 < (ns.drop 1).getD i 0)
def curve2 : V → V → Bool
  | .int m, .int d => decide (1 ≤ d) && decide (d ≤ 6) && (decide (d < m) && decide (m ≤ 9))
  | _, _ => false
def curveB : List V → Bool
  | [x, y] => curve2 x y
  | _ => false
def okC (m d : Int) : Prop := 1 ≤ d ∧ d ≤ 6 ∧ d < m ∧ m ≤ 9
theorem cut1 (xs : List V) : cutV xs (some 1) none = xs.drop 1 := by
  unfold cutV
  rw [show HT.sIx xs.length 0 (some 1) = min 1 xs.length from HT.sIx_nat xs.length 0 1, HT.sIx_none]
  cases xs with
  | nil => rfl
  | cons x r =>
    rw [show min 1 (x :: r).length = 1 by rw [List.length_cons]; omega]
    show List.take ((x :: r).length - 1) r = r
    rw [List.length_cons, Nat.add_sub_cancel, List.take_length]
section
variable {P : Program} {w : World} {K : PySem.W.Frag} {mg : Str → Option Value} {base : Heap}
/-- what a thing is handed in as: its type, its items' types where it is a tuple -/
def Typed (K : PySem.W.Frag) (H : Hp) (v : V) : Prop := ∃ t, t ∈ tyNames ∧ TyX K H v (.type t)
theorem Typed.ex {H H' : Hp} {v : V} (e : Ex H H') (h : Typed K H v) : Typed K H' v := by
  obtain ⟨t, ht, h⟩ := h
  exact ⟨t, ht, tyx_ex e h⟩
theorem typed_int {H : Hp} {i : Int} : Typed K H (.int i) := ⟨"int", by decide, .base (.int i)⟩
theorem ev_wholeT {σ : L2.St} {H : Hp} {te : TE} {v : V} {E : XK} (h : Ev te σ H v) (ht : Typed K H v) : ∃ b, (b = true ↔ ∃ i, v = .int i) ∧ Ev (tCall (spWhole K) [] E (tCons te tNil)) σ H (.bl b) := by
  obtain ⟨t, h1, h2⟩ := ht
  refine ⟨t == "int", ⟨fun e => ty_int_inv h2 (eq_of_beq e), fun e => ?_⟩, ev_whole h h1 fun H1 e => tyx_ex e h2⟩
  obtain ⟨i, rfl⟩ := e
  rw [ty_of_int h2]
  rfl
end
section
variable {P : Program} {w : World} {K : PySem.W.Frag} {mg : Str → Option Value} {base : Heap}
/-! is_curve -/
def ThC (K : PySem.W.Frag) (H : Hp) (v : V) (b : Bool) : Prop := (∃ t, t ∈ tyNames ∧ t ≠ "tuple" ∧ TyX K H v (.type t) ∧ b = false) ∨ ∃ a xs, v = .ref a ∧ SqT K H a xs ∧ (∀ y ∈ xs, Typed K H y) ∧ b = curveB xs
def spIsC (K : PySem.W.Frag) : Sp := fun vs H Q _ => ∃ (v : V) (b : Bool), vs = [v] ∧ ThC K H v b ∧ ∀ H2, Ex H H2 → Q (.bl b) H2
def tupGood : Bool := tyNames.all fun t => decide (kitB t "tuple" = some (t == "tuple"))
theorem tup_good : tupGood = true := by decide +kernel
theorem ty_tup {t : String} (h : t ∈ tyNames) : kitB t "tuple" = some (t == "tuple") := of_decide_eq_true (List.all_eq_true.mp tup_good t h)
theorem okk_is_curve {f fw : Addr} {fd fdw : FuncData} {k : Nat} {t1 t2 : Tok} (D : Df K mg "is_curve" s_is_curve ["thing"] f fd) (D_is_whole : Df K mg "is_whole" s_is_whole ["thing"] fw fdw) (B : Bt mg) (c_MOST_DEEP : mg "MOST_DEEP" = some (.int 6 t1)) (c_MOST_CORNERS : mg "MOST_CORNERS" = some (.int 9 t2)) : FnOk P w K mg base CX0 (k + 2) f fd ["thing"] (spIsC K) := by
  have G_is_whole : FnOk P w K mg base CX0 (k + 1) fw fdw ["thing"] (spWhole K) := okk_is_whole D_is_whole B
  refine D.F.ok sc_is_curve (fun vs H Q E h => ?_) (fun cdv A outer s H vs Q E hr h => ?_)
  · obtain ⟨a, ns, rfl, _⟩ := h
    rfl
  · obtain ⟨v, b, rfl, hv, q⟩ := h
    refine ⟨_, (pss_cons (ps_if (PW.pt (pw_or (pt_not (pt_val (pe_callB (show CallR _ _ (rIsi K) from call_isi) (by rfl) B.isinstance_ (by decide +kernel) (pa_cons (pv 0) (pa_cons (pe_bltn (v := .ty "tuple") (by rfl) B.tuple_ (by decide +kernel) rfl) pa_nil))))) (pw_or1 (pt_cmpR op_ne (pe_callB (show CallR _ _ (rLenS K) from call_len_seq) (by rfl) B.len_ (by decide +kernel) (pa_cons (pv 0) pa_nil)) pe_int (nomark _)))))   (pss_one (ps_ret pe_bl))   pss_nil)  (pss_cons (ps_asg (pv 0) (pg_tup (by rfl) (pgs_cons (pg_name (i := 1) sc_is_curve.nd rfl (.inl rfl)) (pgs_cons (pg_name (i := 2) sc_is_curve.nd rfl (.inl rfl)) pgs_nil))))  (pss_cons (ps_if (PW.pt (pw_or (pt_not (pt_val (pe_call G_is_whole (hr.mono (by omega)) (by rfl) D_is_whole.g D_is_whole.F.kp D_is_whole.b .nil pass0 (pa_cons (pv 1) pa_nil)))) (pw_or1 (pt_not (pt_val (pe_call G_is_whole (hr.mono (by omega)) (by rfl) D_is_whole.g D_is_whole.F.kp D_is_whole.b .nil pass0 (pa_cons (pv 2) pa_nil)))))))   (pss_one (ps_ret pe_bl))   pss_nil)  (pss_one (ps_ret (pe_and (pe_chain op_le op_le pe_int (pv 2) (pe_glob (v := .int 6) rfl c_MOST_DEEP ⟨_, rfl⟩)) (pe_one (pe_chain op_lt op_le (pv 2) (pv 1) (pe_glob (v := .int 9) rfl c_MOST_CORNERS ⟨_, rfl⟩))))))))), ?_⟩
    rcases hv with ⟨t, ht, hnt, ty, rfl⟩ | ⟨a, xs, rfl, hS, hty, rfl⟩
    · have e0 : (t == "tuple") = false := beq_eq_false_iff_ne.mpr hnt
      refine q_when (b := true) (fun H1 e1 Q' q' => ?_) (fun _ H1 e1 => s_ret ev_c fun H2 e2 => q H2 (e1.trans e2)) (fun hb => by cases hb)
      refine (et_not (et_B (ev_isi (K := K) (ev_var rfl) ev_c (fun H2 e2 => tyx_ex e2 ty) (ty_tup ht)))) H1 e1 _ fun H2 e2 => ?_
      rw [e0]
      exact iteT (q' H2 e2)
    · by_cases h2 : xs.length = 2
      · obtain ⟨x, y, rfl⟩ : ∃ x y, xs = [x, y] := by
          match xs, h2 with
          | [x, y], _ => exact ⟨x, y, rfl⟩
        refine q_when (b := false) (et_is (et_or (et_not (et_B (ev_isi (K := K) (ev_var rfl) ev_c (fun H2 e2 => tyx_ex e2 (ty_sqt hS)) (ty_tup (t := "tuple") (by decide))))) (fun _ => et_test (ev_op (fun H1 e1 Q' q' => ⟨_, rfl, a, [x, y], rfl, .inr (ex_t e1 hS), q' H1 (Ex.refl H1)⟩) ev_c (rv_ne rfl)))) rfl) (fun hb => by cases hb) (fun _ H1 e1 => ?_)
        refine ⟨_, rfl, a, [x, y], rfl, ex_t e1 hS, rfl, _, _, rfl, _, _, rfl, rfl, ?_⟩
        obtain ⟨b1, hb1, w1⟩ := ev_wholeT (K := K) (σ := [some (.ref a), some x, some y]) (te := tVar 1) (E := E0) (ev_var rfl) ((hty x (by simp)).ex e1)
        obtain ⟨b2, hb2, w2⟩ := ev_wholeT (K := K) (σ := [some (.ref a), some x, some y]) (te := tVar 2) (E := E0) (ev_var rfl) ((hty y (by simp)).ex e1)
        refine q_when (et_or (et_not (et_B w1)) (fun _ => et_not (et_B w2))) (fun hb H2 e2 => ?_) (fun hb H2 e2 => ?_)
        · refine s_ret ev_c fun H3 e3 => ?_
          have hc : curveB [x, y] = false := by
            show curve2 x y = false
            cases x with
            | int i =>
              cases y with
              | int j =>
                rw [hb1.mpr ⟨i, rfl⟩, hb2.mpr ⟨j, rfl⟩] at hb
                cases hb
              | _ => rfl
            | _ => rfl
          rw [hc] at q
          exact q H3 ((e1.trans e2).trans e3)
        · have hb3 : b1 = true ∧ b2 = true := by
            cases b1 <;> cases b2 <;> first | exact ⟨rfl, rfl⟩ | cases hb
          obtain ⟨i, rfl⟩ := hb1.mp hb3.1
          obtain ⟨j, rfl⟩ := hb2.mp hb3.2
          refine s_ret (ev_andV (ev_chain ev_c (ev_var rfl) ev_c rv_I0 rv_I0) (fun _ => ev_chain (ev_var rfl) (ev_var rfl) ev_c rv_I0 rv_I0)) fun H3 e3 => ?_
          exact q H3 ((e1.trans e2).trans e3)
      · have hc : curveB xs = false := by
          match xs with
          | [] => rfl
          | [_] => rfl
          | [_, _] => exact absurd rfl h2
          | _ :: _ :: _ :: _ => rfl
        rw [hc] at q
        refine q_when (b := true) (et_is (et_or (et_not (et_B (ev_isi (K := K) (ev_var rfl) ev_c (fun H2 e2 => tyx_ex e2 (ty_sqt hS)) (ty_tup (t := "tuple") (by decide))))) (fun _ => et_test (ev_op (fun H1 e1 Q' q' => ⟨_, rfl, a, xs, rfl, .inr (ex_t e1 hS), q' H1 (Ex.refl H1)⟩) ev_c (rv_ne rfl)))) ?_) (fun _ H1 e1 => s_ret ev_c fun H2 e2 => q H2 (e1.trans e2)) (fun hb => by cases hb)
        rw [dec_int, decide_eq_false (show ¬ ((xs.length : Int) = 2) by omega)]
        rfl
end
section
variable {P : Program} {w : World} {K : PySem.W.Frag} {mg : Str → Option Value} {base : Heap}
/-! need_curve, of curves -/
def spNeedC (K : PySem.W.Frag) : Sp := fun vs H Q _ => ∃ (m d : Int), DtAll K H vs [curveD m d] ∧ okC m d ∧ ∀ H2, Ex H H2 → Q .non H2
theorem dt_curve {H : Hp} {v : V} {m d : Int} (h : Dt K H v (curveD m d)) : ∃ a, v = .ref a ∧ SqT K H a [.int m, .int d] := by
  cases h with
  | tup hs hx =>
    cases hx with
    | cons h1 h2 =>
      cases h1
      cases h2 with
      | cons h3 h4 =>
        cases h3
        cases h4
        exact ⟨_, rfl, hs⟩
theorem curveB_ok {m d : Int} (h : okC m d) : curveB [.int m, .int d] = true := by
  obtain ⟨h1, h2, h3, h4⟩ := h
  show (decide (1 ≤ d) && decide (d ≤ 6) && (decide (d < m) && decide (m ≤ 9))) = true
  rw [decide_eq_true h1, decide_eq_true h2, decide_eq_true h3, decide_eq_true h4]
  rfl
theorem okk_need_curve {f fc fw : Addr} {fd fdc fdw : FuncData} {k : Nat} {t1 t2 : Tok} (D : Df K mg "need_curve" s_need_curve ["curve"] f fd) (D_is_curve : Df K mg "is_curve" s_is_curve ["thing"] fc fdc) (D_is_whole : Df K mg "is_whole" s_is_whole ["thing"] fw fdw) (B : Bt mg) (c_MOST_DEEP : mg "MOST_DEEP" = some (.int 6 t1)) (c_MOST_CORNERS : mg "MOST_CORNERS" = some (.int 9 t2)) : FnOk P w K mg base CX0 (k + 3) f fd ["curve"] (spNeedC K) := by
  have G_is_curve : FnOk P w K mg base CX0 (k + 2) fc fdc ["thing"] (spIsC K) := okk_is_curve D_is_curve D_is_whole B c_MOST_DEEP c_MOST_CORNERS
  refine D.F.ok sc_need_curve (fun vs H Q E h => ?_) (fun cdv A outer s H vs Q E hr h => ?_)
  · obtain ⟨m, d, h, _⟩ := h
    rw [dta_len h]
    rfl
  · obtain ⟨m, d, h, hc, q⟩ := h
    cases h with
    | cons h1 h2 =>
    cases h2
    obtain ⟨a, rfl, hS⟩ := dt_curve h1
    refine ⟨_, (pss_one (ps_if (pt_not (pt_val (pe_call G_is_curve (hr.mono (by omega)) (by rfl) D_is_curve.g D_is_curve.F.kp D_is_curve.b .nil pass0 (pa_cons (pv 0) pa_nil))))   (pss_one ps_never)   pss_nil)), ?_⟩
    refine s_when (b := false) (et_not (et_B (b := true) (fun H1 e1 Q' q' => ⟨_, rfl, _, _, rfl, .inr ⟨a, _, rfl, ex_t e1 hS, ?_, (curveB_ok hc).symm⟩, fun H2 e2 => q' H2 e2⟩))) (fun hb => by cases hb) (fun _ H1 e1 => q H1 e1)
    intro y hy
    rcases List.mem_cons.mp hy with rfl | hy
    · exact typed_int
    rcases List.mem_cons.mp hy with rfl | hy
    · exact typed_int
    · cases hy
theorem ev_needC {σ : L2.St} {H : Hp} {te : TE} {m d : Int} {E : XK} (h : EvD K te σ H (curveD m d)) (hc : okC m d) : Ev (tCall (spNeedC K) [] E (tCons te tNil)) σ H .non := fun H1 e Q q =>
  h H1 e _ fun v H2 e2 hv => ⟨m, d, .cons hv .nil, hc, fun H3 e3 => q H3 (e2.trans e3)⟩
end
/-! ### all curves -/
def curvesAll : List (Int × Int) := (List.range 6).flatMap fun i => (List.range (8 - i)).map fun (j : Nat) => ((i : Int) + 2 + (j : Int), (i : Int) + 1)
theorem curve_mem {m d : Int} (h : okC m d) : (m, d) ∈ curvesAll := by
  obtain ⟨h1, h2, h3, h4⟩ := h
  refine List.mem_flatMap.mpr ⟨(d - 1).toNat, List.mem_range.mpr (by omega), List.mem_map.mpr ⟨(m - d - 1).toNat, List.mem_range.mpr (by omega), ?_⟩⟩
  refine Prod.ext ?_ ?_
  · show ((d - 1).toNat : Int) + 2 + ((m - d - 1).toNat : Int) = m
    omega
  · show ((d - 1).toNat : Int) + 1 = d
    omega
theorem curve_all {f : Int × Int → Bool} (h : curvesAll.all f = true) {m d : Int} (hc : okC m d) : f (m, d) = true := List.all_eq_true.mp h _ (curve_mem hc)
/-! ### a comprehension of two clauses: a list's items, for each a range -/
section
variable {K : PySem.W.Frag} {σ : L2.St} {H : Hp} {te tl : TE} {ds : List PyData}
theorem tyes_go {F G : Hp → Prop} (h : F H) : tYes σ H fun b H3 => if b = true then F H3 else G H3 := by
  show (if true = true then F H else G H)
  exact iteT h
theorem ef_lc2 {a : Addr} {xs : List V} {ta : TA} {j j1 : Nat} {vs vs1 : List Nat} (lo : PyData → Int) (hi : Int) (g : PyData → Int → PyData) (h : Ev tl σ H (.ref a)) (hx : SqL K H a xs) (hd : DtAll K H xs ds) (hz : (ds.flatMap fun d => (upTo (lo d) hi).map (g d)).length < 50000)
    (hw : ∀ x, wipe ((wipe σ vs).set j (some x)) vs = wipe σ vs) (hw1 : ∀ x y, wipe ((wipe ((wipe σ vs).set j (some x)) vs1).set j1 (some y)) vs1 = wipe ((wipe σ vs).set j (some x)) vs1)
    (hb : ∀ d ∈ ds, -10000 ≤ lo d ∧ lo d ≤ 10000 ∧ -10000 ≤ hi ∧ hi ≤ 10000)
    (ha : ∀ (d : PyData) (x : V) H1, Ex H H1 → d ∈ ds → Dt K H1 x d → EvA ta ((wipe σ vs).set j (some x)) H1 [.int (lo d), .int hi])
    (he : ∀ (d : PyData) (x : V) (i : Int) H1, Ex H H1 → d ∈ ds → Dt K H1 x d → EvD K te ((wipe ((wipe σ vs).set j (some x)) vs1).set j1 (some (.int i))) H1 (g d i)) :
    EvF K (tLc2 (iList K tl) (gName j) tYes (iRng2 ta) (gName j1) tYes te vs vs1) σ H (ds.flatMap fun d => (upTo (lo d) hi).map (g d)) := fun H0 e Q q => h H0 e _ fun H1 e1 => by
  have e01 := e.trans e1
  refine ⟨a, rfl, ⟨xs, ex_l e01 hx⟩, fun Dl hD => ⟨fun i n H' => n = xs.length - i ∧ i ≤ xs.length ∧ Cd K H1 Dl ((ds.take i).flatMap fun d => (upTo (lo d) hi).map (g d)) H', ⟨xs.length, by simp, Nat.zero_le _, hD, Ex.new hD, [], upd_same, .nil⟩, ?_⟩⟩
  rintro i n H' ⟨rfl, hile, hC⟩
  have hq : SqL K H' a xs := ex_l (e01.trans hC.2.1) hx
  by_cases hlt : i < xs.length
  · refine .inr ⟨⟨xs, xs[i], hq, by simp [hlt]⟩, fun H'' => Cd K H1 Dl ((ds.take (i + 1)).flatMap fun d => (upTo (lo d) hi).map (g d)) H'', fun H'' p => ⟨xs.length - (i + 1), by omega, rfl, hlt, p⟩, fun x H'' y => ?_⟩
    obtain ⟨e2, y⟩ := y
    subst e2
    have hxi := y xs hq
    obtain ⟨d, hd1, hd2⟩ := dta_get (dta_ex (e01.trans hC.2.1) hd) hxi
    have hdm := List.mem_of_getElem? hd1
    have hbd := hb d hdm
    have hext : ((ds.take (i + 1)).flatMap fun d => (upTo (lo d) hi).map (g d)) = ((ds.take i).flatMap fun d => (upTo (lo d) hi).map (g d)) ++ (upTo (lo d) hi).map (g d) := flat_succ hd1
    have hbig : ((ds.take (i + 1)).flatMap fun d => (upTo (lo d) hi).map (g d)).length < 50000 := Nat.lt_of_le_of_lt (flat_take _ _ _) hz
    rw [hext] at hbig
    rw [hext]
    refine ⟨hw x, tyes_go ?_⟩
    refine (ha d x H'' (e01.trans hC.2.1) hdm hd2) H'' (Ex.refl _) _ fun H4 e4 => ⟨lo d, hi, rfl, ⟨by omega, by omega, by omega, by omega⟩, fun k n H5 => n = (hi - lo d).toNat - k ∧ k ≤ (hi - lo d).toNat ∧ Cd K H1 Dl (((ds.take i).flatMap fun d => (upTo (lo d) hi).map (g d)) ++ ((upTo (lo d) hi).take k).map (g d)) H5, ⟨_, rfl, Nat.zero_le _, ?_⟩, ?_⟩
    · obtain ⟨p1, p2, acc, p3, p4⟩ := hC
      exact ⟨p1, p2.trans e4, acc, e4 _ _ p3, by rw [List.take_zero, List.map_nil, List.append_nil]; exact dta_ex e4 p4⟩
    · rintro k n H5 ⟨rfl, hkle, hC5⟩
      by_cases hk : k < (hi - lo d).toNat
      · refine .inr ⟨hk, fun H6 => Cd K H1 Dl (((ds.take i).flatMap fun d => (upTo (lo d) hi).map (g d)) ++ ((upTo (lo d) hi).take (k + 1)).map (g d)) H6, fun H6 p => ⟨(hi - lo d).toNat - (k + 1), by omega, rfl, hk, p⟩, fun y H6 hy => ?_⟩
        obtain ⟨e6, hy⟩ := hy
        subst e6
        subst hy
        obtain ⟨p1, p2, acc, p3, p4⟩ := hC5
        have hd5 := (dta_get (dta_ex (e01.trans p2) hd) hxi)
        obtain ⟨d', hd1', hd2'⟩ := hd5
        rw [hd1] at hd1'
        cases hd1'
        refine ⟨hw1 x _, tyes_go ?_⟩
        refine (he d x _ H6 (e01.trans p2) hdm hd2') H6 (Ex.refl _) _ fun v H7 e7 hv => ⟨acc, e7 _ _ p3, sz_lt ?_, p1, Ex.mut (p2.trans e7) p1, _, upd_same, ?_⟩
        · rw [dta_len p4, List.length_append, List.length_map, List.length_take]
          rw [List.length_append, List.length_map] at hbig
          have := Nat.min_le_right k (upTo (lo d) hi).length
          omega
        · rw [List.take_add_one, upTo_get hk, List.map_append, ← List.append_assoc]
          exact dta_tx (tx_lst (e7 _ _ p3)) (dta_app (dta_ex e7 p4) (dta_one hv))
      · have ek : k = (hi - lo d).toNat := by omega
        subst ek
        refine .inl ⟨Nat.le_refl _, ?_⟩
        rw [List.take_of_length_le (l := upTo (lo d) hi) (by rw [upTo_len]; exact Nat.le_refl _)] at hC5
        exact hC5
  · have ei : i = xs.length := by omega
    subst ei
    obtain ⟨p1, p2, acc, p3, p4⟩ := hC
    rw [List.take_of_length_le (by rw [dta_len hd]; exact Nat.le_refl _)] at p4
    exact .inl ⟨⟨xs, hq, Nat.le_refl _⟩, q Dl acc H' (fresh_back e1 p1) (e1.trans p2) p3 p4⟩
end
section
variable {P : Program} {w : World} {K : PySem.W.Frag} {mg : Str → Option Value} {base : Heap}
/-! the law's curve -/
def spCurve (K : PySem.W.Frag) : Sp := fun vs H Q _ => ∃ b, vs = [.ref b] ∧ BoxAt H b ∧ ∀ v m d H2, okC m d → Dt K H2 v (curveD m d) → BoxAt H2 b → Bk b H H2 → Q v H2
theorem okk_curve {f ft fm : Addr} {fd fdt fdm : FuncData} {k : Nat} (D : Df K mg "_law_curve" s__law_curve ["_law_box_here"] f fd) (D__law_take : Df K mg "_law_take" s__law_take ["_law_box_here", "_law_wide"] ft fdt) (D__law_more : Df K mg "_law_more" s__law_more ["_law_box_here"] fm fdm) (B : Bt mg) : FnOk P w K mg base CX0 (k + 3) f fd ["_law_box_here"] (spCurve K) := by
  have G__law_take : FnOk P w K mg base CX0 (k + 2) ft fdt ["_law_box_here", "_law_wide"] spTake := okk_take D__law_take D__law_more B
  refine D.F.ok sc__law_curve (fun vs H Q E h => ?_) (fun cdv A outer s H vs Q E hr h => ?_)
  · obtain ⟨b, rfl, _⟩ := h
    rfl
  · obtain ⟨b, rfl, hb, q⟩ := h
    refine ⟨_, (pss_cons (ps_set (i := 1) sc__law_curve.nd rfl (.inl rfl) (pe_op op_add pe_int (pe_call G__law_take (hr.mono (by omega)) (by rfl) D__law_take.g D__law_take.F.kp D__law_take.b .nil pass0 (pa_cons (pv 0) (pa_cons pe_int pa_nil)))))  (pss_one (ps_ret (pe_tup (pa_cons (pe_op op_add (pe_op op_add (pv 1) pe_int) (pe_call G__law_take (hr.mono (by omega)) (by rfl) D__law_take.g D__law_take.F.kp D__law_take.b .nil pass0 (pa_cons (pv 0) (pa_cons (pe_op op_sub pe_int (pv 1)) pa_nil)))) (pa_cons (pv 1) pa_nil)))))), ?_⟩
    refine q_asgK (K := K) (b := b) (ek_opI (f := fun i j => i + j) ev_c fun H1 e1 => ek_take rfl (hb.ex e1) ev_c (by decide) (by decide)) fun v d H1 hp hv hb1 x1 => ?_
    obtain ⟨r, rfl, r0, r1⟩ := hp
    cases hv
    refine (ek_opI (K := K) (b := b) (f := fun i j => i + j) (σ := [some (.ref b), some (.int (1 + r))]) (H := H1) (ta := tOp (rI0 fun i j => .int (i + j)) (tVar 1) (tC (.int 1))) (ev_op (ev_var rfl) ev_c rv_I0) fun H2 e2 => ek_take (wd := 9 - (1 + r)) rfl (hb1.ex e2) (ev_op ev_c (ev_var rfl) rv_I0) (by omega) (by omega)) _ fun v d H2 hp hv hb2 x2 => ?_
    obtain ⟨r', rfl, r0', r1'⟩ := hp
    cases hv
    refine ⟨_, rfl, sz_of (by show 2 ≤ 100000; decide), fun p hp => ?_⟩
    have e3 : Ex H2 (upd H2 p (.tup [.int (1 + r + 1 + r'), .int (1 + r)])) := Ex.new hp
    exact q _ (1 + r + 1 + r') (1 + r) _ ⟨by omega, by omega, by omega, by omega⟩ (.tup (st_of upd_same) (.cons (.int _) (.cons (.int _) .nil))) (hb2.ex e3) ((x1.trans x2).trans (bk_ex e3))
theorem q_curve {D : Ends} {tz : TS} {σ : L2.St} {H : Hp} {i j : Nat} {b : Addr} {E : XK} (hj : σ[j]? = some (some (.ref b))) (hb : BoxAt H b) (k : ∀ v m d H2, okC m d → Dt K H2 v (curveD m d) → BoxAt H2 b → Bk b H H2 → tz D (σ.set i (some v)) H2) : tSeq (tAsg (tCall (spCurve K) [] E (tCons (tVar j) tNil)) (gName i)) tz D σ H :=
  ⟨_, hj, b, rfl, hb, k⟩
end
theorem ef_of_el {K : PySem.W.Frag} {σ : L2.St} {H : Hp} {te : TE} {xs : List V} {ds : List PyData} (h : EvL te σ H xs) (hd : DtAll K H xs ds) : EvF K te σ H ds := fun H1 e Q q => h H1 e Q fun p H2 np e2 hp => q p xs H2 np e2 hp (dta_ex (e.trans e2) hd)
theorem cut_last (xs : List V) (x : V) : cutV (xs ++ [x]) none (some (-1)) = xs := by
  unfold cutV
  rw [HT.sIx_none]
  have e : HT.sIx (xs ++ [x]).length (xs ++ [x]).length (some (-1)) = xs.length := by
    unfold HT.sIx
    simp
    omega
  rw [e]
  simp
theorem ints_lay : ∀ l : List Int, PyData.canLayAll0 (l.map PyData.int) = true
  | [] => rfl
  | i :: l => by
    show (PyData.canLay0 (.int i) && PyData.canLayAll0 (l.map PyData.int)) = true
    rw [ints_lay l]
    rfl
theorem lots_lay : ∀ ls : List (List Int), PyData.canLayAll0 (ls.map lotD) = true
  | [] => rfl
  | l :: ls => by
    show (PyData.canLayAll0 (l.map PyData.int) && PyData.canLayAll0 (ls.map lotD)) = true
    rw [ints_lay l, lots_lay ls]
    rfl
theorem ints_deep : ∀ l : List Int, PyData.depthAll (l.map PyData.int) = 0
  | [] => rfl
  | i :: l => by
    show max (PyData.depth (.int i)) (PyData.depthAll (l.map PyData.int)) = 0
    rw [ints_deep l]
    rfl
theorem lots_deep : ∀ ls : List (List Int), PyData.depthAll (ls.map lotD) ≤ 1
  | [] => Nat.zero_le _
  | l :: ls => by
    show max (PyData.depthAll (l.map PyData.int) + 1) (PyData.depthAll (ls.map lotD)) ≤ 1
    rw [ints_deep l]
    exact Nat.max_le.mpr ⟨Nat.le_refl _, lots_deep ls⟩
theorem lots_shaped (ls : List (List Int)) : SeqAt.shaped (.list (ls.map lotD)) = true := by
  show (PyData.canLayAll0 (ls.map lotD) && decide (PyData.depthAll (ls.map lotD) + 1 ≤ 64)) = true
  rw [lots_lay ls, decide_eq_true (by have := lots_deep ls; omega)]
  rfl
theorem eqv_ints : ∀ l : List Int, PyData.eqvAll (l.map PyData.int) (l.map PyData.int) = true
  | [] => rfl
  | i :: l => by
    show ((i == i) && PyData.eqvAll (l.map PyData.int) (l.map PyData.int)) = true
    rw [eqv_ints l, beq_self_eq_true]
    rfl
theorem eqv_lots : ∀ ls : List (List Int), PyData.eqvAll (ls.map lotD) (ls.map lotD) = true
  | [] => rfl
  | l :: ls => by
    show (PyData.eqvAll (l.map PyData.int) (l.map PyData.int) && PyData.eqvAll (ls.map lotD) (ls.map lotD)) = true
    rw [eqv_ints l, eqv_lots ls]
    rfl
theorem eqv_lotsL (ls : List (List Int)) : PyData.eqv (.list (ls.map lotD)) (.list (ls.map lotD)) = true := eqv_lots ls
theorem ints_shaped (l : List Int) : SeqAt.shaped (.list (l.map PyData.int)) = true := by
  show (PyData.canLayAll0 (l.map PyData.int) && decide (PyData.depthAll (l.map PyData.int) + 1 ≤ 64)) = true
  rw [ints_lay l, ints_deep l]
  rfl
theorem lot_shaped (l : List Int) : SeqAt.shaped (lotD l) = true := by
  show (PyData.canLayAll0 (l.map PyData.int) && decide (PyData.depthAll (l.map PyData.int) + 1 ≤ 64)) = true
  rw [ints_lay l, ints_deep l]
  rfl
theorem eqv_nil (ds : List PyData) : PyData.eqv (.list ds) (.list []) = ds.isEmpty := by
  cases ds <;> rfl
theorem eqv_ints2 : ∀ a b : List Int, PyData.eqvAll (a.map PyData.int) (b.map PyData.int) = decide (a = b)
  | [], [] => rfl
  | [], _ :: _ => rfl
  | _ :: _, [] => rfl
  | x :: a, y :: b => by
    show ((x == y) && PyData.eqvAll (a.map PyData.int) (b.map PyData.int)) = decide (x :: a = y :: b)
    rw [eqv_ints2 a b]
    by_cases h1 : x = y
    · subst h1
      by_cases h2 : a = b
      · subst h2
        simp
      · simp [h2]
    · simp [h1]
theorem eqv_lot (a b : List Int) : PyData.eqv (lotD a) (lotD b) = decide (a = b) := eqv_ints2 a b
theorem any_lot (ls : List (List Int)) (l : List Int) : (ls.map lotD).any (fun z => PyData.eqv z (lotD l)) = ls.any (fun z => decide (z = l)) := by
  rw [List.any_map]
  congr 1
  funext z
  exact eqv_lot z l
def hasL (p l : List Int) : Bool := (l.filter fun c => !p.contains c).isEmpty
section
variable {P : Program} {w : World} {K : PySem.W.Frag} {mg : Str → Option Value} {base : Heap}
def spHas (K : PySem.W.Frag) : Sp := fun vs H Q _ => ∃ (p l : List Int), DtAll K H vs [lotD p, lotD l] ∧ l.length ≤ 1000 ∧ ∀ H2, Ex H H2 → Q (.bl (hasL p l)) H2
theorem okk_has {f : Addr} {fd : FuncData} {k : Nat} (D : Df K mg "_law_has" s__law_has ["_law_pane", "_law_lot"] f fd) (B : Bt mg) : FnOk P w K mg base CX0 (k + 1) f fd ["_law_pane", "_law_lot"] (spHas K) := by
  refine D.F.ok sc__law_has (fun vs H Q E h => ?_) (fun cdv A outer s H vs Q E hr h => ?_)
  · obtain ⟨p, l, h, _⟩ := h
    rw [dta_len h]
    rfl
  · obtain ⟨p, l, h, hl, q⟩ := h
    cases h with
    | cons h1 h2 =>
    cases h2 with
    | cons h2 h3 =>
    cases h3
    obtain ⟨pa, rfl, hpa⟩ := dt_lot h1
    refine ⟨_, (pss_one (ps_ret (pe_cmpR (show OpR _ _ (rEqD K) from op_eqD hr.units) (pe_lc (own := [("_law_corner", 2)]) rfl sc__law_has.nd (pi_tup (pv 1)) (blkOk_by (own := [("_law_corner", 2)]) (N := N__law_has) (sc := defScope s__law_has) (by decide +kernel)) (fun _ _ _ _ _ => (pg_name (i := 2) sc__law_has.nd rfl (.inl rfl))) (fun _ _ _ _ _ => pts_one (pt_cmpR (show OpR _ _ (rIn K true) from op_notIn_seq) (pv 2) (pv 0) (by rfl))) (fun _ _ _ _ _ => (pv 2))) (pe_lst pa_nil) (nomark _)))), ?_⟩
    refine s_ret (v := .bl (hasL p l)) (ev_is (ev_eqFF (K := K) (ds := (l.filter fun c => !p.contains c).map PyData.int) (es := []) (ef_is (ef_lcT (ds := l.map PyData.int) (fun d => !p.contains (unint d)) (fun d => d) (ed_var rfl h2) (by rw [List.length_map]; omega) (fun _ => rfl) (fun d x H1 e1 hm hd => ?_) (fun d x H1 e1 hm hd _ => ed_var rfl hd)) (filt_ints fun _ => rfl)) (ef_lst eb_nil (by decide)) (ints_shaped _) (by decide +kernel)) ?_) fun H1 e1 => q H1 e1
    · obtain ⟨c, _, rfl⟩ := mem_ints hm
      cases hd
      refine et_is (et_test (ev_op (ev_var rfl) (ev_var rfl) (rv_niT (ex_t e1 hpa) rfl (flat_ints p)))) ?_
      rw [inV_ints]
      rfl
    · rw [eqv_nil]
      unfold hasL
      cases (l.filter fun c => !p.contains c) <;> rfl
theorem ev_has {σ : L2.St} {H : Hp} {ta tb : TE} {p l : List Int} {E : XK} (ha : EvD K ta σ H (lotD p)) (hb : EvD K tb σ H (lotD l)) (hl : l.length ≤ 1000) : Ev (tCall (spHas K) [] E (tCons ta (tCons tb tNil))) σ H (.bl (hasL p l)) := fun H1 e Q q =>
  (eb_cons ha (eb_cons hb eb_nil)) H1 e _ fun vs H2 e2 hvs => ⟨p, l, (by show DtAll K H2 (vs ++ []) _; rw [List.append_nil]; exact hvs), hl, fun H3 e3 => q H3 (e2.trans e3)⟩
end
section
variable {P : Program} {w : World} {K : PySem.W.Frag} {mg : Str → Option Value} {base : Heap}
theorem rv_inD {H : Hp} {x : V} {a : Addr} {xs : List V} {l : List Int} {ls : List (List Int)} (hx : Dt K H x (lotD l)) (hs : SqL K H a xs) (hd : DtAll K H xs (ls.map lotD)) : RV (rInD K) x (.ref a) H (.bl (ls.any fun z => decide (z = l))) := fun H1 e Q q =>
  ⟨lotD l, ls.map lotD, dt_dp (dt_ex e hx), .lst (ex_l e hs) (dta_dp (dta_ex e hd)), lot_shaped l, lots_shaped ls, by rw [any_lot]; exact q H1 (Ex.refl H1)⟩
end
/-! ### the defs of the text, by All -/
section
variable {P : Program} {w : World} {K : PySem.W.Frag} {mg : Str → Option Value} {base : Heap}
theorem ok_is_whole (L : All K mg) {k : Nat} : FnOk P w K mg base CX0 (k + 1) L.f_is_whole L.fd_is_whole ["thing"] (spWhole K) := okk_is_whole L.D_is_whole L.B
theorem ok_is_curve (L : All K mg) {k : Nat} : FnOk P w K mg base CX0 (k + 2) L.f_is_curve L.fd_is_curve ["thing"] (spIsC K) := okk_is_curve L.D_is_curve L.D_is_whole L.B L.c_MOST_DEEP L.c_MOST_CORNERS
theorem ok_need_curve (L : All K mg) {k : Nat} : FnOk P w K mg base CX0 (k + 3) L.f_need_curve L.fd_need_curve ["curve"] (spNeedC K) := okk_need_curve L.D_need_curve L.D_is_curve L.D_is_whole L.B L.c_MOST_DEEP L.c_MOST_CORNERS
theorem ev_need_curve {σ : L2.St} {H : Hp} {ta : TA} {m d : Int} {E : XK} (h : EvB K ta σ H [curveD m d]) (hc : okC m d) : Ev (tCall (spNeedC K) [] E ta) σ H .non := fun H1 e Q q =>
  h H1 e _ fun vs H2 e2 hv => ⟨m, d, (by show DtAll K H2 (vs ++ []) _; rw [List.append_nil]; exact hv), hc, fun H3 e3 => q H3 (e2.trans e3)⟩
/-- many, deep = curve -/
theorem q_unC {σ : L2.St} {H : Hp} {v : V} {m d : Int} {s i j : Nat} {D : Ends} {tz : TS} (hv : σ[s]? = some (some v)) (h : Dt K H v (curveD m d)) (k : tz D ((σ.set i (some (.int m))).set j (some (.int d))) H) : tSeq (tAsg (tVar s) (gTup K 2 (gCons (gName i) (gCons (gName j) gNil)))) tz D σ H := by
  obtain ⟨a, rfl, hS⟩ := dt_curve h
  exact ⟨_, hv, a, _, rfl, hS, rfl, _, _, rfl, _, _, rfl, rfl, k⟩
theorem ok__law_box (L : All K mg) {k : Nat} : FnOk P w K mg base CX0 (k + 1) L.f__law_box L.fd__law_box ["_law_script", "_law_k"] (spBox K) := okk_box L.D__law_box L.B
theorem ok__law_more (L : All K mg) {k : Nat} : FnOk P w K mg base CX0 (k + 1) L.f__law_more L.fd__law_more ["_law_box_here"] spMore := okk_more L.D__law_more L.B
theorem ok__law_take (L : All K mg) {k : Nat} : FnOk P w K mg base CX0 (k + 2) L.f__law_take L.fd__law_take ["_law_box_here", "_law_wide"] spTake := okk_take L.D__law_take L.D__law_more L.B
theorem ok__law_curve (L : All K mg) {k : Nat} : FnOk P w K mg base CX0 (k + 3) L.f__law_curve L.fd__law_curve ["_law_box_here"] (spCurve K) := okk_curve L.D__law_curve L.D__law_take L.D__law_more L.B
theorem ok__law_lots (L : All K mg) {k : Nat} : FnOk P w K mg base CX0 (k + 1) L.f__law_lots L.fd__law_lots ["_law_many", "_law_size"] (spLots K) := okk_lots L.D__law_lots L.B
theorem ev__law_lots {σ : L2.St} {H : Hp} {ta : TA} {m s : Int} {E : XK} (h : EvB K ta σ H [.int m, .int s]) (hp : 0 ≤ m ∧ m < 10 ∧ 0 ≤ s ∧ s < 10) : EvF K (tCall (spLots K) [] E ta) σ H ((lotsL m s.toNat).map lotD) := fun H1 e Q q =>
  h H1 e _ fun vs H2 e2 ha => by
    obtain ⟨v0, v1, rfl, h0, h1⟩ := dta2 ha
    obtain rfl := dt_int h0
    obtain rfl := dt_int h1
    exact ⟨m, s, rfl, hp.1, hp.2.1, hp.2.2.1, hp.2.2.2, fun p xs H3 np e3 hp hx => q p xs H3 (fresh_back e2 np) (e2.trans e3) hp hx⟩
theorem ok__law_panes (L : All K mg) {k : Nat} : FnOk P w K mg base CX0 (k + 2) L.f__law_panes L.fd__law_panes ["_law_curve_here"] (spPanes K) := okk_panes L.D__law_panes L.D__law_lots L.D__law_is_pane L.B
theorem ev__law_panes {σ : L2.St} {H : Hp} {ta : TA} {m d : Int} {E : XK} (h : EvB K ta σ H [curveD m d]) (hc : okC m d) : EvF K (tCall (spPanes K) [] E ta) σ H ((panesL m d).map lotD) := fun H1 e Q q =>
  h H1 e _ fun vs H2 e2 hv => by
    obtain ⟨_, _, _, _⟩ := id hc
    exact ⟨m, d, (by show DtAll K H2 (vs ++ []) _; rw [List.append_nil]; exact hv), by omega, by omega, by omega, by omega, fun p xs H3 np e3 hp hx => q p xs H3 (fresh_back e2 np) (e2.trans e3) hp hx⟩
end
/-! ### lots of things -/
def scanV (m : Int) : Int → List V → Bool
  | _, [] => true
  | z, .int i :: r => (decide (z ≤ i) && decide (i < m)) && scanV m (i + 1) r
  | _, _ :: _ => false
def lotV (m : Int) (xs : List V) : Bool := scanV m 0 xs
def lotL (m : Int) (l : List Int) : Bool := lotV m (l.map V.int)
section
variable {P : Program} {w : World} {K : PySem.W.Frag} {mg : Str → Option Value} {base : Heap}
theorem typed_ints {H : Hp} {l : List Int} : ∀ y ∈ l.map V.int, Typed K H y := fun y hy => by
  obtain ⟨i, _, rfl⟩ := List.mem_map.mp hy
  exact typed_int
/-- a thing: no lot of so many corners, or the lot l -/
def ThL (K : PySem.W.Frag) (H : Hp) (v : V) (m : Int) : Option (List Int) → Prop
  | none => (∃ t, t ∈ tyNames ∧ t ≠ "tuple" ∧ TyX K H v (.type t)) ∨ ∃ a xs, v = .ref a ∧ SqT K H a xs ∧ (∀ y ∈ xs, Typed K H y) ∧ lotV m xs = false
  | some l => Dt K H v (lotD l) ∧ lotL m l = true
theorem ThL.ex {H H' : Hp} {v : V} {m : Int} : ∀ {r : Option (List Int)}, Ex H H' → ThL K H v m r → ThL K H' v m r
  | none, e, .inl ⟨t, h1, h2, h3⟩ => .inl ⟨t, h1, h2, tyx_ex e h3⟩
  | none, e, .inr ⟨a, xs, h1, h2, h3, h4⟩ => .inr ⟨a, xs, h1, ex_t e h2, fun y hy => (h3 y hy).ex e, h4⟩
  | some _, e, h => ⟨dt_ex e h.1, h.2⟩
def spLotOf (K : PySem.W.Frag) : Sp := fun vs H Q _ => ∃ (v : V) (m : Int) (r : Option (List Int)), vs = [v, .int m] ∧ ThL K H v m r ∧ ∀ H2, Ex H H2 → Q (.bl r.isSome) H2
theorem ev_lotOf {σ : L2.St} {H : Hp} {ta tb : TE} {v : V} {m : Int} {r : Option (List Int)} {E : XK} (ha : Ev ta σ H v) (hb : Ev tb σ H (.int m)) (hv : ThL K H v m r) : Ev (tCall (spLotOf K) [] E (tCons ta (tCons tb tNil))) σ H (.bl r.isSome) := fun H1 e Q q =>
  ha H1 e _ fun H2 e2 => hb H2 (e.trans e2) _ fun H3 e3 => ⟨v, m, r, rfl, hv.ex ((e.trans e2).trans e3), fun H4 e4 => q H4 ((e2.trans e3).trans e4)⟩
theorem ok_is_lot_of (L : All K mg) {k : Nat} : FnOk P w K mg base CX0 (k + 2) L.f_is_lot_of L.fd_is_lot_of ["thing", "many"] (spLotOf K) := by
  have B := L.B
  have D_is_whole := L.D_is_whole
  have G_is_whole := ok_is_whole (P := P) (w := w) (base := base) L (k := 0)
  refine L.D_is_lot_of.F.ok sc_is_lot_of (fun vs H Q E h => ?_) (fun cdv A outer s H vs Q E hr h => ?_)
  · obtain ⟨v, m, r, rfl, _⟩ := h
    rfl
  · obtain ⟨v, m, r, rfl, hv, q⟩ := h
    have hcase : (∃ t, t ∈ tyNames ∧ t ≠ "tuple" ∧ TyX K H v (.type t) ∧ r.isSome = false) ∨ ∃ a xs, v = .ref a ∧ SqT K H a xs ∧ (∀ y ∈ xs, Typed K H y) ∧ lotV m xs = r.isSome := by
      cases r with
      | none =>
        rcases hv with ⟨t, h1, h2, h3⟩ | ⟨a, xs, h1, h2, h3, h4⟩
        · exact .inl ⟨t, h1, h2, h3, rfl⟩
        · exact .inr ⟨a, xs, h1, h2, h3, h4⟩
      | some l =>
        obtain ⟨a, rfl, hs⟩ := dt_lot hv.1
        exact .inr ⟨a, l.map V.int, rfl, hs, typed_ints, hv.2⟩
    generalize r.isSome = b at q hcase
    refine ⟨_, (pss_cons (ps_if (pt_not (pt_val (pe_callB (show CallR _ _ (rIsi K) from call_isi) (by rfl) B.isinstance_ (by decide +kernel) (pa_cons (pv 0) (pa_cons (pe_bltn (v := .ty "tuple") (by rfl) B.tuple_ (by decide +kernel) rfl) pa_nil)))))   (pss_one (ps_ret pe_bl))   pss_nil)  (pss_cons (ps_set (i := 2) sc_is_lot_of.nd rfl (.inl rfl) pe_int)  (pss_cons (ps_for PassesOwn.never rfl (pi_tup (pv 0)) (pg_name (i := 3) sc_is_lot_of.nd rfl (.inl rfl))   (pss_cons (ps_if (PW.pt (pw_or (pt_not (pt_val (pe_call G_is_whole (hr.mono (by omega)) (by rfl) D_is_whole.g D_is_whole.F.kp D_is_whole.b .nil pass0 (pa_cons (pv 3) pa_nil)))) (pw_or1 (pt_not (pt_chain op_le op_lt (pv 2) (pv 3) (pv 1))))))   (pss_one (ps_ret pe_bl))   pss_nil)  (pss_one (ps_set (i := 2) sc_is_lot_of.nd rfl (.inl rfl) (pe_op op_add (pv 3) pe_int)))))  (pss_one (ps_ret pe_bl))))), ?_⟩
    rcases hcase with ⟨t, ht, hnt, ty, rfl⟩ | ⟨a, xs, rfl, hS, hty, hb⟩
    · refine q_when (b := true) (et_is (et_not (et_B (ev_isi (K := K) (ev_var rfl) ev_c (fun H2 e2 => tyx_ex e2 ty) (ty_tup ht)))) ?_) (fun _ H1 e1 => s_ret ev_c fun H2 e2 => q H2 (e1.trans e2)) (fun hb => by cases hb)
      rw [beq_eq_false_iff_ne.mpr hnt]
      rfl
    · refine q_when (et_not (et_B (ev_isi (K := K) (ev_var rfl) ev_c (fun H2 e2 => tyx_ex e2 (ty_sqt hS)) (ty_tup (t := "tuple") (by decide))))) (fun hb => by cases hb) (fun _ H1 e1 => ?_)
      refine q_asg (v := .int 0) ev_c fun H2 e2 => ?_
      refine q_forT (xs := xs) (ev_var rfl) (ex_t (e1.trans e2) hS) (fun i σ' H' => ∃ (z : Int) (y3 : Option V), σ' = [some (.ref a), some (.int m), some (.int z), y3] ∧ Ex H H' ∧ scanV m z (xs.drop i) = b) (fun H3 e3 => ⟨0, _, rfl, (e1.trans e2).trans e3, hb⟩) (fun i σ' H' _ hw => ?_) (fun i x σ' H' hi hw => ?_) (fun σ' H' hw => ?_)
      · obtain ⟨z, y3, rfl, e', _⟩ := hw
        exact ex_t e' hS
      · obtain ⟨z, y3, rfl, e', hsc⟩ := hw
        have hxm := List.mem_of_getElem? hi
        have hdr : xs.drop i = x :: xs.drop (i + 1) := by
          obtain ⟨hlt, hx⟩ := List.getElem?_eq_some_iff.mp hi
          rw [List.drop_eq_getElem_cons hlt, hx]
        rw [hdr] at hsc
        obtain ⟨b1, hb1, w1⟩ := ev_wholeT (K := K) (σ := [some (.ref a), some (.int m), some (.int z), some x]) (te := tVar 3) (E := E0) (ev_var rfl) ((hty x hxm).ex e')
        cases b1 with
        | false =>
          have hf : b = false := by
            cases x with
            | int i => cases hb1.mpr ⟨i, rfl⟩
            | _ => exact hsc.symm
          subst hf
          exact q_when (b := true) (fun H1' e1' Q' q' => (et_not (et_B w1)) H1' e1' _ fun H2 e2 => iteT (q' H2 e2)) (fun _ H3 e3 => s_ret ev_c fun H4 e4 => q H4 ((e'.trans e3).trans e4)) (fun hb => by cases hb)
        | true =>
          obtain ⟨j, rfl⟩ := hb1.mp rfl
          refine q_when (et_or (et_not (et_B w1)) (fun _ => et_not (et_test (ev_chain (ev_var rfl) (ev_var rfl) (ev_var rfl) rv_I0 rv_I0)))) (fun hb H3 e3 => ?_) (fun hb H3 e3 => ?_)
          · refine s_ret ev_c fun H4 e4 => ?_
            have hf : b = false := by
              rw [← hsc]
              show ((decide (z ≤ j) && decide (j < m)) && _) = false
              have : (decide (z ≤ j) && decide (j < m)) = false := by cases h1 : decide (z ≤ j) <;> cases h2 : decide (j < m) <;> rw [h1, h2] at hb <;> first | rfl | cases hb
              rw [this]
              rfl
            rw [hf] at q
            exact q H4 ((e'.trans e3).trans e4)
          · refine s_asg (v := .int (j + 1)) (ev_op (ev_var rfl) ev_c rv_I0) fun H4 e4 => ⟨_, _, rfl, (e'.trans e3).trans e4, ?_⟩
            rw [← hsc]
            show _ = ((decide (z ≤ j) && decide (j < m)) && _)
            have : (decide (z ≤ j) && decide (j < m)) = true := by cases h1 : decide (z ≤ j) <;> cases h2 : decide (j < m) <;> rw [h1, h2] at hb <;> first | rfl | cases hb
            rw [this]
            rfl
      · obtain ⟨z, y3, rfl, e', hsc⟩ := hw
        rw [List.drop_length] at hsc
        have hf : b = true := hsc.symm
        rw [hf] at q
        exact s_ret ev_c fun H4 e4 => q H4 (e'.trans e4)
def spIsLot (K : PySem.W.Frag) : Sp := fun vs H Q _ => ∃ (v cv : V) (m d : Int) (r : Option (List Int)), vs = [v, cv] ∧ Dt K H cv (curveD m d) ∧ okC m d ∧ ThL K H v m r ∧ ∀ H2, Ex H H2 → Q (.bl r.isSome) H2
theorem ev_isLot {σ : L2.St} {H : Hp} {ta tb : TE} {v : V} {m d : Int} {r : Option (List Int)} {E : XK} (ha : Ev ta σ H v) (hb : EvD K tb σ H (curveD m d)) (hc : okC m d) (hv : ThL K H v m r) : Ev (tCall (spIsLot K) [] E (tCons ta (tCons tb tNil))) σ H (.bl r.isSome) := fun H1 e Q q =>
  ha H1 e _ fun H2 e2 => hb H2 (e.trans e2) _ fun cv H3 e3 hcv => ⟨v, cv, m, d, r, rfl, hcv, hc, hv.ex ((e.trans e2).trans e3), fun H4 e4 => q H4 ((e2.trans e3).trans e4)⟩
theorem ok_is_lot (L : All K mg) {k : Nat} : FnOk P w K mg base CX0 (k + 4) L.f_is_lot L.fd_is_lot ["thing", "curve"] (spIsLot K) := by
  have B := L.B
  have D_is_lot_of := L.D_is_lot_of
  have G_is_lot_of := ok_is_lot_of (P := P) (w := w) (base := base) L (k := 0)
  have D_need_curve := L.D_need_curve
  have G_need_curve := ok_need_curve (P := P) (w := w) (base := base) L (k := 0)
  refine L.D_is_lot.F.ok sc_is_lot (fun vs H Q E h => ?_) (fun cdv A outer s H vs Q E hr h => ?_)
  · obtain ⟨v, cv, m, d, r, rfl, _⟩ := h
    rfl
  · obtain ⟨v, cv, m, d, r, rfl, hcv, hc, hv, q⟩ := h
    refine ⟨_, (pss_cons (ps_expr (pe_call G_need_curve (hr.mono (by omega)) (by rfl) D_need_curve.g D_need_curve.F.kp D_need_curve.b .nil pass0 (pa_cons (pv 1) pa_nil)))  (pss_one (ps_ret (pe_call G_is_lot_of (hr.mono (by omega)) (by rfl) D_is_lot_of.g D_is_lot_of.F.kp D_is_lot_of.b .nil pass0 (pa_cons (pv 0) (pa_cons (pe_ix (show IxR _ (rIxT K) from ix_tup) (pv 1) pe_int (fun _ _ => rfl)) pa_nil)))))), ?_⟩
    refine q_drop (ev_need_curve (K := K) (eb_cons (ed_var rfl hcv) eb_nil) hc) fun H1 e1 => ?_
    exact s_ret (ev_lotOf (K := K) (ev_var rfl) (ev_int (K := K) (ed_ixT (ds := [.int m, .int d]) (ed_var rfl (dt_ex e1 hcv)) ev_c rfl)) (hv.ex e1)) fun H2 e2 => q H2 (e1.trans e2)
/-! ### odd blocks -/
def outA (l : List Int) : List Int := l.mapIdx fun i c => c - (i : Int)
def oddF (m : Int) (l : List Int) : Int := (((upTo 1 (m - (l.length : Int))).filter fun k => decide (((outA l).count k : Int) % 2 = 1)).length : Int)
theorem outA_data (l : List Int) : (l.map PyData.int).mapIdx (fun i d => PyData.int (unint d - (i : Int))) = (outA l).map PyData.int := by
  unfold outA
  rw [List.mapIdx_eq_zipIdx_map, List.mapIdx_eq_zipIdx_map, List.zipIdx_map, List.map_map, List.map_map]
  rfl
theorem ev_count {σ : L2.St} {H : Hp} {ta tb : TE} {p : Addr} {ns : List Int} {k : Int} (ha : Ev ta σ H (.ref p)) (hs : SqL K H p (ns.map V.int)) (hb : Ev tb σ H (.int k)) : Ev (tBM K "list" (rCntI K) ta (tCons tb tNil)) σ H (.int (ns.count k : Int)) := fun H1 e Q q =>
  ha H1 e _ fun H2 e2 => ⟨.inl ⟨rfl, _, ex_l (e.trans e2) hs⟩, hb H2 (e.trans e2) _ fun H3 e3 => ⟨p, ns, k, rfl, rfl, ex_l ((e.trans e2).trans e3) hs, q H3 (e2.trans e3)⟩⟩
def sp_odd_blocks (K : PySem.W.Frag) : Sp := fun vs H Q _ => ∃ (m : Int) (l : List Int), DtAll K H vs [.int m, lotD l] ∧ (l.length ≤ 1000 ∧ -1000 ≤ m ∧ m ≤ 1000) ∧ ∀ H2, Ex H H2 → Q (.int (oddF m l)) H2
theorem ev_odd_blocks {σ : L2.St} {H : Hp} {ta : TA} {E : XK} {m : Int} {l : List Int} (h : EvB K ta σ H [.int m, lotD l]) (hp : l.length ≤ 1000 ∧ -1000 ≤ m ∧ m ≤ 1000) : Ev (tCall (sp_odd_blocks K) [] E ta) σ H (.int (oddF m l)) := fun H1 e Q q => h H1 e _ fun vs H2 e2 ha => ⟨m, l, (by show DtAll K H2 (vs ++ []) _; rw [List.append_nil]; exact ha), hp, fun H3 e3 => q H3 (e2.trans e3)⟩
theorem ok_odd_blocks (L : All K mg) {k : Nat} : FnOk P w K mg base CX0 (k + 1) L.f_odd_blocks L.fd_odd_blocks ["many", "lot"] (sp_odd_blocks K) := by
  have B := L.B
  refine L.D_odd_blocks.F.ok sc_odd_blocks (fun vs H Q E h => ?_) (fun cdv A outer s H vs Q E hr h => ?_)
  · obtain ⟨m, l, h, _⟩ := h
    rw [dta_len h]
    rfl
  · obtain ⟨m, l, h, hp, q⟩ := h
    obtain ⟨v0, v1, rfl, h0, h1⟩ := dta2 h
    obtain rfl := dt_int h0
    refine ⟨_, (pss_cons (ps_set (i := 2) sc_odd_blocks.nd rfl (.inr rfl) (pe_lc (g := gTup K 2 (gCons (gName 3) (gCons (gName 4) gNil))) (own := [("at", 3), ("corner", 4)]) rfl sc_odd_blocks.nd (pi_enumT (by rfl) B.enumerate_ (pa_cons (pv 1) pa_nil)) (blkOk_by (own := [("at", 3), ("corner", 4)]) (N := N_odd_blocks) (sc := defScope s_odd_blocks) (by decide +kernel)) (fun _ _ _ _ _ => (pg_tup (by rfl) (pgs_cons (pg_name (i := 3) sc_odd_blocks.nd rfl (.inl rfl)) (pgs_cons (pg_name (i := 4) sc_odd_blocks.nd rfl (.inl rfl)) pgs_nil)))) (fun _ _ _ _ _ => pts_nil) (fun _ _ _ _ _ => (pe_op op_sub (pv 4) (pv 3)))))  (pss_one (ps_ret (pe_callB (show CallR _ _ (rLenS K) from call_len_seq) (by rfl) B.len_ (by decide +kernel) (pa_cons (pe_lc (own := [("k", 5)]) rfl sc_odd_blocks.nd (pi_range2 (by rfl) B.range_ (pa_cons pe_int (pa_cons (pe_op op_sub (pv 0) (pe_callB (show CallR _ _ (rLenS K) from call_len_seq) (by rfl) B.len_ (by decide +kernel) (pa_cons (pv 1) pa_nil))) pa_nil))) (blkOk_by (own := [("k", 5)]) (N := N_odd_blocks) (sc := defScope s_odd_blocks) (by decide +kernel)) (fun _ _ _ _ _ => (pg_name (i := 5) sc_odd_blocks.nd rfl (.inl rfl))) (fun _ _ _ _ _ => pts_one (pt_cmpR op_eq (pe_op op_mod (pe_bmK rfl PySem.F.plainAttrs_list PySem.F.slot_list_count PySem.F.type_list_count (show MtR _ _ (rCntI K) from mt_lcount) (pv 2) (pa_cons (pv 5) pa_nil)) pe_int) pe_int (nomark _))) (fun _ _ _ _ _ => (pv 5))) pa_nil))))), ?_⟩
    obtain ⟨hl, hm0, hm1⟩ := hp
    refine q_asgF (K := K) (ds := (outA l).map PyData.int) (ef_is (ef_lcET (ds := l.map PyData.int) (fun i d => PyData.int (unint d - (i : Int))) (ed_var rfl h1) (by rw [List.length_map]; omega) (fun _ _ => rfl) (fun i d x H1 e1 hi hd => ?_)) (outA_data l)) fun p xs H1 np e1 hp hx => ?_
    · obtain ⟨c, _, rfl⟩ := mem_ints (List.mem_of_getElem? hi)
      obtain rfl := dt_int hd
      exact ed_int (ev_op (ev_var rfl) (ev_var rfl) rv_I0)
    rw [dta_ints_inv hx] at hp
    refine s_ret (v := .int (oddF m l)) (ev_is (ev_lenF (K := K) (ef_lcR2 (fun k => decide (((outA l).count k : Int) % 2 = 1)) PyData.int (ea_cons ev_c (ea_cons (ev_op (ev_var rfl) (ev_lenT (K := K) (ds := l.map PyData.int) (ed_var rfl (dt_ex e1 h1))) rv_I0) ea_nil)) (by rw [List.length_map]; omega) (fun _ => rfl) (fun c H2 e2 _ _ => ?_) (fun c H2 e2 _ _ _ => ed_int (ev_var rfl)))) ?_) fun H2 e2 => q H2 (e1.trans e2)
    · exact et_test (ev_op (ev_op (ev_count (K := K) (ev_var rfl) (sq_of (e2 p _ hp)) (ev_var rfl)) ev_c (rv_I (by show (0 : Int) < 2; decide))) ev_c rv_eqI)
    · rw [List.length_map, List.length_map]
      rfl
def faceF (m d : Int) (l : List Int) : Bool := decide (oddF m l ≤ d - (l.length : Int))
def paneF (m d : Int) (l : List Int) : Bool := decide ((l.length : Int) = d) && decide (oddF m l = 0)
def spPane (K : PySem.W.Frag) : Sp := fun vs H Q _ => ∃ (v cv : V) (m d : Int) (r : Option (List Int)), vs = [v, cv] ∧ Dt K H cv (curveD m d) ∧ okC m d ∧ ThL K H v m r ∧ (∀ l, r = some l → l.length ≤ 1000) ∧ ∀ H2, Ex H H2 → Q (.bl ((r.map (paneF m d)).getD false)) H2
theorem ev_pane {σ : L2.St} {H : Hp} {ta tb : TE} {v : V} {m d : Int} {r : Option (List Int)} {E : XK} (ha : Ev ta σ H v) (hb : EvD K tb σ H (curveD m d)) (hc : okC m d) (hv : ThL K H v m r) (hl : ∀ l, r = some l → l.length ≤ 1000) : Ev (tCall (spPane K) [] E (tCons ta (tCons tb tNil))) σ H (.bl ((r.map (paneF m d)).getD false)) := fun H1 e Q q =>
  ha H1 e _ fun H2 e2 => hb H2 (e.trans e2) _ fun cv H3 e3 hcv => ⟨v, cv, m, d, r, rfl, hcv, hc, hv.ex ((e.trans e2).trans e3), hl, fun H4 e4 => q H4 ((e2.trans e3).trans e4)⟩
theorem ok_is_pane (L : All K mg) {k : Nat} : FnOk P w K mg base CX0 (k + 5) L.f_is_pane L.fd_is_pane ["thing", "curve"] (spPane K) := by
  have B := L.B
  have D_odd_blocks := L.D_odd_blocks
  have G_odd_blocks := ok_odd_blocks (P := P) (w := w) (base := base) L (k := 0)
  have D_is_lot := L.D_is_lot
  have G_is_lot := ok_is_lot (P := P) (w := w) (base := base) L (k := 0)
  refine L.D_is_pane.F.ok sc_is_pane (fun vs H Q E h => ?_) (fun cdv A outer s H vs Q E hr h => ?_)
  · obtain ⟨v, cv, m, d, r, rfl, _⟩ := h
    rfl
  · obtain ⟨v, cv, m, d, r, rfl, hcv, hc, hv, hlen, q⟩ := h
    obtain ⟨c1, c2, c3, c4⟩ := id hc
    refine ⟨_, (pss_one (ps_ret (pe_and (pe_call G_is_lot (hr.mono (by omega)) (by rfl) D_is_lot.g D_is_lot.F.kp D_is_lot.b .nil pass0 (pa_cons (pv 0) (pa_cons (pv 1) pa_nil))) (pe_and (pe_cmpR op_eq (pe_callB (show CallR _ _ (rLenS K) from call_len_seq) (by rfl) B.len_ (by decide +kernel) (pa_cons (pv 0) pa_nil)) (pe_ix (show IxR _ (rIxT K) from ix_tup) (pv 1) pe_int (fun _ _ => rfl)) (nomark _)) (pe_one (pe_cmpR op_eq (pe_call G_odd_blocks (hr.mono (by omega)) (by rfl) D_odd_blocks.g D_odd_blocks.F.kp D_odd_blocks.b .nil pass0 (pa_cons (pe_ix (show IxR _ (rIxT K) from ix_tup) (pv 1) pe_int (fun _ _ => rfl)) (pa_cons (pv 0) pa_nil))) pe_int (nomark _))))))), ?_⟩
    refine s_ret (v := .bl ((r.map (paneF m d)).getD false)) ?_ fun H1 e1 => q H1 e1
    cases r with
    | none => exact ev_is (ev_andV (b := false) (ev_isLot (K := K) (r := none) (ev_var rfl) (ed_var rfl hcv) hc hv) (fun hb => by cases hb)) rfl
    | some l =>
      have hll := hlen l rfl
      refine ev_is (ev_andV (ev_isLot (K := K) (r := some l) (ev_var rfl) (ed_var rfl hcv) hc hv) (fun _ => (ev_andV (ev_op (ev_lenT (K := K) (ds := l.map PyData.int) (ed_var rfl hv.1)) (ev_int (K := K) (ed_ixT (ds := [.int m, .int d]) (ed_var rfl hcv) ev_c rfl)) rv_eqI) (fun _ => (ev_op (ev_odd_blocks (K := K) (eb_cons (ed_int (ev_int (K := K) (ed_ixT (ds := [.int m, .int d]) (ed_var rfl hcv) ev_c rfl))) (eb_cons (ed_var rfl hv.1) eb_nil)) (by first | assumption | omega | (refine ⟨?_, ?_⟩ <;> first | assumption | omega) | (refine ⟨?_, ?_, ?_⟩ <;> first | assumption | omega) | (refine ⟨?_, ?_, ?_, ?_⟩ <;> first | assumption | omega) | (repeat' apply And.intro) <;> first | assumption | omega)) ev_c rv_eqI))))) ?_
      rw [List.length_map]
      rfl
end
/-! ### lots are lots -/
def lotsLot : Bool := (List.range 10).all fun m => (List.range 10).all fun s => (lotsL (m : Int) s).all fun l => lotL (m : Int) l
theorem lots_lot0 : lotsLot = true := by decide +kernel
theorem lots_lot {m : Int} {s : Nat} (h0 : 0 ≤ m) (h1 : m < 10) (h2 : s < 10) {l : List Int} (hl : l ∈ lotsL m s) : lotL m l = true := by
  have h := List.all_eq_true.mp lots_lot0 m.toNat (List.mem_range.mpr (by omega))
  have h := List.all_eq_true.mp h s (List.mem_range.mpr h2)
  rw [Int.toNat_of_nonneg h0] at h
  exact List.all_eq_true.mp h l hl
/-! ### choices: all lots of so many corners -/
def nextN (l : List Int) : Int := match l.getLast? with
  | some x => x + 1
  | none => 0
def chN (m s : Int) : Nat → List (List Int)
  | 0 => [[]]
  | t + 1 => (chN m s t).flatMap fun l => (upTo (nextN l) (m - (s + (t : Int) * -1) + 1)).map fun k => l ++ [k]
def choicesL (m s : Int) : List (List Int) := chN m s s.toNat
def chGood : Bool := (List.range 10).all fun m => (List.range 10).all fun s => decide (choicesL (m : Int) (s : Int) = lotsL (m : Int) s) && (List.range (s + 1)).all fun t => decide ((chN (m : Int) (s : Int) t).length ≤ 300) && (chN (m : Int) (s : Int) t).all fun l => decide (l.length ≤ 20) && decide (-5 ≤ nextN l) && decide (nextN l ≤ 50)
theorem ch_good : chGood = true := by decide +kernel
theorem ch_all {m s : Int} (hp : 0 ≤ m ∧ m < 10 ∧ 0 ≤ s ∧ s < 10) : choicesL m s = lotsL m s.toNat ∧ ∀ {t : Nat}, t ≤ s.toNat → (chN m s t).length ≤ 300 ∧ ∀ l ∈ chN m s t, l.length ≤ 20 ∧ -5 ≤ nextN l ∧ nextN l ≤ 50 := by
  obtain ⟨h1, h2, h3, h4⟩ := hp
  have h := List.all_eq_true.mp ch_good m.toNat (List.mem_range.mpr (by omega))
  have h := List.all_eq_true.mp h s.toNat (List.mem_range.mpr (by omega))
  rw [Bool.and_eq_true, Int.toNat_of_nonneg h1, Int.toNat_of_nonneg h3] at h
  refine ⟨of_decide_eq_true h.1, fun {t} ht => ?_⟩
  have h := List.all_eq_true.mp h.2 t (List.mem_range.mpr (Nat.lt_succ_of_le ht))
  rw [Bool.and_eq_true, List.all_eq_true] at h
  refine ⟨of_decide_eq_true h.1, fun l hl => ?_⟩
  have h2 := h.2 l hl
  rw [Bool.and_eq_true, Bool.and_eq_true] at h2
  exact ⟨of_decide_eq_true h2.1.1, of_decide_eq_true h2.1.2, of_decide_eq_true h2.2⟩
section
variable {P : Program} {w : World} {K : PySem.W.Frag} {mg : Str → Option Value} {base : Heap}
def sp_next_number (K : PySem.W.Frag) : Sp := fun vs H Q _ => ∃ (l : List Int), DtAll K H vs [lotD l] ∧ (True) ∧ ∀ H2, Ex H H2 → Q (.int (nextN l)) H2
theorem ev_next_number {σ : L2.St} {H : Hp} {ta : TA} {E : XK} {l : List Int} (h : EvB K ta σ H [lotD l]) (hp : True) : Ev (tCall (sp_next_number K) [] E ta) σ H (.int (nextN l)) := fun H1 e Q q => h H1 e _ fun vs H2 e2 ha => ⟨l, (by show DtAll K H2 (vs ++ []) _; rw [List.append_nil]; exact ha), hp, fun H3 e3 => q H3 (e2.trans e3)⟩
theorem ok_next_number (L : All K mg) {k : Nat} : FnOk P w K mg base CX0 (k + 1) L.f_next_number L.fd_next_number ["some"] (sp_next_number K) := by
  have B := L.B
  refine L.D_next_number.F.ok sc_next_number (fun vs H Q E h => ?_) (fun cdv A outer s H vs Q E hr h => ?_)
  · obtain ⟨l, h, _⟩ := h
    rw [dta_len h]
    rfl
  · obtain ⟨l, h, hp, q⟩ := h
    obtain ⟨v0, rfl, h0⟩ := dta1 h
    refine ⟨_, (pss_one (ps_ret (pe_ifExp (pt_truth (pv 0) (by intro _; rfl)) (pe_op op_add (pe_ix (show IxR _ (rIxT K) from ix_tup) (pv 0) (pe_un un_neg pe_int) (fun _ _ => rfl)) pe_int) pe_int))), ?_⟩
    refine s_ret (v := .int (nextN l)) (ev_if (et_truT (K := K) (ds := l.map PyData.int) (ed_var rfl h0)) (fun hb => ?_) (fun hb => ?_)) fun H1 e1 => q H1 e1
    · cases l with
      | nil => cases hb
      | cons x r =>
        refine ev_is (ev_op (ev_int (K := K) (ed_ixT (ds := (x :: r).map PyData.int) (ed_var rfl h0) (ev_un ev_c ru_neg) (lotD_ix (lastD (x :: r) (List.cons_ne_nil x r))))) ev_c rv_I0) ?_
        unfold nextN
        rw [List.getLast?_eq_some_getLast (List.cons_ne_nil x r)]
    · cases l with
      | nil => exact ev_c
      | cons x r => cases hb
def sp_choices (K : PySem.W.Frag) : Sp := fun vs H Q _ => ∃ (m d : Int), DtAll K H vs [.int m, .int d] ∧ (0 ≤ m ∧ m < 10 ∧ 0 ≤ d ∧ d < 10) ∧ ∀ p xs H2, H p = none → Ex H H2 → H2 p = some (.lst xs) → DtAll K H2 xs ((lotsL m d.toNat).map lotD) → Q (.ref p) H2
theorem ev_choices {σ : L2.St} {H : Hp} {ta : TA} {E : XK} {m d : Int} (h : EvB K ta σ H [.int m, .int d]) (hp : 0 ≤ m ∧ m < 10 ∧ 0 ≤ d ∧ d < 10) : EvF K (tCall (sp_choices K) [] E ta) σ H ((lotsL m d.toNat).map lotD) := fun H1 e Q q => h H1 e _ fun vs H2 e2 ha => ⟨m, d, (by show DtAll K H2 (vs ++ []) _; rw [List.append_nil]; exact ha), hp, fun p xs H3 np e3 hx hd => q p xs H3 (fresh_back e2 np) (e2.trans e3) hx hd⟩
theorem ok_choices (L : All K mg) {k : Nat} : FnOk P w K mg base CX0 (k + 2) L.f_choices L.fd_choices ["many", "size"] (sp_choices K) := by
  have B := L.B
  have D_next_number := L.D_next_number
  have G_next_number := ok_next_number (P := P) (w := w) (base := base) L (k := 0)
  refine L.D_choices.F.ok sc_choices (fun vs H Q E h => ?_) (fun cdv A outer s H vs Q E hr h => ?_)
  · obtain ⟨m, d, h, _⟩ := h
    rw [dta_len h]
    rfl
  · obtain ⟨m, d, h, hp, q⟩ := h
    obtain ⟨v0, v1, rfl, h0, h1⟩ := dta2 h
    obtain rfl := dt_int h0
    obtain rfl := dt_int h1
    refine ⟨_, (pss_cons (ps_set (i := 2) sc_choices.nd rfl (.inl rfl) (pe_lst (pa_cons (pe_tup pa_nil) pa_nil)))  (pss_cons (ps_for PassesOwn.never rfl (pi_range3 (by rfl) B.range_ (pa_cons (pv 1) (pa_cons pe_int (pa_cons (pe_un un_neg pe_int) pa_nil)))) (pg_name (i := 3) sc_choices.nd rfl (.inr rfl))   (pss_one (ps_setLc2 (i := 2) (own := [("some", 4), ("k", 5)]) (vs1 := [5]) rfl sc_choices.nd rfl rfl (sw_true rfl rfl rfl (by decide +kernel)) (pi_list (pv 2)) (blkOk_by (own := [("some", 4), ("k", 5)]) (N := N_choices) (sc := defScope s_choices) (by decide +kernel)) (by decide) (fun _ _ _ _ _ => (pg_name (i := 4) sc_choices.nd rfl (.inl rfl))) (fun _ _ _ _ _ => pts_nil) (fun _ _ _ _ _ => (pi_range2 (by rfl) B.range_ (pa_cons (pe_call G_next_number (hr.mono (by omega)) (by rfl) D_next_number.g D_next_number.F.kp D_next_number.b .nil pass0 (pa_cons (pv 4) pa_nil)) (pa_cons (pe_op op_add (pe_op op_sub (pv 0) (pv 3)) pe_int) pa_nil)))) (fun _ _ _ _ _ => (pg_name (i := 5) sc_choices.nd rfl (.inl rfl))) (fun _ _ _ _ _ => pts_nil) (fun _ _ _ _ _ => (pe_op (show OpR _ _ (rCatA K) from op_catA) (pv 4) (pe_tup (pa_cons (pv 5) pa_nil)))))))  (pss_one (ps_ret (pv 2))))), ?_⟩
    obtain ⟨hch, hf0⟩ := ch_all hp
    obtain ⟨m0, m1, d0, d1⟩ := hp
    refine q_asgF (K := K) (ds := [lotD []]) (ef_lst (eb_cons (ed_tup eb_nil (by decide)) eb_nil) (by decide)) fun p xs H1 np e1 hp hx => ?_
    refine ⟨_, rfl, 1, rfl, d, 0, -1, (d - 0).toNat, rfl, RgC.neg (by omega) (by omega) (by decide) (by decide), for_it walk_rangeC (fun i σ' H' => ∃ (p : Addr) (xs : List V) (y3 y4 y5 : Option V), σ' = [some (.int m), some (.int d), some (.ref p), y3, y4, y5] ∧ H p = none ∧ Ex H H' ∧ H' p = some (.lst xs) ∧ DtAll K H' xs ((chN m d i).map lotD)) ⟨p, xs, _, _, _, rfl, np, e1, hp, hx⟩ (fun _ _ _ _ _ => True.intro) (fun i x σ' H' H'' hi hw hy => ?_) (fun σ' H' hw => ?_)⟩
    · obtain ⟨p, xs, y3, y4, y5, rfl, np, e', hp, hx⟩ := hw
      obtain ⟨e2, rfl⟩ := hy
      subst e2
      have hf := hf0 (t := i) (by omega)
      have hf1 := hf0 (t := i + 1) (by omega)
      refine s_asgF (K := K) (ds := (chN m d (i + 1)).map lotD) (ef_is (ef_lc2 (ds := (chN m d i).map lotD) (fun x => nextN (unlot x)) (m - (d + (i : Int) * -1) + 1) (fun x c => lotD (unlot x ++ [c])) (ev_var rfl) (sq_of hp) hx ?_ (fun _ => rfl) (fun _ _ => rfl) (fun x hm => ?_) (fun x v H3 e3 hm hv => ?_) (fun x v c H3 e3 hm hv => ?_)) ?_) fun r zs H3 nr e3 hr3 hz3 => ⟨r, zs, _, _, _, rfl, fresh_back e' nr, e'.trans e3, hr3, hz3⟩
      · have : ((chN m d i).map lotD).flatMap (fun x => (upTo (nextN (unlot x)) (m - (d + (i : Int) * -1) + 1)).map fun c => lotD (unlot x ++ [c])) = (chN m d (i + 1)).map lotD := by
          rw [List.flatMap_map]
          show _ = ((chN m d i).flatMap _).map lotD
          rw [List.map_flatMap]
          congr 1
          funext l
          rw [unlot_lot, List.map_map]
          rfl
        rw [this, List.length_map]
        omega
      · obtain ⟨l, hl, rfl⟩ := mem_lots hm
        rw [unlot_lot]
        have := (hf.2 l hl).2
        omega
      · obtain ⟨l, hl, rfl⟩ := mem_lots hm
        rw [unlot_lot]
        exact ea_cons (ev_next_number (K := K) (eb_cons (ed_var rfl hv) eb_nil) True.intro) (ea_cons (ev_op (ev_op (ev_var rfl) (ev_var rfl) rv_I0) ev_c rv_I0) ea_nil)
      · obtain ⟨l, hl, rfl⟩ := mem_lots hm
        rw [unlot_lot]
        exact ed_catI (r := [c]) (ed_var rfl hv) (ed_tup (eb_cons (ed_int (ev_var rfl)) eb_nil) (by show 1 ≤ 100000; decide)) (by have := (hf.2 l hl).1; show l.length + 1 ≤ 1000; omega)
      · rw [List.flatMap_map]
        show _ = ((chN m d i).flatMap _).map lotD
        rw [List.map_flatMap]
        congr 1
        funext l
        rw [unlot_lot, List.map_map]
        rfl
    · obtain ⟨p, xs, y3, y4, y5, rfl, np, e', hp, hx⟩ := hw
      refine s_ret (ev_var rfl) fun H2 e2 => q p xs H2 np (e'.trans e2) (e2 p _ hp) ?_
      rw [show (d - 0).toNat = d.toNat by omega] at hx
      rw [← hch]
      exact dta_ex e2 hx
/-! ### faces -/
end
/-! ### panes from pairs of neighbours -/
def pairedN (c : List Int) (f : Int) (i : Nat) : List Int := (List.range i).flatMap fun j => [f + c.getD j 0 + (j : Int), f + c.getD j 0 + (j : Int) + 1]
def pairedF (c : List Int) (f : Int) : List Int := pairedN c f c.length
theorem pairedN_len (c : List Int) (f : Int) (i : Nat) : (pairedN c f i).length = 2 * i := by
  unfold pairedN
  induction i with
  | zero => rfl
  | succ i ih => rw [List.range_succ, List.flatMap_append, List.length_append, ih]; simp; omega
def endF (m d : Int) (h t : List Int) : List (List Int) := (lotsL (m - (h.length : Int) - (t.length : Int) - (d - (h.length : Int) - (t.length : Int)) / 2) ((d - (h.length : Int) - (t.length : Int)) / 2).toNat).map fun c => h ++ pairedF c (h.length : Int) ++ t
def lowF (m d : Int) : List (List Int) := endF m d (if d % 2 = 1 then [0] else []) []
def highF (m d : Int) : List (List Int) := endF m d (if d % 2 = 0 then [0] else []) [m - 1]
section
variable {P : Program} {w : World} {K : PySem.W.Frag} {mg : Str → Option Value} {base : Heap}
def sp_paired (K : PySem.W.Frag) : Sp := fun vs H Q _ => ∃ (c : List Int) (f : Int), DtAll K H vs [lotD c, .int f] ∧ (c.length ≤ 100) ∧ ∀ v H2, Ex H H2 → Dt K H2 v (lotD (pairedF c f)) → Q v H2
theorem ev_paired {σ : L2.St} {H : Hp} {ta : TA} {E : XK} {c : List Int} {f : Int} (h : EvB K ta σ H [lotD c, .int f]) (hp : c.length ≤ 100) : EvD K (tCall (sp_paired K) [] E ta) σ H (lotD (pairedF c f)) := fun H1 e Q q => h H1 e _ fun vs H2 e2 ha => ⟨c, f, (by show DtAll K H2 (vs ++ []) _; rw [List.append_nil]; exact ha), hp, fun v H3 e3 hv => q v H3 (e2.trans e3) hv⟩
theorem ok_paired (L : All K mg) {k : Nat} : FnOk P w K mg base CX0 (k + 1) L.f_paired L.fd_paired ["chosen", "first"] (sp_paired K) := by
  have B := L.B
  refine L.D_paired.F.ok sc_paired (fun vs H Q E h => ?_) (fun cdv A outer s H vs Q E hr h => ?_)
  · obtain ⟨c, f, h, _⟩ := h
    rw [dta_len h]
    rfl
  · obtain ⟨c, f, h, hp, q⟩ := h
    obtain ⟨v0, v1, rfl, h0, h1⟩ := dta2 h
    obtain rfl := dt_int h1
    refine ⟨_, (pss_cons (ps_set (i := 2) sc_paired.nd rfl (.inl rfl) (pe_tup pa_nil))  (pss_cons (ps_for PassesOwn.never rfl (pi_enumT (by rfl) B.enumerate_ (pa_cons (pv 0) pa_nil)) (pg_tup (by rfl) (pgs_cons (pg_name (i := 3) sc_paired.nd rfl (.inl rfl)) (pgs_cons (pg_name (i := 4) sc_paired.nd rfl (.inl rfl)) pgs_nil)))   (pss_one (ps_set (i := 2) sc_paired.nd rfl (.inl rfl) (pe_op (show OpR _ _ (rCatA K) from op_catA) (pv 2) (pe_tup (pa_cons (pe_op op_add (pe_op op_add (pv 1) (pv 4)) (pv 3)) (pa_cons (pe_op op_add (pe_op op_add (pe_op op_add (pv 1) (pv 4)) (pv 3)) pe_int) pa_nil)))))))  (pss_one (ps_ret (pv 2))))), ?_⟩
    obtain ⟨ca, rfl, hS⟩ := dt_lot h0
    refine q_asgD (K := K) (d := lotD []) (ed_tup eb_nil (by decide)) fun v H1 e1 hv => ?_
    refine ⟨_, rfl, ca, c.map V.int, rfl, ex_t e1 hS, for_it (walk_enumT (K := K) (a := ca) (xs := c.map V.int)) (fun i σ' H' => ∃ (v : V) (y3 y4 : Option V), σ' = [some (.ref ca), some (.int f), some v, y3, y4] ∧ Ex H H' ∧ Dt K H' v (lotD (pairedN c f i))) ⟨v, _, _, rfl, e1, hv⟩ (fun i σ' H' _ hw => ?_) (fun i x σ' H' H'' hi hw hy => ?_) (fun σ' H' hw => ?_)⟩
    · obtain ⟨v, y3, y4, rfl, e2, _⟩ := hw
      exact ex_t e2 hS
    · obtain ⟨v, y3, y4, rfl, e2, hv2⟩ := hw
      obtain ⟨T, x1, x2, rfl, nT, rfl, g1, g2⟩ := hy
      cases Option.some.inj g1
      rw [List.length_map] at hi
      replace g2 : (c.map V.int)[i]? = some x2 := g2
      rw [List.getElem?_map, List.getElem?_eq_getElem hi] at g2
      cases Option.some.inj g2
      have hget : c.getD i 0 = c[i] := by
        rw [List.getD_eq_getElem?_getD, List.getElem?_eq_getElem hi]
        rfl
      have eT : Ex H' (upd H' T (.tup [.int (i : Nat), .int c[i]])) := Ex.new nT
      refine ⟨T, _, rfl, st_of upd_same, rfl, _, _, rfl, _, _, rfl, rfl, ?_⟩
      refine s_asgD (K := K) (d := lotD (pairedN c f (i + 1))) (ed_is (ed_catI (l := pairedN c f i) (r := [f + c[i] + (i : Int), f + c[i] + (i : Int) + 1]) (ed_var rfl (dt_ex eT hv2)) (ed_tup (eb_cons (ed_int (ev_op (ev_op (ev_var rfl) (ev_var rfl) rv_I0) (ev_var rfl) rv_I0)) (eb_cons (ed_int (ev_op (ev_op (ev_op (ev_var rfl) (ev_var rfl) rv_I0) (ev_var rfl) rv_I0) ev_c rv_I0)) eb_nil)) (by show 2 ≤ 100000; decide)) ?_) ?_) fun v H3 e3 hv3 => ⟨v, _, _, rfl, (e2.trans eT).trans e3, hv3⟩
      · rw [pairedN_len]
        show 2 * i + 2 ≤ 1000
        omega
      · unfold pairedN
        rw [List.range_succ, List.flatMap_append, ← hget]
        simp
    · obtain ⟨v, y3, y4, rfl, e2, hv2⟩ := hw
      rw [List.length_map] at hv2
      exact s_retD (K := K) (ed_var rfl hv2) fun v H3 e3 hv3 => q v H3 (e2.trans e3) hv3
def sp_ended (K : PySem.W.Frag) : Sp := fun vs H Q _ => ∃ (m d : Int) (pr su : List Int), DtAll K H vs [.int m, .int d, lotD pr, lotD su] ∧ (pr.length ≤ 1 ∧ su.length ≤ 1 ∧ (pr.length : Int) + (su.length : Int) ≤ d ∧ d ≤ m ∧ m < 10) ∧ ∀ p xs H2, H p = none → Ex H H2 → H2 p = some (.lst xs) → DtAll K H2 xs ((endF m d pr su).map lotD) → Q (.ref p) H2
theorem ev_ended {σ : L2.St} {H : Hp} {ta : TA} {E : XK} {m d : Int} {pr su : List Int} (h : EvB K ta σ H [.int m, .int d, lotD pr, lotD su]) (hp : pr.length ≤ 1 ∧ su.length ≤ 1 ∧ (pr.length : Int) + (su.length : Int) ≤ d ∧ d ≤ m ∧ m < 10) : EvF K (tCall (sp_ended K) [] E ta) σ H ((endF m d pr su).map lotD) := fun H1 e Q q => h H1 e _ fun vs H2 e2 ha => ⟨m, d, pr, su, (by show DtAll K H2 (vs ++ []) _; rw [List.append_nil]; exact ha), hp, fun p xs H3 np e3 hx hd => q p xs H3 (fresh_back e2 np) (e2.trans e3) hx hd⟩
theorem ok_ended (L : All K mg) {k : Nat} : FnOk P w K mg base CX0 (k + 3) L.f_ended L.fd_ended ["many", "deep", "head", "tail"] (sp_ended K) := by
  have B := L.B
  have D_choices := L.D_choices
  have G_choices := ok_choices (P := P) (w := w) (base := base) L (k := 0)
  have D_paired := L.D_paired
  have G_paired := ok_paired (P := P) (w := w) (base := base) L (k := 0)
  refine L.D_ended.F.ok sc_ended (fun vs H Q E h => ?_) (fun cdv A outer s H vs Q E hr h => ?_)
  · obtain ⟨m, d, pr, su, h, _⟩ := h
    rw [dta_len h]
    rfl
  · obtain ⟨m, d, pr, su, h, hp, q⟩ := h
    obtain ⟨v0, v1, v2, v3, rfl, h0, h1, h2, h3⟩ := dta4 h
    obtain rfl := dt_int h0
    obtain rfl := dt_int h1
    refine ⟨_, (pss_cons (ps_set (i := 4) sc_ended.nd rfl (.inl rfl) (pe_op op_fdiv (pe_op op_sub (pe_op op_sub (pv 1) (pe_callB (show CallR _ _ (rLenS K) from call_len_seq) (by rfl) B.len_ (by decide +kernel) (pa_cons (pv 2) pa_nil))) (pe_callB (show CallR _ _ (rLenS K) from call_len_seq) (by rfl) B.len_ (by decide +kernel) (pa_cons (pv 3) pa_nil))) pe_int))  (pss_cons (ps_set (i := 5) sc_ended.nd rfl (.inl rfl) (pe_op op_sub (pe_op op_sub (pv 0) (pe_callB (show CallR _ _ (rLenS K) from call_len_seq) (by rfl) B.len_ (by decide +kernel) (pa_cons (pv 2) pa_nil))) (pe_callB (show CallR _ _ (rLenS K) from call_len_seq) (by rfl) B.len_ (by decide +kernel) (pa_cons (pv 3) pa_nil))))  (pss_one (ps_ret (pe_lc (own := [("chosen", 6)]) rfl sc_ended.nd (pi_list (pe_call G_choices (hr.mono (by omega)) (by rfl) D_choices.g D_choices.F.kp D_choices.b .nil pass0 (pa_cons (pe_op op_sub (pv 5) (pv 4)) (pa_cons (pv 4) pa_nil)))) (blkOk_by (own := [("chosen", 6)]) (N := N_ended) (sc := defScope s_ended) (by decide +kernel)) (fun _ _ _ _ _ => (pg_name (i := 6) sc_ended.nd rfl (.inl rfl))) (fun _ _ _ _ _ => pts_nil) (fun _ _ _ _ _ => (pe_op (show OpR _ _ (rCatA K) from op_catA) (pe_op (show OpR _ _ (rCatA K) from op_catA) (pv 2) (pe_call G_paired (hr.mono (by omega)) (by rfl) D_paired.g D_paired.F.kp D_paired.b .nil pass0 (pa_cons (pv 6) (pa_cons (pe_callB (show CallR _ _ (rLenS K) from call_len_seq) (by rfl) B.len_ (by decide +kernel) (pa_cons (pv 2) pa_nil)) pa_nil)))) (pv 3)))))))), ?_⟩
    obtain ⟨p1, p2, p3, p4, p5⟩ := hp
    refine q_asg (v := .int ((d - (pr.length : Int) - (su.length : Int)) / 2)) (ev_op (ev_op (ev_op (ev_var rfl) (ev_lenI (K := K) (ed_var rfl h2)) rv_I0) (ev_lenI (K := K) (ed_var rfl h3)) rv_I0) ev_c (rv_I ⟨by decide, by decide⟩)) fun H1 e1 => ?_
    refine q_asg (v := .int (m - (pr.length : Int) - (su.length : Int))) (ev_op (ev_op (ev_var rfl) (ev_lenI (K := K) (ed_var rfl (dt_ex e1 h2))) rv_I0) (ev_lenI (K := K) (ed_var rfl (dt_ex e1 h3))) rv_I0) fun H2 e2 => ?_
    have e12 := e1.trans e2
    have hll : (lotsL (m - (pr.length : Int) - (su.length : Int) - (d - (pr.length : Int) - (su.length : Int)) / 2) ((d - (pr.length : Int) - (su.length : Int)) / 2).toNat).length ≤ 200 := lots_len (by omega) (by omega) (by omega)
    refine s_retF (ef_is (ef_lcF (ds := (lotsL (m - (pr.length : Int) - (su.length : Int) - (d - (pr.length : Int) - (su.length : Int)) / 2) ((d - (pr.length : Int) - (su.length : Int)) / 2).toNat).map lotD) (fun _ => true) (fun x => lotD (pr ++ pairedF (unlot x) (pr.length : Int) ++ su)) (ev_choices (K := K) (eb_cons (ed_int (ev_op (ev_var rfl) (ev_var rfl) rv_I0)) (eb_cons (ed_int (ev_var rfl)) eb_nil)) (by first | assumption | omega | (refine ⟨?_, ?_⟩ <;> first | assumption | omega) | (refine ⟨?_, ?_, ?_⟩ <;> first | assumption | omega) | (refine ⟨?_, ?_, ?_, ?_⟩ <;> first | assumption | omega) | (repeat' apply And.intro) <;> first | assumption | omega)) (by rw [List.length_map]; omega) (fun _ => rfl) (fun _ _ _ _ _ _ => et_yes) (fun x v H3 e3 hm hx _ => ?_)) ?_) fun p xs H3 np e3 hp hx => q p xs H3 (fresh_back e12 np) (e12.trans e3) hp hx
    · obtain ⟨l, hl, rfl⟩ := mem_lots hm
      rw [unlot_lot]
      have hsz := lots_sz hl
      have hpl := pairedN_len l (pr.length : Int) l.length
      refine ed_catI (ed_catI (ed_var rfl (dt_ex (e12.trans e3) h2)) (ev_paired (K := K) (eb_cons (ed_var rfl hx) (eb_cons (ed_int (ev_lenI (K := K) (ed_var rfl (dt_ex (e12.trans e3) h2)))) eb_nil)) (by omega)) ?_) (ed_var rfl (dt_ex (e12.trans e3) h3)) ?_
      · show pr.length + (pairedN l (pr.length : Int) l.length).length ≤ 1000
        omega
      · rw [List.length_append]
        show pr.length + (pairedN l (pr.length : Int) l.length).length + su.length ≤ 1000
        omega
    · rw [List.filter_eq_self.mpr (fun _ _ => rfl), List.map_map]
      unfold endF
      rw [List.map_map]
      congr 1
      funext l
      show lotD (pr ++ pairedF (unlot (lotD l)) (pr.length : Int) ++ su) = _
      rw [unlot_lot]
      rfl
def sp_low_lots (K : PySem.W.Frag) : Sp := fun vs H Q _ => ∃ (m d : Int), DtAll K H vs [.int m, .int d] ∧ (1 ≤ d ∧ d ≤ m ∧ m < 10) ∧ ∀ p xs H2, H p = none → Ex H H2 → H2 p = some (.lst xs) → DtAll K H2 xs ((lowF m d).map lotD) → Q (.ref p) H2
theorem ev_low_lots {σ : L2.St} {H : Hp} {ta : TA} {E : XK} {m d : Int} (h : EvB K ta σ H [.int m, .int d]) (hp : 1 ≤ d ∧ d ≤ m ∧ m < 10) : EvF K (tCall (sp_low_lots K) [] E ta) σ H ((lowF m d).map lotD) := fun H1 e Q q => h H1 e _ fun vs H2 e2 ha => ⟨m, d, (by show DtAll K H2 (vs ++ []) _; rw [List.append_nil]; exact ha), hp, fun p xs H3 np e3 hx hd => q p xs H3 (fresh_back e2 np) (e2.trans e3) hx hd⟩
theorem ok_low_lots (L : All K mg) {k : Nat} : FnOk P w K mg base CX0 (k + 4) L.f_low_lots L.fd_low_lots ["many", "deep"] (sp_low_lots K) := by
  have B := L.B
  have D_ended := L.D_ended
  have G_ended := ok_ended (P := P) (w := w) (base := base) L (k := 0)
  refine L.D_low_lots.F.ok sc_low_lots (fun vs H Q E h => ?_) (fun cdv A outer s H vs Q E hr h => ?_)
  · obtain ⟨m, d, h, _⟩ := h
    rw [dta_len h]
    rfl
  · obtain ⟨m, d, h, hp, q⟩ := h
    obtain ⟨v0, v1, rfl, h0, h1⟩ := dta2 h
    obtain rfl := dt_int h0
    obtain rfl := dt_int h1
    refine ⟨_, (pss_one (ps_ret (pe_call G_ended (hr.mono (by omega)) (by rfl) D_ended.g D_ended.F.kp D_ended.b .nil pass0 (pa_cons (pv 0) (pa_cons (pv 1) (pa_cons (pe_ifExp (pt_cmpR op_eq (pe_op op_mod (pv 1) pe_int) pe_int (nomark _)) (pe_tup (pa_cons pe_int pa_nil)) (pe_tup pa_nil)) (pa_cons (pe_tup pa_nil) pa_nil))))))), ?_⟩
    obtain ⟨p1, p2, p3⟩ := hp
    refine s_retF (ev_ended (K := K) (pr := if d % 2 = 1 then [0] else []) (su := []) (eb_cons (ed_int (ev_var rfl)) (eb_cons (ed_int (ev_var rfl)) (eb_cons (ed_if (b := decide (d % 2 = 1)) (et_test (ev_op (ev_op (ev_var rfl) ev_c (rv_I (by first | exact (by decide : (0 : Int) < 2) | omega))) ev_c rv_eqI)) (fun hb => ?_) (fun hb => ?_)) (eb_cons (ed_tup eb_nil (by decide)) eb_nil)))) ?_) fun p xs H3 np e3 hp hx => q p xs H3 np e3 hp hx
    · rw [if_pos (of_decide_eq_true hb)]
      exact ed_tup (eb_cons (ed_int ev_c) eb_nil) (by decide)
    · rw [if_neg (of_decide_eq_false hb)]
      exact ed_tup eb_nil (by decide)
    · by_cases hd : d % 2 = 1
      · rw [if_pos hd]
        exact ⟨by decide, by decide, by show (1 : Int) + 0 ≤ d; omega, p2, p3⟩
      · rw [if_neg hd]
        exact ⟨by decide, by decide, by show (0 : Int) + 0 ≤ d; omega, p2, p3⟩
def sp_high_lots (K : PySem.W.Frag) : Sp := fun vs H Q _ => ∃ (m d : Int), DtAll K H vs [.int m, .int d] ∧ (1 ≤ d ∧ d ≤ m ∧ m < 10) ∧ ∀ p xs H2, H p = none → Ex H H2 → H2 p = some (.lst xs) → DtAll K H2 xs ((highF m d).map lotD) → Q (.ref p) H2
theorem ev_high_lots {σ : L2.St} {H : Hp} {ta : TA} {E : XK} {m d : Int} (h : EvB K ta σ H [.int m, .int d]) (hp : 1 ≤ d ∧ d ≤ m ∧ m < 10) : EvF K (tCall (sp_high_lots K) [] E ta) σ H ((highF m d).map lotD) := fun H1 e Q q => h H1 e _ fun vs H2 e2 ha => ⟨m, d, (by show DtAll K H2 (vs ++ []) _; rw [List.append_nil]; exact ha), hp, fun p xs H3 np e3 hx hd => q p xs H3 (fresh_back e2 np) (e2.trans e3) hx hd⟩
theorem ok_high_lots (L : All K mg) {k : Nat} : FnOk P w K mg base CX0 (k + 4) L.f_high_lots L.fd_high_lots ["many", "deep"] (sp_high_lots K) := by
  have B := L.B
  have D_ended := L.D_ended
  have G_ended := ok_ended (P := P) (w := w) (base := base) L (k := 0)
  refine L.D_high_lots.F.ok sc_high_lots (fun vs H Q E h => ?_) (fun cdv A outer s H vs Q E hr h => ?_)
  · obtain ⟨m, d, h, _⟩ := h
    rw [dta_len h]
    rfl
  · obtain ⟨m, d, h, hp, q⟩ := h
    obtain ⟨v0, v1, rfl, h0, h1⟩ := dta2 h
    obtain rfl := dt_int h0
    obtain rfl := dt_int h1
    refine ⟨_, (pss_one (ps_ret (pe_call G_ended (hr.mono (by omega)) (by rfl) D_ended.g D_ended.F.kp D_ended.b .nil pass0 (pa_cons (pv 0) (pa_cons (pv 1) (pa_cons (pe_ifExp (pt_cmpR op_eq (pe_op op_mod (pv 1) pe_int) pe_int (nomark _)) (pe_tup (pa_cons pe_int pa_nil)) (pe_tup pa_nil)) (pa_cons (pe_tup (pa_cons (pe_op op_sub (pv 0) pe_int) pa_nil)) pa_nil))))))), ?_⟩
    obtain ⟨p1, p2, p3⟩ := hp
    refine s_retF (ev_ended (K := K) (pr := if d % 2 = 0 then [0] else []) (su := [m - 1]) (eb_cons (ed_int (ev_var rfl)) (eb_cons (ed_int (ev_var rfl)) (eb_cons (ed_if (b := decide (d % 2 = 0)) (et_test (ev_op (ev_op (ev_var rfl) ev_c (rv_I (by first | exact (by decide : (0 : Int) < 2) | omega))) ev_c rv_eqI)) (fun hb => ?_) (fun hb => ?_)) (eb_cons (ed_tup (eb_cons (ed_int (ev_op (ev_var rfl) ev_c rv_I0)) eb_nil) (by show 1 ≤ 100000; decide)) eb_nil)))) ?_) fun p xs H3 np e3 hp hx => q p xs H3 np e3 hp hx
    · rw [if_pos (of_decide_eq_true hb)]
      exact ed_tup (eb_cons (ed_int ev_c) eb_nil) (by decide)
    · rw [if_neg (of_decide_eq_false hb)]
      exact ed_tup eb_nil (by decide)
    · by_cases hd : d % 2 = 0
      · rw [if_pos hd]
        exact ⟨by decide, by show 1 ≤ 1; decide, by show (1 : Int) + 1 ≤ d; omega, p2, p3⟩
      · rw [if_neg hd]
        exact ⟨by decide, by show 1 ≤ 1; decide, by show (0 : Int) + 1 ≤ d; omega, p2, p3⟩
def sp_low_panes (K : PySem.W.Frag) : Sp := fun vs H Q _ => ∃ (m d : Int), DtAll K H vs [curveD m d] ∧ (okC m d) ∧ ∀ p xs H2, H p = none → Ex H H2 → H2 p = some (.lst xs) → DtAll K H2 xs ((lowF m d).map lotD) → Q (.ref p) H2
theorem ev_low_panes {σ : L2.St} {H : Hp} {ta : TA} {E : XK} {m d : Int} (h : EvB K ta σ H [curveD m d]) (hp : okC m d) : EvF K (tCall (sp_low_panes K) [] E ta) σ H ((lowF m d).map lotD) := fun H1 e Q q => h H1 e _ fun vs H2 e2 ha => ⟨m, d, (by show DtAll K H2 (vs ++ []) _; rw [List.append_nil]; exact ha), hp, fun p xs H3 np e3 hx hd => q p xs H3 (fresh_back e2 np) (e2.trans e3) hx hd⟩
theorem ok_low_panes (L : All K mg) {k : Nat} : FnOk P w K mg base CX0 (k + 5) L.f_low_panes L.fd_low_panes ["curve"] (sp_low_panes K) := by
  have B := L.B
  have D_low_lots := L.D_low_lots
  have G_low_lots := ok_low_lots (P := P) (w := w) (base := base) L (k := 0)
  have D_need_curve := L.D_need_curve
  have G_need_curve := ok_need_curve (P := P) (w := w) (base := base) L (k := 0)
  refine L.D_low_panes.F.ok sc_low_panes (fun vs H Q E h => ?_) (fun cdv A outer s H vs Q E hr h => ?_)
  · obtain ⟨m, d, h, _⟩ := h
    rw [dta_len h]
    rfl
  · obtain ⟨m, d, h, hp, q⟩ := h
    obtain ⟨v0, rfl, h0⟩ := dta1 h
    refine ⟨_, (pss_cons (ps_expr (pe_call G_need_curve (hr.mono (by omega)) (by rfl) D_need_curve.g D_need_curve.F.kp D_need_curve.b .nil pass0 (pa_cons (pv 0) pa_nil)))  (pss_cons (ps_asg (pv 0) (pg_tup (by rfl) (pgs_cons (pg_name (i := 1) sc_low_panes.nd rfl (.inl rfl)) (pgs_cons (pg_name (i := 2) sc_low_panes.nd rfl (.inl rfl)) pgs_nil))))  (pss_one (ps_ret (pe_call G_low_lots (hr.mono (by omega)) (by rfl) D_low_lots.g D_low_lots.F.kp D_low_lots.b .nil pass0 (pa_cons (pv 1) (pa_cons (pv 2) pa_nil))))))), ?_⟩
    obtain ⟨c1, c2, c3, c4⟩ := id hp
    refine q_drop (ev_need_curve (K := K) (eb_cons (ed_var rfl h0) eb_nil) (by first | assumption | omega | (refine ⟨?_, ?_⟩ <;> first | assumption | omega) | (refine ⟨?_, ?_, ?_⟩ <;> first | assumption | omega) | (refine ⟨?_, ?_, ?_, ?_⟩ <;> first | assumption | omega) | (repeat' apply And.intro) <;> first | assumption | omega)) fun H1 e1 => ?_
    refine q_unC rfl (dt_ex e1 h0) ?_
    exact s_retF (ev_low_lots (K := K) (eb_cons (ed_int (ev_var rfl)) (eb_cons (ed_int (ev_var rfl)) eb_nil)) (by first | assumption | omega | (refine ⟨?_, ?_⟩ <;> first | assumption | omega) | (refine ⟨?_, ?_, ?_⟩ <;> first | assumption | omega) | (refine ⟨?_, ?_, ?_, ?_⟩ <;> first | assumption | omega) | (repeat' apply And.intro) <;> first | assumption | omega)) fun p xs H3 np e3 hp hx => q p xs H3 (fresh_back e1 np) (e1.trans e3) hp hx
def sp_high_panes (K : PySem.W.Frag) : Sp := fun vs H Q _ => ∃ (m d : Int), DtAll K H vs [curveD m d] ∧ (okC m d) ∧ ∀ p xs H2, H p = none → Ex H H2 → H2 p = some (.lst xs) → DtAll K H2 xs ((highF m d).map lotD) → Q (.ref p) H2
theorem ev_high_panes {σ : L2.St} {H : Hp} {ta : TA} {E : XK} {m d : Int} (h : EvB K ta σ H [curveD m d]) (hp : okC m d) : EvF K (tCall (sp_high_panes K) [] E ta) σ H ((highF m d).map lotD) := fun H1 e Q q => h H1 e _ fun vs H2 e2 ha => ⟨m, d, (by show DtAll K H2 (vs ++ []) _; rw [List.append_nil]; exact ha), hp, fun p xs H3 np e3 hx hd => q p xs H3 (fresh_back e2 np) (e2.trans e3) hx hd⟩
theorem ok_high_panes (L : All K mg) {k : Nat} : FnOk P w K mg base CX0 (k + 5) L.f_high_panes L.fd_high_panes ["curve"] (sp_high_panes K) := by
  have B := L.B
  have D_high_lots := L.D_high_lots
  have G_high_lots := ok_high_lots (P := P) (w := w) (base := base) L (k := 0)
  have D_need_curve := L.D_need_curve
  have G_need_curve := ok_need_curve (P := P) (w := w) (base := base) L (k := 0)
  refine L.D_high_panes.F.ok sc_high_panes (fun vs H Q E h => ?_) (fun cdv A outer s H vs Q E hr h => ?_)
  · obtain ⟨m, d, h, _⟩ := h
    rw [dta_len h]
    rfl
  · obtain ⟨m, d, h, hp, q⟩ := h
    obtain ⟨v0, rfl, h0⟩ := dta1 h
    refine ⟨_, (pss_cons (ps_expr (pe_call G_need_curve (hr.mono (by omega)) (by rfl) D_need_curve.g D_need_curve.F.kp D_need_curve.b .nil pass0 (pa_cons (pv 0) pa_nil)))  (pss_cons (ps_asg (pv 0) (pg_tup (by rfl) (pgs_cons (pg_name (i := 1) sc_high_panes.nd rfl (.inl rfl)) (pgs_cons (pg_name (i := 2) sc_high_panes.nd rfl (.inl rfl)) pgs_nil))))  (pss_one (ps_ret (pe_call G_high_lots (hr.mono (by omega)) (by rfl) D_high_lots.g D_high_lots.F.kp D_high_lots.b .nil pass0 (pa_cons (pv 1) (pa_cons (pv 2) pa_nil))))))), ?_⟩
    obtain ⟨c1, c2, c3, c4⟩ := id hp
    refine q_drop (ev_need_curve (K := K) (eb_cons (ed_var rfl h0) eb_nil) (by first | assumption | omega | (refine ⟨?_, ?_⟩ <;> first | assumption | omega) | (refine ⟨?_, ?_, ?_⟩ <;> first | assumption | omega) | (refine ⟨?_, ?_, ?_, ?_⟩ <;> first | assumption | omega) | (repeat' apply And.intro) <;> first | assumption | omega)) fun H1 e1 => ?_
    refine q_unC rfl (dt_ex e1 h0) ?_
    exact s_retF (ev_high_lots (K := K) (eb_cons (ed_int (ev_var rfl)) (eb_cons (ed_int (ev_var rfl)) eb_nil)) (by first | assumption | omega | (refine ⟨?_, ?_⟩ <;> first | assumption | omega) | (refine ⟨?_, ?_, ?_⟩ <;> first | assumption | omega) | (refine ⟨?_, ?_, ?_, ?_⟩ <;> first | assumption | omega) | (repeat' apply And.intro) <;> first | assumption | omega)) fun p xs H3 np e3 hp hx => q p xs H3 (fresh_back e1 np) (e1.trans e3) hp hx
end
/-! ### low and high -/
def outL (m : Int) (l : List Int) : List Int := (upTo 0 m).filter fun c => !l.contains c
def lastOut (m : Int) (l : List Int) : Int := (outL m l).getLast?.getD 0
def lowB (m : Int) (l : List Int) : Bool := decide (((l.filter fun c => decide (c > lastOut m l)).length : Int) % 2 = 0)
def lowOk (m : Int) (l : List Int) : Bool := (outL m l).contains (lastOut m l) && ((outL m l).all fun y => decide (y ≤ lastOut m l)) && decide (l.length ≤ 100) && decide ((outL m l).getLast? = some (lastOut m l))
def lowOks : Bool := curvesAll.all fun p => (panesL p.1 p.2).all (lowOk p.1)
theorem low_oks : lowOks = true := by decide +kernel
structure LowFacts (m : Int) (l : List Int) : Prop where
  last_in : lastOut m l ∈ outL m l
  last_max : ∀ y ∈ outL m l, y ≤ lastOut m l
  len : l.length ≤ 100
  last : (outL m l).getLast? = some (lastOut m l)
theorem low_facts {m d : Int} (hc : okC m d) {l : List Int} (hl : l ∈ panesL m d) : LowFacts m l := by
  have h := List.all_eq_true.mp (curve_all low_oks hc) l hl
  unfold lowOk at h
  simp only [Bool.and_eq_true, decide_eq_true_eq, List.all_eq_true, List.contains_iff_mem] at h
  obtain ⟨⟨⟨h3, h4⟩, h5⟩, h6⟩ := h
  exact ⟨h3, h4, h5, h6⟩
section
variable {P : Program} {w : World} {K : PySem.W.Frag} {mg : Str → Option Value} {base : Heap}
theorem ev_maxF {σ : L2.St} {H : Hp} {te : TE} {ns : List Int} {mx : Int} (h : EvF K te σ H (ns.map PyData.int)) (hm : mx ∈ ns) (ha : ∀ y ∈ ns, y ≤ mx) : Ev (tCB (rMax K) (tCons te tNil)) σ H (.int mx) := fun H1 e Q q =>
  h H1 e _ fun p xs H2 _ e2 hp hx => ⟨p, ns, rfl, by rw [dta_ints_inv hx] at hp; exact sq_of hp, List.length_pos_of_mem hm, fun m' h1 h2 => by
    have e1 := h2 mx hm
    have e3 := ha m' h1
    have : m' = mx := by omega
    subst this
    exact q H2 e2⟩
theorem ef_out {σ : L2.St} {H : Hp} {ta : TA} {tb : TE} {j : Nat} {vs : List Nat} {m : Int} {l : List Int} (h : EvA ta σ H [.int m]) (m0 : 0 ≤ m) (m1 : m < 1000) (hw : ∀ x, wipe ((wipe σ vs).set j (some x)) vs = wipe σ vs) (hj : ∀ x, ((wipe σ vs).set j (some x))[j]? = some (some x)) (hb : ∀ i H1, Ex H H1 → EvD K tb ((wipe σ vs).set j (some (.int i))) H1 (lotD l)) :
    EvF K (tLc (iRng1 ta) (gName j) (tTest (tOp (rIn K true) (tVar j) tb)) (tVar j) vs) σ H ((outL m l).map PyData.int) :=
  ef_lcR1 (fun c => !l.contains c) PyData.int h ⟨by omega, by omega⟩ hw (fun i H1 e1 _ _ => et_test (ev_niI (K := K) (ev_var (hj _)) (hb i H1 e1))) (fun i H1 e1 _ _ _ => ed_int (ev_var (hj _)))
/-- len([c for c in lot if c > last]) -/
theorem ev_above {σ : L2.St} {H : Hp} {tl tx : TE} {j : Nat} {vs : List Nat} {l : List Int} {z : Int} (h : EvD K tl σ H (lotD l)) (hl : l.length ≤ 1000) (hw : ∀ x, wipe ((wipe σ vs).set j (some x)) vs = wipe σ vs) (hj : ∀ x, ((wipe σ vs).set j (some x))[j]? = some (some x)) (hz : ∀ i H1, Ev tx ((wipe σ vs).set j (some (.int i))) H1 (.int z)) :
    Ev (tCB (rLenS K) (tCons (tLc (iTup K tl) (gName j) (tTest (tOp (rI0 fun i j => .bl (decide (i > j))) (tVar j) tx)) (tVar j) vs) tNil)) σ H (.int ((l.filter fun c => decide (c > z)).length : Int)) := by
  refine ev_is (ev_lenF (K := K) (ef_lcT (ds := l.map PyData.int) (fun d => decide (unint d > z)) (fun d => d) h (by rw [List.length_map]; omega) hw (fun d x H1 e1 hm hd => ?_) (fun d x H1 e1 hm hd _ => ed_var (hj _) hd))) ?_
  · obtain ⟨c, _, rfl⟩ := mem_ints hm
    obtain rfl := dt_int hd
    exact et_test (ev_op (ev_var (hj _)) (hz c H1) rv_I0)
  · rw [filt_len (g := fun c => decide (c > z)) (fun _ => rfl)]
def sp__law_low (K : PySem.W.Frag) : Sp := fun vs H Q _ => ∃ (m d : Int) (l : List Int), DtAll K H vs [curveD m d, lotD l] ∧ (okC m d ∧ LowFacts m l) ∧ ∀ H2, Ex H H2 → Q (.bl (lowB m l)) H2
theorem ev__law_low {σ : L2.St} {H : Hp} {ta : TA} {E : XK} {m d : Int} {l : List Int} (h : EvB K ta σ H [curveD m d, lotD l]) (hp : okC m d ∧ LowFacts m l) : Ev (tCall (sp__law_low K) [] E ta) σ H (.bl (lowB m l)) := fun H1 e Q q => h H1 e _ fun vs H2 e2 ha => ⟨m, d, l, (by show DtAll K H2 (vs ++ []) _; rw [List.append_nil]; exact ha), hp, fun H3 e3 => q H3 (e2.trans e3)⟩
theorem ok__law_low (L : All K mg) {k : Nat} : FnOk P w K mg base CX0 (k + 1) L.f__law_low L.fd__law_low ["_law_curve_here", "_law_pane"] (sp__law_low K) := by
  have B := L.B
  refine L.D__law_low.F.ok sc__law_low (fun vs H Q E h => ?_) (fun cdv A outer s H vs Q E hr h => ?_)
  · obtain ⟨m, d, l, h, _⟩ := h
    rw [dta_len h]
    rfl
  · obtain ⟨m, d, l, h, hp, q⟩ := h
    obtain ⟨v0, v1, rfl, h0, h1⟩ := dta2 h
    refine ⟨_, (pss_cons (ps_set (i := 2) sc__law_low.nd rfl (.inr rfl) (pe_ix (show IxR _ (rIxL K) from ix_list) (pe_lc (own := [("_law_corner", 3)]) rfl sc__law_low.nd (pi_range1 (by rfl) B.range_ (pa_cons (pe_ix (show IxR _ (rIxT K) from ix_tup) (pv 0) pe_int (fun _ _ => rfl)) pa_nil)) (blkOk_by (own := [("_law_corner", 3)]) (N := N__law_low) (sc := defScope s__law_low) (by decide +kernel)) (fun _ _ _ _ _ => (pg_name (i := 3) sc__law_low.nd rfl (.inl rfl))) (fun _ _ _ _ _ => pts_one (pt_cmpR (show OpR _ _ (rIn K true) from op_notIn_seq) (pv 3) (pv 1) (by rfl))) (fun _ _ _ _ _ => (pv 3))) (pe_un un_neg pe_int) (fun _ _ => rfl)))  (pss_one (ps_ret (pe_cmpR op_eq (pe_op op_mod (pe_callB (show CallR _ _ (rLenS K) from call_len_seq) (by rfl) B.len_ (by decide +kernel) (pa_cons (pe_lc (own := [("_law_corner", 3)]) rfl sc__law_low.nd (pi_tup (pv 1)) (blkOk_by (own := [("_law_corner", 3)]) (N := N__law_low) (sc := defScope s__law_low) (by decide +kernel)) (fun _ _ _ _ _ => (pg_name (i := 3) sc__law_low.nd rfl (.inl rfl))) (fun _ _ _ _ _ => pts_one (pt_cmpR op_gt (pv 3) (pv 2) (nomark _))) (fun _ _ _ _ _ => (pv 3))) pa_nil)) pe_int) pe_int (nomark _))))), ?_⟩
    obtain ⟨hc, hf⟩ := id hp
    obtain ⟨c1, c2, c3, c4⟩ := id hc
    have hlen := hf.len
    refine q_asg (v := .int (lastOut m l)) (ev_int (K := K) (ed_ixF (ef_out (ea_cons (ev_int (K := K) (ed_ixT (ds := [.int m, .int d]) (ed_var rfl h0) ev_c rfl)) ea_nil) (by omega) (by omega) (fun _ => rfl) (fun _ => rfl) (fun i H2 e2 => ed_var rfl (dt_ex e2 h1))) (ev_un ev_c ru_neg) ?_)) fun H2 e2 => ?_
    · have hne : outL m l ≠ [] := fun z => by have := hf.last_in; rw [z] at this; cases this
      have := hf.last
      rw [List.getLast?_eq_some_getLast hne] at this
      rw [← Option.some.inj this]
      exact lotD_ix (lastD _ hne)
    exact s_ret (ev_op (ev_op (ev_above (K := K) (ed_var rfl (dt_ex e2 h1)) (by omega) (fun _ => rfl) (fun _ => rfl) (fun _ _ => ev_var rfl)) ev_c (rv_I (by show (0 : Int) < 2; decide))) ev_c rv_eqI) fun H3 e3 => q H3 (e2.trans e3)
end
def paneOk (m d : Int) (l : List Int) : Bool := paneF m d l && lotL m l
def paneOks : Bool := curvesAll.all fun p => (panesL p.1 p.2).all (paneOk p.1 p.2)
theorem pane_oks : paneOks = true := by decide +kernel
structure PaneFacts (m d : Int) (l : List Int) : Prop extends LowFacts m l where
  pane : paneF m d l = true
  lot : lotL m l = true
theorem pane_facts {m d : Int} (hc : okC m d) {l : List Int} (hl : l ∈ panesL m d) : PaneFacts m d l := by
  have h := List.all_eq_true.mp (curve_all pane_oks hc) l hl
  unfold paneOk at h
  simp only [Bool.and_eq_true] at h
  exact ⟨low_facts hc hl, h.1, h.2⟩
section
variable {P : Program} {w : World} {K : PySem.W.Frag} {mg : Str → Option Value} {base : Heap}
def sp_need_pane (K : PySem.W.Frag) : Sp := fun vs H Q _ => ∃ (m d : Int) (l : List Int), DtAll K H vs [curveD m d, lotD l] ∧ (okC m d ∧ PaneFacts m d l) ∧ ∀ H2, Ex H H2 → Q (.non) H2
theorem ev_need_pane {σ : L2.St} {H : Hp} {ta : TA} {E : XK} {m d : Int} {l : List Int} (h : EvB K ta σ H [curveD m d, lotD l]) (hp : okC m d ∧ PaneFacts m d l) : Ev (tCall (sp_need_pane K) [] E ta) σ H (.non) := fun H1 e Q q => h H1 e _ fun vs H2 e2 ha => ⟨m, d, l, (by show DtAll K H2 (vs ++ []) _; rw [List.append_nil]; exact ha), hp, fun H3 e3 => q H3 (e2.trans e3)⟩
theorem ok_need_pane (L : All K mg) {k : Nat} : FnOk P w K mg base CX0 (k + 6) L.f_need_pane L.fd_need_pane ["curve", "pane"] (sp_need_pane K) := by
  have B := L.B
  have D_is_pane := L.D_is_pane
  have G_is_pane := ok_is_pane (P := P) (w := w) (base := base) L (k := 0)
  refine L.D_need_pane.F.ok sc_need_pane (fun vs H Q E h => ?_) (fun cdv A outer s H vs Q E hr h => ?_)
  · obtain ⟨m, d, l, h, _⟩ := h
    rw [dta_len h]
    rfl
  · obtain ⟨m, d, l, h, hp, q⟩ := h
    obtain ⟨v0, v1, rfl, h0, h1⟩ := dta2 h
    refine ⟨_, (pss_one (ps_if (pt_not (pt_val (pe_call G_is_pane (hr.mono (by omega)) (by rfl) D_is_pane.g D_is_pane.F.kp D_is_pane.b .nil pass0 (pa_cons (pv 1) (pa_cons (pv 0) pa_nil)))))   (pss_one ps_never)   pss_nil)), ?_⟩
    obtain ⟨hc, hf⟩ := hp
    refine s_when (b := false) (et_is (et_not (et_B (ev_pane (K := K) (r := some l) (ev_var rfl) (ed_var rfl h0) hc ⟨h1, hf.lot⟩ (fun l' e => by cases e; have := hf.len; omega)))) ?_) (fun hb => by cases hb) (fun _ H2 e2 => q H2 e2)
    show (!paneF m d l) = false
    rw [hf.pane]
    rfl
def sp_is_low (K : PySem.W.Frag) : Sp := fun vs H Q _ => ∃ (m d : Int) (l : List Int), DtAll K H vs [curveD m d, lotD l] ∧ (okC m d ∧ PaneFacts m d l) ∧ ∀ H2, Ex H H2 → Q (.bl (lowB m l)) H2
theorem ev_is_low {σ : L2.St} {H : Hp} {ta : TA} {E : XK} {m d : Int} {l : List Int} (h : EvB K ta σ H [curveD m d, lotD l]) (hp : okC m d ∧ PaneFacts m d l) : Ev (tCall (sp_is_low K) [] E ta) σ H (.bl (lowB m l)) := fun H1 e Q q => h H1 e _ fun vs H2 e2 ha => ⟨m, d, l, (by show DtAll K H2 (vs ++ []) _; rw [List.append_nil]; exact ha), hp, fun H3 e3 => q H3 (e2.trans e3)⟩
theorem ok_is_low (L : All K mg) {k : Nat} : FnOk P w K mg base CX0 (k + 7) L.f_is_low L.fd_is_low ["curve", "pane"] (sp_is_low K) := by
  have B := L.B
  have D_need_pane := L.D_need_pane
  have G_need_pane := ok_need_pane (P := P) (w := w) (base := base) L (k := 0)
  refine L.D_is_low.F.ok sc_is_low (fun vs H Q E h => ?_) (fun cdv A outer s H vs Q E hr h => ?_)
  · obtain ⟨m, d, l, h, _⟩ := h
    rw [dta_len h]
    rfl
  · obtain ⟨m, d, l, h, hp, q⟩ := h
    obtain ⟨v0, v1, rfl, h0, h1⟩ := dta2 h
    refine ⟨_, (pss_cons (ps_expr (pe_call G_need_pane (hr.mono (by omega)) (by rfl) D_need_pane.g D_need_pane.F.kp D_need_pane.b .nil pass0 (pa_cons (pv 0) (pa_cons (pv 1) pa_nil))))  (pss_cons (ps_set (i := 2) sc_is_low.nd rfl (.inr rfl) (pe_callB (show CallR _ _ (rMax K) from cr_max rfl) (by rfl) B.max_ (by decide +kernel) (pa_cons (pe_lc (own := [("corner", 3)]) rfl sc_is_low.nd (pi_range1 (by rfl) B.range_ (pa_cons (pe_ix (show IxR _ (rIxT K) from ix_tup) (pv 0) pe_int (fun _ _ => rfl)) pa_nil)) (blkOk_by (own := [("corner", 3)]) (N := N_is_low) (sc := defScope s_is_low) (by decide +kernel)) (fun _ _ _ _ _ => (pg_name (i := 3) sc_is_low.nd rfl (.inl rfl))) (fun _ _ _ _ _ => pts_one (pt_cmpR (show OpR _ _ (rIn K true) from op_notIn_seq) (pv 3) (pv 1) (by rfl))) (fun _ _ _ _ _ => (pv 3))) pa_nil)))  (pss_one (ps_ret (pe_cmpR op_eq (pe_op op_mod (pe_callB (show CallR _ _ (rLenS K) from call_len_seq) (by rfl) B.len_ (by decide +kernel) (pa_cons (pe_lc (own := [("corner", 3)]) rfl sc_is_low.nd (pi_tup (pv 1)) (blkOk_by (own := [("corner", 3)]) (N := N_is_low) (sc := defScope s_is_low) (by decide +kernel)) (fun _ _ _ _ _ => (pg_name (i := 3) sc_is_low.nd rfl (.inl rfl))) (fun _ _ _ _ _ => pts_one (pt_cmpR op_gt (pv 3) (pv 2) (nomark _))) (fun _ _ _ _ _ => (pv 3))) pa_nil)) pe_int) pe_int (nomark _)))))), ?_⟩
    obtain ⟨hc, hf⟩ := id hp
    obtain ⟨c1, c2, c3, c4⟩ := id hc
    have hlen := hf.len
    refine q_drop (ev_need_pane (K := K) (eb_cons (ed_var rfl h0) (eb_cons (ed_var rfl h1) eb_nil)) (by first | assumption | omega | (refine ⟨?_, ?_⟩ <;> first | assumption | omega) | (refine ⟨?_, ?_, ?_⟩ <;> first | assumption | omega) | (refine ⟨?_, ?_, ?_, ?_⟩ <;> first | assumption | omega) | (repeat' apply And.intro) <;> first | assumption | omega)) fun H1 e1 => ?_
    refine q_asg (v := .int (lastOut m l)) (ev_maxF (K := K) (ef_out (ea_cons (ev_int (K := K) (ed_ixT (ds := [.int m, .int d]) (ed_var rfl (dt_ex e1 h0)) ev_c rfl)) ea_nil) (by omega) (by omega) (fun _ => rfl) (fun _ => rfl) (fun i H2 e2 => ed_var rfl (dt_ex (e1.trans e2) h1))) hf.last_in hf.last_max) fun H2 e2 => ?_
    exact s_ret (ev_op (ev_op (ev_above (K := K) (ed_var rfl (dt_ex (e1.trans e2) h1)) (by omega) (fun _ => rfl) (fun _ => rfl) (fun _ _ => ev_var rfl)) ev_c (rv_I (by show (0 : Int) < 2; decide))) ev_c rv_eqI) fun H3 e3 => q H3 ((e1.trans e2).trans e3)
end
def lowL (m d : Int) : List (List Int) := (panesL m d).filter (lowB m)
def highL (m d : Int) : List (List Int) := (panesL m d).filter fun l => !((lowL m d).any fun z => decide (z = l))
def ok31 (m d : Int) : Bool := decide (lowF m d = lowL m d) && decide (highF m d = highL m d) && decide ((panesL m d).length ≤ 60) && ((panesL m d).all fun l => lowB m l == (lowL m d).any fun z => decide (z = l))
def all31 : Bool := curvesAll.all fun p => ok31 p.1 p.2
theorem all_31 : all31 = true := by decide +kernel
theorem low21 : lowF 2 1 = [[0]] := by decide +kernel
theorem high21 : highF 2 1 = [[1]] := by decide +kernel
section
variable {P : Program} {w : World} {K : PySem.W.Frag} {mg : Str → Option Value} {base : Heap}
def S31 (L : All K mg) : Addr → Option Sp := fun f => if f = L.f_low_panes then some (sp_low_panes K) else if f = L.f_high_panes then some (sp_high_panes K) else none
theorem ne31 (L : All K mg) : L.f_high_panes ≠ L.f_low_panes := fun e => by
  obtain ⟨oc, od, kV, doc, pm, an, cdv, ct, osl, e1, lk, hcd⟩ := L.D_low_panes.F.ex
  obtain ⟨oc', od', kV', doc', pm', an', cdv', ct', osl', e1', lk', hcd'⟩ := L.D_high_panes.F.ex
  rw [e, lk] at lk'
  have h1 := congrArg (fun o : Option Obj => o.map fun x => x.data) lk'
  have h2 : Data.func L.fd_low_panes = Data.func L.fd_high_panes := Option.some.inj h1
  rw [e1, e1'] at h2
  have h3 := congrArg (fun d => match d with | Data.func fd => fd.name | _ => "") h2
  have h4 : ("low_panes" : Str) = "high_panes" := h3
  exact absurd h4 (by decide)
theorem held31 (L : All K mg) : ∀ f sp, S31 L f = some sp → Held P w K mg base (0 + 5) f sp := fun f sp h => by
  unfold S31 at h
  by_cases h1 : f = L.f_low_panes
  · rw [if_pos h1] at h
    subst h1
    cases h
    exact ⟨_, _, ok_low_panes (k := 0) L, L.D_low_panes.F.kp, L.D_low_panes.b⟩
  · rw [if_neg h1] at h
    by_cases h2 : f = L.f_high_panes
    · rw [if_pos h2] at h
      subst h2
      cases h
      exact ⟨_, _, ok_high_panes (k := 0) L, L.D_high_panes.F.kp, L.D_high_panes.b⟩
    · rw [if_neg h2] at h
      cases h
theorem ef_callLow (L : All K mg) {σ : L2.St} {H : Hp} {i : Nat} {ta : TA} {m d : Int} (hi : σ[i]? = some (some (.ref L.f_low_panes))) (h : EvB K ta σ H [curveD m d]) (hc : okC m d) : EvF K (tCallA i (S31 L) ta) σ H ((lowF m d).map lotD) := fun H1 e Q q =>
  ⟨_, sp_low_panes K, hi, by unfold S31; rw [if_pos rfl], h H1 e _ fun vs H2 e2 hv => ⟨m, d, hv, hc, fun p xs H3 np e3 hp hx => q p xs H3 (fresh_back e2 np) (e2.trans e3) hp hx⟩⟩
theorem ef_callHigh (L : All K mg) {σ : L2.St} {H : Hp} {i : Nat} {ta : TA} {m d : Int} (hi : σ[i]? = some (some (.ref L.f_high_panes))) (h : EvB K ta σ H [curveD m d]) (hc : okC m d) : EvF K (tCallA i (S31 L) ta) σ H ((highF m d).map lotD) := fun H1 e Q q =>
  ⟨_, sp_high_panes K, hi, by unfold S31; rw [if_neg (ne31 L), if_pos rfl], h H1 e _ fun vs H2 e2 hv => ⟨m, d, hv, hc, fun p xs H3 np e3 hp hx => q p xs H3 (fresh_back e2 np) (e2.trans e3) hp hx⟩⟩
theorem q_parFN {D : Ends} {σ : L2.St} {H : Hp} {tz : TS} {ta tb : TE} {i j : Nat} {ds es : List PyData} (h1 : EvF K ta σ H ds) (h2 : ∀ H1, Ex H H1 → EvF K tb σ H1 es) (k : ∀ p xs q ys H2, Ex H H2 → H p = none → H q = none → p ≠ q → H2 p = some (.lst xs) → DtAll K H2 xs ds → H2 q = some (.lst ys) → DtAll K H2 ys es → tz D ((σ.set i (some (.ref p))).set j (some (.ref q))) H2) : tSeq (tPar i j (tCons ta (tCons tb tNil))) tz D σ H :=
  h1 H (Ex.refl H) _ fun p xs H1 np e1 hp hx => h2 H1 e1 H1 (Ex.refl H1) _ fun q ys H2 nq e2 hq hy => ⟨.ref p, .ref q, rfl, k p xs q ys H2 (e1.trans e2) np (fresh_back e1 nq) (ne_free hp nq).symm (e2 p _ hp) (dta_ex e2 hx) hq hy⟩
theorem rv_niD {H : Hp} {x : V} {a : Addr} {xs : List V} {l : List Int} {ls : List (List Int)} (hx : Dt K H x (lotD l)) (hs : SqL K H a xs) (hd : DtAll K H xs (ls.map lotD)) : RV (rNotInD K) x (.ref a) H (.bl (!(ls.any fun z => decide (z = l)))) := fun H1 e Q q =>
  ⟨lotD l, ls.map lotD, dt_dp (dt_ex e hx), .lst (ex_l e hs) (dta_dp (dta_ex e hd)), lot_shaped l, lots_shaped ls, by rw [any_lot]; exact q H1 (Ex.refl H1)⟩
end
section
variable {P : Program} {w : World} {K : PySem.W.Frag} {mg : Str → Option Value} {base : Heap}
theorem ok_law (L : All K mg) {f : Addr} {fd : FuncData} (D : Df K mg "law" s_law ["_law_script"] f fd) : FnOk P w K mg base CX0 8 f fd ["_law_script"] (spLaw K) := by
  have B := L.B
  have D_is_low := L.D_is_low
  have G_is_low := ok_is_low (P := P) (w := w) (base := base) L (k := 0)
  have D_low_panes := L.D_low_panes
  have G_low_panes := ok_low_panes (P := P) (w := w) (base := base) L (k := 0)
  have D_high_panes := L.D_high_panes
  have G_high_panes := ok_high_panes (P := P) (w := w) (base := base) L (k := 0)
  have D__law_box := L.D__law_box
  have G__law_box := ok__law_box (P := P) (w := w) (base := base) L (k := 0)
  have D__law_curve := L.D__law_curve
  have G__law_curve := ok__law_curve (P := P) (w := w) (base := base) L (k := 0)
  have D__law_panes := L.D__law_panes
  have G__law_panes := ok__law_panes (P := P) (w := w) (base := base) L (k := 0)
  have D__law_low := L.D__law_low
  have G__law_low := ok__law_low (P := P) (w := w) (base := base) L (k := 0)
  refine D.F.ok sc_law (fun vs H Q E h => ?_) (fun cdv A outer s H vs Q E hr h => ?_)
  · obtain ⟨a, ns, rfl, _⟩ := h
    rfl
  · obtain ⟨a, ns, rfl, hS, hlen, q⟩ := h
    refine ⟨_, (pss_cons (ps_for PassesOwn.never rfl (pi_range1 (by rfl) B.range_ (pa_cons (pe_callB (call_max2 rfl) (by rfl) B.max_ (by decide +kernel) (pa_cons pe_int (pa_cons (pe_callB (call_min2 rfl) (by rfl) B.min_ (by decide +kernel) (pa_cons (pe_callB (show CallR _ _ (rLenS K) from call_len_seq) (by rfl) B.len_ (by decide +kernel) (pa_cons (pv 0) pa_nil)) (pa_cons pe_int pa_nil))) pa_nil))) pa_nil)) (pg_name (i := 1) sc_law.nd rfl (.inl rfl))  (pss_cons (ps_set (i := 2) sc_law.nd rfl (.inl rfl) (pe_call G__law_box (hr.mono (by omega)) (by rfl) D__law_box.g D__law_box.F.kp D__law_box.b .nil pass0 (pa_cons (pv 0) (pa_cons (pv 1) pa_nil)))) (pss_cons (ps_set (i := 3) sc_law.nd rfl (.inr rfl) (pe_call G__law_curve (hr.mono (by omega)) (by rfl) D__law_curve.g D__law_curve.F.kp D__law_curve.b .nil pass0 (pa_cons (pv 2) pa_nil))) (pss_cons (ps_set (i := 4) sc_law.nd rfl (.inl rfl) (pe_call G__law_panes (hr.mono (by omega)) (by rfl) D__law_panes.g D__law_panes.F.kp D__law_panes.b .nil pass0 (pa_cons (pv 3) pa_nil))) (pss_cons (ps_set (i := 5) sc_law.nd rfl (.inr rfl) (pe_lc (own := [("_law_pane", 6)]) rfl sc_law.nd (pi_list (pv 4)) (blkOk_by (own := [("_law_pane", 6)]) (N := N_law) (sc := defScope s_law) (by decide +kernel)) (fun _ _ _ _ _ => (pg_name (i := 6) sc_law.nd rfl (.inl rfl))) (fun _ _ _ _ _ => pts_one (pt_val (pe_call G__law_low (hr.mono (by omega)) (by rfl) D__law_low.g D__law_low.F.kp D__law_low.b .nil pass0 (pa_cons (pv 3) (pa_cons (pv 6) pa_nil))))) (fun _ _ _ _ _ => (pv 6)))) (pss_cons (ps_setLc (i := 7) (own := [("_law_pane", 6)]) rfl sc_law.nd rfl rfl (sw_true rfl rfl rfl (by decide +kernel)) (pi_list (pv 4)) (blkOk_by (own := [("_law_pane", 6)]) (N := N_law) (sc := defScope s_law) (by decide +kernel)) (fun _ _ _ _ _ => (pg_name (i := 6) sc_law.nd rfl (.inl rfl))) (fun _ _ _ _ _ => pts_one (pt_cmpR (show OpR _ _ (rNotInD K) from op_notInD (units1 hr)) (pv 6) (pv 5) (by rfl))) (fun _ _ _ _ _ => (pv 6))) (pss_cons (ps_for PassesOwn.never rfl (pi_list (pv 4)) (pg_name (i := 6) sc_law.nd rfl (.inl rfl))  (pss_cons (ps_set (i := 8) sc_law.nd rfl (.inl rfl) (pe_call G_is_low (hr.mono (by omega)) (by rfl) D_is_low.g D_is_low.F.kp D_is_low.b .nil pass0 (pa_cons (pv 3) (pa_cons (pv 6) pa_nil)))) (pss_one (ps_if (PW.pt (pw_or (pt_not (pt_val (pe_callB (show CallR _ _ (rIsi K) from call_isi) (by rfl) B.isinstance_ (by decide +kernel) (pa_cons (pv 8) (pa_cons (pe_bltn (v := .ty "bool") (by rfl) B.bool_ (by decide +kernel) rfl) pa_nil))))) (pw_or1 (pt_cmpR op_ne (pv 8) (pe_cmpR (show OpR _ _ (rInD K) from op_inD (units1 hr)) (pv 6) (pv 5) (by rfl)) (nomark _)))))  (pss_one (ps_ret pe_bl))  pss_nil)))) (pss_cons (ps_for PassesOwn.never rfl (pi_range1 (by rfl) B.range_ (pa_cons pe_int pa_nil)) (pg_name (i := 9) sc_law.nd rfl (.inl rfl))  (pss_cons (ps_par (i := 10) (j := 11) (by rfl) sc_law.nd rfl rfl (by decide) rfl rfl (pa_cons (pe_call G_low_panes (hr.mono (by omega)) (by rfl) D_low_panes.g D_low_panes.F.kp D_low_panes.b .nil pass0 (pa_cons (pv 3) pa_nil)) (pa_cons (pe_call G_high_panes (hr.mono (by omega)) (by rfl) D_high_panes.g D_high_panes.F.kp D_high_panes.b .nil pass0 (pa_cons (pv 3) pa_nil)) pa_nil)) (by rfl)) (pss_cons (ps_if (PW.pt (pw_or (pt_not (pt_val (pe_callB (show CallR _ _ (rIsi K) from call_isi) (by rfl) B.isinstance_ (by decide +kernel) (pa_cons (pv 10) (pa_cons (pe_bltn (v := .ty "list") (by rfl) B.list_ (by decide +kernel) rfl) pa_nil))))) (pw_or (pt_not (pt_val (pe_callB (show CallR _ _ (rIsi K) from call_isi) (by rfl) B.isinstance_ (by decide +kernel) (pa_cons (pv 11) (pa_cons (pe_bltn (v := .ty "list") (by rfl) B.list_ (by decide +kernel) rfl) pa_nil))))) (pw_or (pt_cmpR (show OpR _ _ (rNeD K) from op_neD hr.units) (pv 10) (pv 5) (nomark _)) (pw_or1 (pt_cmpR (show OpR _ _ (rNeD K) from op_neD hr.units) (pv 11) (pv 7) (nomark _)))))))  (pss_one (ps_ret pe_bl))  pss_nil) (pss_cons (ps_expr (pe_bm PySem.F.plainAttrs_list PySem.F.slot_list_append PySem.F.type_list_append mt_append (pv 10) (pa_cons (pe_tup pa_nil) pa_nil))) (pss_one (ps_expr (pe_bm PySem.F.plainAttrs_list PySem.F.slot_list_append PySem.F.type_list_append mt_append (pv 11) (pa_cons (pe_tup pa_nil) pa_nil)))))))) (pss_one (ps_for PassesOwn.never rfl (pi_list (pe_lst (pa_cons (pe_tup (pa_cons (pe_glob (v := .ref L.f_low_panes) rfl L.D_low_panes.g rfl) (pa_cons (pv 5) (pa_cons (pe_lst (pa_cons (pe_tup (pa_cons pe_int pa_nil)) pa_nil)) pa_nil)))) (pa_cons (pe_tup (pa_cons (pe_glob (v := .ref L.f_high_panes) rfl L.D_high_panes.g rfl) (pa_cons (pv 7) (pa_cons (pe_lst (pa_cons (pe_tup (pa_cons pe_int pa_nil)) pa_nil)) pa_nil)))) pa_nil)))) (pg_tup (by rfl) (pgs_cons (pg_name (i := 12) sc_law.nd rfl (.inl rfl)) (pgs_cons (pg_name (i := 13) sc_law.nd rfl (.inl rfl)) (pgs_cons (pg_name (i := 14) sc_law.nd rfl (.inl rfl)) pgs_nil))))  (pss_cons (ps_par (i := 15) (j := 16) (by rfl) sc_law.nd rfl rfl (by decide) rfl rfl (pa_cons (pe_callA (i := 12) (S := S31 L) (held31 L) (hr.mono (by omega)) rfl (.inl rfl) (pa_cons (pv 3) pa_nil)) (pa_cons (pe_callA (i := 12) (S := S31 L) (held31 L) (hr.mono (by omega)) rfl (.inl rfl) (pa_cons (pe_tup (pa_cons pe_int (pa_cons pe_int pa_nil))) pa_nil)) pa_nil)) (by rfl)) (pss_one (ps_if (PW.pt (pw_or (pt_cmpR (show OpR _ _ (rNeD K) from op_neD hr.units) (pv 15) (pv 13) (nomark _)) (pw_or1 (pt_cmpR (show OpR _ _ (rNeD K) from op_neD hr.units) (pv 16) (pv 14) (nomark _)))))  (pss_one (ps_ret pe_bl))  pss_nil))))))))))))) (pss_one (ps_ret pe_bl))), ?_⟩
    obtain ⟨n, n0, n1, hn⟩ := ev_cells (K := K) (H := H) (σ := L2.start N_law [.ref a]) (ta := tVar 0) (c := 3) (ev_var rfl) hS (by decide)
    refine q_forR1 (n := n) (ea_cons hn ea_nil) ⟨by omega, by omega⟩ (fun i σ' H' => ∃ y1 y2 y3 y4 y5 y6 y7 y8 y9 y10 y11 y12 y13 y14 y15 y16 : Option V, σ' = [some (.ref a), y1, y2, y3, y4, y5, y6, y7, y8, y9, y10, y11, y12, y13, y14, y15, y16] ∧ Ex H H') (fun H2 e3 => ⟨_, _, _, _, _, _, _, _, _, _, _, _, _, _, _, _, rfl, e3⟩) ?_ ?_
    · rintro i σ' Hs hi ⟨y1, y2, y3, y4, y5, y6, y7, y8, y9, y10, y11, y12, y13, y14, y15, y16, rfl, es⟩
      refine q_box (ev_var rfl) (ex_l es hS) (ev_var rfl) (by omega) (by omega) fun b H2 nb e2 hb => ?_
      refine q_curve (K := K) rfl hb fun cv m d H3 hc hcv hb3 x3 => ?_
      have e3 : Ex Hs H3 := ex_bx e2 x3 nb
      obtain ⟨c1, c2, c3, c4⟩ := id hc
      have hok : ok31 m d = true := curve_all all_31 hc
      unfold ok31 at hok
      simp only [Bool.and_eq_true, decide_eq_true_eq] at hok
      obtain ⟨⟨⟨k1, k2⟩, k3⟩, k4⟩ := hok
      refine q_asgF (K := K) (ev__law_panes (K := K) (eb_cons (ed_var rfl hcv) eb_nil) (by first | assumption | omega | (refine ⟨?_, ?_⟩ <;> first | assumption | omega) | (refine ⟨?_, ?_, ?_⟩ <;> first | assumption | omega) | (refine ⟨?_, ?_, ?_, ?_⟩ <;> first | assumption | omega) | (repeat' apply And.intro) <;> first | assumption | omega)) fun p4 xs4 H4 np4 e4 hp4 hx4 => ?_
      refine q_asgF (K := K) (ds := (lowL m d).map lotD) (ef_is (ef_lcL (ds := (panesL m d).map lotD) (fun x => lowB m (unlot x)) (fun x => x) (ev_var rfl) (sq_of hp4) hx4 (by rw [List.length_map]; omega) (fun _ => rfl) (fun x v H1 e1 hm hx => ?_) (fun x v H1 e1 hm hx _ => ed_var rfl hx)) (filt_lots fun l => by rw [unlot_lot])) fun p5 xs5 H5 np5 e5 hp5 hx5 => ?_
      · obtain ⟨l, hl, rfl⟩ := mem_lots hm
        rw [unlot_lot]
        have hf := pane_facts hc hl
        exact et_B (ev__law_low (K := K) (eb_cons (ed_var rfl (dt_ex (e4.trans e1) hcv)) (eb_cons (ed_var rfl hx) eb_nil)) ⟨hc, hf.toLowFacts⟩)
      refine q_asgF (K := K) (ds := (highL m d).map lotD) (ef_is (ef_lcL (ds := (panesL m d).map lotD) (fun x => !((lowL m d).any fun z => decide (z = unlot x))) (fun x => x) (ev_var rfl) (sq_of (e5 _ _ hp4)) (dta_ex e5 hx4) (by rw [List.length_map]; omega) (fun _ => rfl) (fun x v H1 e1 hm hx => ?_) (fun x v H1 e1 hm hx _ => ed_var rfl hx)) (filt_lots fun l => by rw [unlot_lot])) fun p6 xs6 H6 np6 e6 hp6 hx6 => ?_
      · obtain ⟨l, hl, rfl⟩ := mem_lots hm
        rw [unlot_lot]
        exact et_test (ev_op (ev_var rfl) (ev_var rfl) (rv_niD hx (sq_of (e1 _ _ hp5)) (dta_ex e1 hx5)))
      have e46 := (e4.trans e5).trans e6
      have hcv6 := dt_ex e46 hcv
      have hp5' := e6 _ _ hp5
      have hx5' := dta_ex e6 hx5
      refine q_forLn (ev_var rfl) (sq_of (e6 _ _ (e5 _ _ hp4))) (fun _ σ' H' => ∃ y6 y8 y9 y10 y11 y12 y13 y14 y15 y16 : Option V, σ' = [some (.ref a), some (.int (i : Int)), some (.ref b), some cv, some (.ref p4), some (.ref p5), y6, some (.ref p6), y8, y9, y10, y11, y12, y13, y14, y15, y16] ∧ Ex H6 H') (fun H7 e7 => ⟨_, _, _, _, _, _, _, _, _, _, rfl, e7⟩) (fun _ σ' H' _ hw => ?_) (fun t x σ' H7 ht hw => ?_) (fun σ' H7 hw => ?_)
      · obtain ⟨y6, y8, y9, y10, y11, y12, y13, y14, y15, y16, rfl, e7⟩ := hw
        exact sq_of (e7 _ _ (e6 _ _ (e5 _ _ hp4)))
      · obtain ⟨y6, y8, y9, y10, y11, y12, y13, y14, y15, y16, rfl, e7⟩ := hw
        obtain ⟨dd, hd1, hx⟩ := dta_get (dta_ex ((e5.trans e6).trans e7) hx4) ht
        obtain ⟨l, hl, rfl⟩ := mem_lots (List.mem_of_getElem? hd1)
        have hf := pane_facts hc hl
        refine q_asg (v := .bl (lowB m l)) (ev_is_low (K := K) (eb_cons (ed_var rfl (dt_ex e7 hcv6)) (eb_cons (ed_var rfl hx) eb_nil)) (by first | assumption | omega | (refine ⟨?_, ?_⟩ <;> first | assumption | omega) | (refine ⟨?_, ?_, ?_⟩ <;> first | assumption | omega) | (refine ⟨?_, ?_, ?_, ?_⟩ <;> first | assumption | omega) | (repeat' apply And.intro) <;> first | assumption | omega)) fun H8 e8 => ?_
        refine s_when (b := false) (et_is (et_or (et_not (et_B (ev_isi (K := K) (ev_var rfl) ev_c (fun H1 e1 => .base (.bl _)) (ty := "bool") (b := true) (by decide +kernel)))) (fun _ => et_test (ev_op (ev_var rfl) (ev_op (ev_var rfl) (ev_var rfl) (rv_inD (dt_ex e8 hx) (sq_of (e8 _ _ (e7 _ _ hp5'))) (dta_ex (e7.trans e8) hx5'))) rv_neB))) ?_) (fun hb => by cases hb) (fun _ H9 e9 => ⟨_, _, _, _, _, _, _, _, _, _, rfl, (e7.trans e8).trans e9⟩)
        have := List.all_eq_true.mp k4 l hl
        rw [← eq_of_beq this]
        simp
      · obtain ⟨y6, y8, y9, y10, y11, y12, y13, y14, y15, y16, rfl, e7⟩ := hw
        refine q_forR1 (n := 2) (ea_cons ev_c ea_nil) (by decide) (fun _ σ' H' => ∃ y6 y8 y9 y10 y11 y12 y13 y14 y15 y16 : Option V, σ' = [some (.ref a), some (.int (i : Int)), some (.ref b), some cv, some (.ref p4), some (.ref p5), y6, some (.ref p6), y8, y9, y10, y11, y12, y13, y14, y15, y16] ∧ Ex H6 H') (fun H8 e8 => ⟨_, _, _, _, _, _, _, _, _, _, rfl, e7.trans e8⟩) ?_ ?_
        · rintro u σ' H8 hu ⟨y6, y8, y9, y10, y11, y12, y13, y14, y15, y16, rfl, e8⟩
          have hcv8 := dt_ex e8 hcv6
          have hp5a := e8 _ _ hp5'
          have hp6a := e8 _ _ hp6
          refine q_parFN (K := K) (ev_low_panes (K := K) (eb_cons (ed_var rfl hcv8) eb_nil) (by first | assumption | omega | (refine ⟨?_, ?_⟩ <;> first | assumption | omega) | (refine ⟨?_, ?_, ?_⟩ <;> first | assumption | omega) | (refine ⟨?_, ?_, ?_, ?_⟩ <;> first | assumption | omega) | (repeat' apply And.intro) <;> first | assumption | omega)) (fun H9 e9 => (ev_high_panes (K := K) (eb_cons (ed_var rfl (dt_ex e9 hcv8)) eb_nil) (by first | assumption | omega | (refine ⟨?_, ?_⟩ <;> first | assumption | omega) | (refine ⟨?_, ?_, ?_⟩ <;> first | assumption | omega) | (refine ⟨?_, ?_, ?_, ?_⟩ <;> first | assumption | omega) | (repeat' apply And.intro) <;> first | assumption | omega))) fun p10 xs10 p11 xs11 H9 e9 np10 np11 nab hp10 hx10 hp11 hx11 => ?_
          have hl10 : xs10.length ≤ 60 := by rw [dta_len hx10, List.length_map, k1]; exact Nat.le_trans (List.length_filter_le _ _) k3
          have hl11 : xs11.length ≤ 60 := by rw [dta_len hx11, List.length_map, k2]; exact Nat.le_trans (List.length_filter_le _ _) k3
          refine q_when (b := false) (et_is (et_or (et_not (et_B (ev_isi (K := K) (ev_var rfl) ev_c (fun H1 e1 => .base (.lst (e1 p10 _ hp10))) (ty := "list") (b := true) (by decide +kernel)))) (fun _ => et_or (et_not (et_B (ev_isi (K := K) (ev_var rfl) ev_c (fun H1 e1 => .base (.lst (e1 p11 _ hp11))) (ty := "list") (b := true) (by decide +kernel)))) (fun _ => et_or (et_test (ev_op (ev_var rfl) (ev_var rfl) (rv_neL (sq_of hp10) hx10 (sq_of (e9 _ _ hp5a)) (dta_ex (e8.trans e9) hx5') (lots_shaped _) (lots_shaped _)))) (fun _ => et_test (ev_op (ev_var rfl) (ev_var rfl) (rv_neL (sq_of hp11) hx11 (sq_of (e9 _ _ hp6a)) (dta_ex (e8.trans e9) hx6) (lots_shaped _) (lots_shaped _))))))) ?_) (fun hb => by cases hb) (fun _ H10 e10 => ?_)
          · rw [k1, k2, eqv_lotsL, eqv_lotsL]
            rfl
          refine q_appD (K := K) (d := .tuple []) (e10 _ _ hp10) (ev_var rfl) (ed_tup eb_nil (by decide)) (by omega) fun v1 H11 e11 hv1 => ?_
          have hp11' : upd H11 p10 (.lst (xs10 ++ [v1])) p11 = some (.lst xs11) := by rw [upd_ne nab.symm]; exact e11 _ _ (e10 _ _ hp11)
          have eA : Ex H8 (upd H11 p10 (.lst (xs10 ++ [v1]))) := Ex.mut ((e9.trans e10).trans e11) np10
          refine s_appD (K := K) (d := .tuple []) hp11' (ev_var rfl) (ed_tup eb_nil (by decide)) (by omega) fun v2 H12 e12 hv2 => ?_
          exact ⟨_, _, _, _, _, _, _, _, _, _, rfl, e8.trans (Ex.mut (eA.trans e12) np11)⟩
        · rintro σ' H8 ⟨y6, y8, y9, y10, y11, y12, y13, y14, y15, y16, rfl, e8⟩
          have hcv8 := dt_ex e8 hcv6
          have hp5a := e8 _ _ hp5'
          have hp6a := e8 _ _ hp6
          refine ⟨_, rfl, sz_of (by show 1 ≤ 100000; decide), fun t1 ht1 => ⟨sz_of (by show 1 ≤ 100000; decide), fun l1 hl1 => ⟨sz_of (by show 3 ≤ 100000; decide), fun q1 hq1 => ⟨_, rfl, sz_of (by show 1 ≤ 100000; decide), fun t2 ht2 => ⟨sz_of (by show 1 ≤ 100000; decide), fun l2 hl2 => ⟨sz_of (by show 3 ≤ 100000; decide), fun q2 hq2 => ⟨sz_of (by show 2 ≤ 100000; decide), fun pl hpl => ?_⟩⟩⟩⟩⟩⟩⟩
          have x1 := Ex.new (o := .tup [.int 0]) ht1
          have x2 := Ex.new (o := .lst [.ref t1]) hl1
          have x3 := Ex.new (o := .tup [.ref L.f_low_panes, .ref p5, .ref l1]) hq1
          have x4 := Ex.new (o := .tup [.int 1]) ht2
          have x5 := Ex.new (o := .lst [.ref t2]) hl2
          have x6 := Ex.new (o := .tup [.ref L.f_high_panes, .ref p6, .ref l2]) hq2
          have x7 := Ex.new (o := .lst [.ref q1, .ref q2]) hpl
          have xA : Ex H8 _ := (((((x1.trans x2).trans x3).trans x4).trans x5).trans x6).trans x7
          have hT1 := (((((x2.trans x3).trans x4).trans x5).trans x6).trans x7) t1 _ upd_same
          have hL1 := ((((x3.trans x4).trans x5).trans x6).trans x7) l1 _ upd_same
          have hQ1 := (((x4.trans x5).trans x6).trans x7) q1 _ upd_same
          have hT2 := ((x5.trans x6).trans x7) t2 _ upd_same
          have hL2 := (x6.trans x7) l2 _ upd_same
          have hQ2 := x7 q2 _ upd_same
          refine ⟨pl, rfl, ⟨_, sq_of upd_same⟩, ?_⟩
          generalize hHl : upd (upd (upd (upd (upd (upd (upd H8 t1 (.tup [.int 0])) l1 (.lst [.ref t1])) q1 (.tup [.ref L.f_low_panes, .ref p5, .ref l1])) t2 (.tup [.int 1])) l2 (.lst [.ref t2])) q2 (.tup [.ref L.f_high_panes, .ref p6, .ref l2])) pl (.lst [.ref q1, .ref q2]) = Hl at xA hT1 hL1 hQ1 hT2 hL2 hQ2
          have hPL : Hl pl = some (.lst [.ref q1, .ref q2]) := by rw [← hHl]; exact upd_same
          refine for_list (xs := [.ref q1, .ref q2]) (fun _ σ' H' => ∃ y6 y8 y9 y10 y11 y12 y13 y14 y15 y16 : Option V, σ' = [some (.ref a), some (.int (i : Int)), some (.ref b), some cv, some (.ref p4), some (.ref p5), y6, some (.ref p6), y8, y9, y10, y11, y12, y13, y14, y15, y16] ∧ Ex Hl H') ⟨_, _, _, _, _, _, _, _, _, _, rfl, Ex.refl _⟩ (fun _ σ' H' _ hw => ?_) (fun t x σ' H9 ht hw => ?_) (fun σ' H9 hw => ?_)
          · obtain ⟨y6, y8, y9, y10, y11, y12, y13, y14, y15, y16, rfl, e9⟩ := hw
            exact sq_of (e9 _ _ hPL)
          · obtain ⟨y6, y8, y9, y10, y11, y12, y13, y14, y15, y16, rfl, e9⟩ := hw
            have hcv9 := dt_ex (xA.trans e9) hcv8
            have hc21 : okC 2 1 := by unfold okC; decide
            match t, ht with
            | 0, ht =>
              obtain rfl : V.ref q1 = x := Option.some.inj ht
              refine ⟨q1, _, rfl, st_of (e9 _ _ hQ1), rfl, _, _, rfl, _, _, rfl, _, _, rfl, rfl, ?_⟩
              refine q_parFF (K := K) (ef_callLow L rfl (eb_cons (ed_var rfl hcv9) eb_nil) hc) (fun H10 e10 => ef_callLow (m := 2) (d := 1) L rfl (eb_cons (ed_tup (eb_cons (ed_int ev_c) (eb_cons (ed_int ev_c) eb_nil)) (by decide)) eb_nil) hc21) fun p15 xs15 p16 xs16 H10 e10 hp15 hx15 hp16 hx16 => ?_
              have e910 := e9.trans e10
              refine s_when (b := false) (et_is (et_or (et_test (ev_op (ev_var rfl) (ev_var rfl) (rv_neL (sq_of hp15) hx15 (sq_of (e910 _ _ (xA _ _ hp5a))) (dta_ex ((e8.trans xA).trans e910) hx5') (lots_shaped _) (lots_shaped _)))) (fun _ => et_test (ev_op (ev_var rfl) (ev_var rfl) (rv_neL (sq_of hp16) hx16 (sq_of (e910 _ _ hL1)) (es := [lotD [0]]) (.cons (lot_dt (l := [0]) (st_of (e910 _ _ hT1))) .nil) (lots_shaped _) (lots_shaped [[0]]))))) ?_) (fun hb => by cases hb) (fun _ H11 e11 => ⟨_, _, _, _, _, _, _, _, _, _, rfl, e910.trans e11⟩)
              rw [k1, low21, eqv_lotsL]
              rfl
            | 1, ht =>
              obtain rfl : V.ref q2 = x := Option.some.inj ht
              refine ⟨q2, _, rfl, st_of (e9 _ _ hQ2), rfl, _, _, rfl, _, _, rfl, _, _, rfl, rfl, ?_⟩
              refine q_parFF (K := K) (ef_callHigh L rfl (eb_cons (ed_var rfl hcv9) eb_nil) hc) (fun H10 e10 => ef_callHigh (m := 2) (d := 1) L rfl (eb_cons (ed_tup (eb_cons (ed_int ev_c) (eb_cons (ed_int ev_c) eb_nil)) (by decide)) eb_nil) hc21) fun p15 xs15 p16 xs16 H10 e10 hp15 hx15 hp16 hx16 => ?_
              have e910 := e9.trans e10
              refine s_when (b := false) (et_is (et_or (et_test (ev_op (ev_var rfl) (ev_var rfl) (rv_neL (sq_of hp15) hx15 (sq_of (e910 _ _ (xA _ _ hp6a))) (dta_ex ((e8.trans xA).trans e910) hx6) (lots_shaped _) (lots_shaped _)))) (fun _ => et_test (ev_op (ev_var rfl) (ev_var rfl) (rv_neL (sq_of hp16) hx16 (sq_of (e910 _ _ hL2)) (es := [lotD [1]]) (.cons (lot_dt (l := [1]) (st_of (e910 _ _ hT2))) .nil) (lots_shaped _) (lots_shaped [[1]]))))) ?_) (fun hb => by cases hb) (fun _ H11 e11 => ⟨_, _, _, _, _, _, _, _, _, _, rfl, e910.trans e11⟩)
              rw [k2, high21, eqv_lotsL]
              rfl
          · obtain ⟨y6, y8, y9, y10, y11, y12, y13, y14, y15, y16, rfl, e9⟩ := hw
            exact ⟨_, _, _, _, _, _, _, _, _, _, _, _, _, _, _, _, rfl, (((es.trans e3).trans e46).trans (e8.trans xA)).trans e9⟩
    · rintro σ' H' ⟨y1, y2, y3, y4, y5, y6, y7, y8, y9, y10, y11, y12, y13, y14, y15, y16, rfl, es⟩
      exact s_ret ev_c fun H2 e3 => q H2
end
theorem all_mk {l : PySem.W.OpenLaw} {w : World} {K : PySem.W.Frag} {h : Heap} {mg : Str → Option Value} {fa f5 f6 f7 f8 f9 f10 f11 f12 f13 f17 f18 f19 f20 f22 f24 f25 f26 f28 f29 f30 f31 f32 f33 f34 f36 f37 : Addr} (X : K.In h) (G : h.Ns mainGlobals mg) (hfa : mg "law" = some (.ref fa))
    {od5 an5 od6 an6 od7 an7 od8 an8 od9 an9 od10 an10 od11 an11 od12 an12 od13 an13 od17 an17 od18 an18 od19 an19 od20 an20 od22 an22 od24 an24 od25 an25 od26 an26 od28 an28 od29 an29 od30 an30 od31 an31 od32 an32 od33 an33 od34 an34 od36 an36 od37 an37 : Option Addr} {sl5 sl6 sl7 sl8 sl9 sl10 sl11 sl12 sl13 sl17 sl18 sl19 sl20 sl22 sl24 sl25 sl26 sl28 sl29 sl30 sl31 sl32 sl33 sl34 sl36 sl37 : Array (Option Value)} {oc5 kV5 dc5 pm5 cd5 ct5 oc6 kV6 dc6 pm6 cd6 ct6 oc7 kV7 dc7 pm7 cd7 ct7 oc8 kV8 dc8 pm8 cd8 ct8 oc9 kV9 dc9 pm9 cd9 ct9 oc10 kV10 dc10 pm10 cd10 ct10 oc11 kV11 dc11 pm11 cd11 ct11 oc12 kV12 dc12 pm12 cd12 ct12 oc13 kV13 dc13 pm13 cd13 ct13 oc17 kV17 dc17 pm17 cd17 ct17 oc18 kV18 dc18 pm18 cd18 ct18 oc19 kV19 dc19 pm19 cd19 ct19 oc20 kV20 dc20 pm20 cd20 ct20 oc22 kV22 dc22 pm22 cd22 ct22 oc24 kV24 dc24 pm24 cd24 ct24 oc25 kV25 dc25 pm25 cd25 ct25 oc26 kV26 dc26 pm26 cd26 ct26 oc28 kV28 dc28 pm28 cd28 ct28 oc29 kV29 dc29 pm29 cd29 ct29 oc30 kV30 dc30 pm30 cd30 ct30 oc31 kV31 dc31 pm31 cd31 ct31 oc32 kV32 dc32 pm32 cd32 ct32 oc33 kV33 dc33 pm33 cd33 ct33 oc34 kV34 dc34 pm34 cd34 ct34 oc36 kV36 dc36 pm36 cd36 ct36 oc37 kV37 dc37 pm37 cd37 ct37 : Value} {tk_MOST_DEEP tk_MOST_CORNERS : Tok}
    (a5 : PySem.W.nsIn K mainGlobals "is_whole" = some (some (.ref f5))) (l5 : K.lookup f5 = some ⟨oc5, od5, .func (PySem.W.fnOf "is_whole" "is_whole" (defArgs s_is_whole) (defBody s_is_whole) (defScope s_is_whole) .none kV5 dc5 pm5 an5 cd5 ct5), sl5⟩) (c5 : PySem.W.codeIn K cd5 "is_whole" = true) (k5 : PySem.W.keepIn K (.ref f5) = true)
    (a6 : PySem.W.nsIn K mainGlobals "is_lot_of" = some (some (.ref f6))) (l6 : K.lookup f6 = some ⟨oc6, od6, .func (PySem.W.fnOf "is_lot_of" "is_lot_of" (defArgs s_is_lot_of) (defBody s_is_lot_of) (defScope s_is_lot_of) .none kV6 dc6 pm6 an6 cd6 ct6), sl6⟩) (c6 : PySem.W.codeIn K cd6 "is_lot_of" = true) (k6 : PySem.W.keepIn K (.ref f6) = true)
    (a7 : PySem.W.nsIn K mainGlobals "next_number" = some (some (.ref f7))) (l7 : K.lookup f7 = some ⟨oc7, od7, .func (PySem.W.fnOf "next_number" "next_number" (defArgs s_next_number) (defBody s_next_number) (defScope s_next_number) .none kV7 dc7 pm7 an7 cd7 ct7), sl7⟩) (c7 : PySem.W.codeIn K cd7 "next_number" = true) (k7 : PySem.W.keepIn K (.ref f7) = true)
    (a8 : PySem.W.nsIn K mainGlobals "choices" = some (some (.ref f8))) (l8 : K.lookup f8 = some ⟨oc8, od8, .func (PySem.W.fnOf "choices" "choices" (defArgs s_choices) (defBody s_choices) (defScope s_choices) .none kV8 dc8 pm8 an8 cd8 ct8), sl8⟩) (c8 : PySem.W.codeIn K cd8 "choices" = true) (k8 : PySem.W.keepIn K (.ref f8) = true)
    (a9 : PySem.W.nsIn K mainGlobals "odd_blocks" = some (some (.ref f9))) (l9 : K.lookup f9 = some ⟨oc9, od9, .func (PySem.W.fnOf "odd_blocks" "odd_blocks" (defArgs s_odd_blocks) (defBody s_odd_blocks) (defScope s_odd_blocks) .none kV9 dc9 pm9 an9 cd9 ct9), sl9⟩) (c9 : PySem.W.codeIn K cd9 "odd_blocks" = true) (k9 : PySem.W.keepIn K (.ref f9) = true)
    (a10 : PySem.W.nsIn K mainGlobals "paired" = some (some (.ref f10))) (l10 : K.lookup f10 = some ⟨oc10, od10, .func (PySem.W.fnOf "paired" "paired" (defArgs s_paired) (defBody s_paired) (defScope s_paired) .none kV10 dc10 pm10 an10 cd10 ct10), sl10⟩) (c10 : PySem.W.codeIn K cd10 "paired" = true) (k10 : PySem.W.keepIn K (.ref f10) = true)
    (a11 : PySem.W.nsIn K mainGlobals "ended" = some (some (.ref f11))) (l11 : K.lookup f11 = some ⟨oc11, od11, .func (PySem.W.fnOf "ended" "ended" (defArgs s_ended) (defBody s_ended) (defScope s_ended) .none kV11 dc11 pm11 an11 cd11 ct11), sl11⟩) (c11 : PySem.W.codeIn K cd11 "ended" = true) (k11 : PySem.W.keepIn K (.ref f11) = true)
    (a12 : PySem.W.nsIn K mainGlobals "low_lots" = some (some (.ref f12))) (l12 : K.lookup f12 = some ⟨oc12, od12, .func (PySem.W.fnOf "low_lots" "low_lots" (defArgs s_low_lots) (defBody s_low_lots) (defScope s_low_lots) .none kV12 dc12 pm12 an12 cd12 ct12), sl12⟩) (c12 : PySem.W.codeIn K cd12 "low_lots" = true) (k12 : PySem.W.keepIn K (.ref f12) = true)
    (a13 : PySem.W.nsIn K mainGlobals "high_lots" = some (some (.ref f13))) (l13 : K.lookup f13 = some ⟨oc13, od13, .func (PySem.W.fnOf "high_lots" "high_lots" (defArgs s_high_lots) (defBody s_high_lots) (defScope s_high_lots) .none kV13 dc13 pm13 an13 cd13 ct13), sl13⟩) (c13 : PySem.W.codeIn K cd13 "high_lots" = true) (k13 : PySem.W.keepIn K (.ref f13) = true)
    (a17 : PySem.W.nsIn K mainGlobals "is_curve" = some (some (.ref f17))) (l17 : K.lookup f17 = some ⟨oc17, od17, .func (PySem.W.fnOf "is_curve" "is_curve" (defArgs s_is_curve) (defBody s_is_curve) (defScope s_is_curve) .none kV17 dc17 pm17 an17 cd17 ct17), sl17⟩) (c17 : PySem.W.codeIn K cd17 "is_curve" = true) (k17 : PySem.W.keepIn K (.ref f17) = true)
    (a18 : PySem.W.nsIn K mainGlobals "need_curve" = some (some (.ref f18))) (l18 : K.lookup f18 = some ⟨oc18, od18, .func (PySem.W.fnOf "need_curve" "need_curve" (defArgs s_need_curve) (defBody s_need_curve) (defScope s_need_curve) .none kV18 dc18 pm18 an18 cd18 ct18), sl18⟩) (c18 : PySem.W.codeIn K cd18 "need_curve" = true) (k18 : PySem.W.keepIn K (.ref f18) = true)
    (a19 : PySem.W.nsIn K mainGlobals "is_lot" = some (some (.ref f19))) (l19 : K.lookup f19 = some ⟨oc19, od19, .func (PySem.W.fnOf "is_lot" "is_lot" (defArgs s_is_lot) (defBody s_is_lot) (defScope s_is_lot) .none kV19 dc19 pm19 an19 cd19 ct19), sl19⟩) (c19 : PySem.W.codeIn K cd19 "is_lot" = true) (k19 : PySem.W.keepIn K (.ref f19) = true)
    (a20 : PySem.W.nsIn K mainGlobals "is_pane" = some (some (.ref f20))) (l20 : K.lookup f20 = some ⟨oc20, od20, .func (PySem.W.fnOf "is_pane" "is_pane" (defArgs s_is_pane) (defBody s_is_pane) (defScope s_is_pane) .none kV20 dc20 pm20 an20 cd20 ct20), sl20⟩) (c20 : PySem.W.codeIn K cd20 "is_pane" = true) (k20 : PySem.W.keepIn K (.ref f20) = true)
    (a22 : PySem.W.nsIn K mainGlobals "need_pane" = some (some (.ref f22))) (l22 : K.lookup f22 = some ⟨oc22, od22, .func (PySem.W.fnOf "need_pane" "need_pane" (defArgs s_need_pane) (defBody s_need_pane) (defScope s_need_pane) .none kV22 dc22 pm22 an22 cd22 ct22), sl22⟩) (c22 : PySem.W.codeIn K cd22 "need_pane" = true) (k22 : PySem.W.keepIn K (.ref f22) = true)
    (a24 : PySem.W.nsIn K mainGlobals "is_low" = some (some (.ref f24))) (l24 : K.lookup f24 = some ⟨oc24, od24, .func (PySem.W.fnOf "is_low" "is_low" (defArgs s_is_low) (defBody s_is_low) (defScope s_is_low) .none kV24 dc24 pm24 an24 cd24 ct24), sl24⟩) (c24 : PySem.W.codeIn K cd24 "is_low" = true) (k24 : PySem.W.keepIn K (.ref f24) = true)
    (a25 : PySem.W.nsIn K mainGlobals "low_panes" = some (some (.ref f25))) (l25 : K.lookup f25 = some ⟨oc25, od25, .func (PySem.W.fnOf "low_panes" "low_panes" (defArgs s_low_panes) (defBody s_low_panes) (defScope s_low_panes) .none kV25 dc25 pm25 an25 cd25 ct25), sl25⟩) (c25 : PySem.W.codeIn K cd25 "low_panes" = true) (k25 : PySem.W.keepIn K (.ref f25) = true)
    (a26 : PySem.W.nsIn K mainGlobals "high_panes" = some (some (.ref f26))) (l26 : K.lookup f26 = some ⟨oc26, od26, .func (PySem.W.fnOf "high_panes" "high_panes" (defArgs s_high_panes) (defBody s_high_panes) (defScope s_high_panes) .none kV26 dc26 pm26 an26 cd26 ct26), sl26⟩) (c26 : PySem.W.codeIn K cd26 "high_panes" = true) (k26 : PySem.W.keepIn K (.ref f26) = true)
    (a28 : PySem.W.nsIn K mainGlobals "_law_box" = some (some (.ref f28))) (l28 : K.lookup f28 = some ⟨oc28, od28, .func (PySem.W.fnOf "_law_box" "_law_box" (defArgs s__law_box) (defBody s__law_box) (defScope s__law_box) .none kV28 dc28 pm28 an28 cd28 ct28), sl28⟩) (c28 : PySem.W.codeIn K cd28 "_law_box" = true) (k28 : PySem.W.keepIn K (.ref f28) = true)
    (a29 : PySem.W.nsIn K mainGlobals "_law_more" = some (some (.ref f29))) (l29 : K.lookup f29 = some ⟨oc29, od29, .func (PySem.W.fnOf "_law_more" "_law_more" (defArgs s__law_more) (defBody s__law_more) (defScope s__law_more) .none kV29 dc29 pm29 an29 cd29 ct29), sl29⟩) (c29 : PySem.W.codeIn K cd29 "_law_more" = true) (k29 : PySem.W.keepIn K (.ref f29) = true)
    (a30 : PySem.W.nsIn K mainGlobals "_law_take" = some (some (.ref f30))) (l30 : K.lookup f30 = some ⟨oc30, od30, .func (PySem.W.fnOf "_law_take" "_law_take" (defArgs s__law_take) (defBody s__law_take) (defScope s__law_take) .none kV30 dc30 pm30 an30 cd30 ct30), sl30⟩) (c30 : PySem.W.codeIn K cd30 "_law_take" = true) (k30 : PySem.W.keepIn K (.ref f30) = true)
    (a31 : PySem.W.nsIn K mainGlobals "_law_curve" = some (some (.ref f31))) (l31 : K.lookup f31 = some ⟨oc31, od31, .func (PySem.W.fnOf "_law_curve" "_law_curve" (defArgs s__law_curve) (defBody s__law_curve) (defScope s__law_curve) .none kV31 dc31 pm31 an31 cd31 ct31), sl31⟩) (c31 : PySem.W.codeIn K cd31 "_law_curve" = true) (k31 : PySem.W.keepIn K (.ref f31) = true)
    (a32 : PySem.W.nsIn K mainGlobals "_law_lots" = some (some (.ref f32))) (l32 : K.lookup f32 = some ⟨oc32, od32, .func (PySem.W.fnOf "_law_lots" "_law_lots" (defArgs s__law_lots) (defBody s__law_lots) (defScope s__law_lots) .none kV32 dc32 pm32 an32 cd32 ct32), sl32⟩) (c32 : PySem.W.codeIn K cd32 "_law_lots" = true) (k32 : PySem.W.keepIn K (.ref f32) = true)
    (a33 : PySem.W.nsIn K mainGlobals "_law_is_pane" = some (some (.ref f33))) (l33 : K.lookup f33 = some ⟨oc33, od33, .func (PySem.W.fnOf "_law_is_pane" "_law_is_pane" (defArgs s__law_is_pane) (defBody s__law_is_pane) (defScope s__law_is_pane) .none kV33 dc33 pm33 an33 cd33 ct33), sl33⟩) (c33 : PySem.W.codeIn K cd33 "_law_is_pane" = true) (k33 : PySem.W.keepIn K (.ref f33) = true)
    (a34 : PySem.W.nsIn K mainGlobals "_law_panes" = some (some (.ref f34))) (l34 : K.lookup f34 = some ⟨oc34, od34, .func (PySem.W.fnOf "_law_panes" "_law_panes" (defArgs s__law_panes) (defBody s__law_panes) (defScope s__law_panes) .none kV34 dc34 pm34 an34 cd34 ct34), sl34⟩) (c34 : PySem.W.codeIn K cd34 "_law_panes" = true) (k34 : PySem.W.keepIn K (.ref f34) = true)
    (a36 : PySem.W.nsIn K mainGlobals "_law_low" = some (some (.ref f36))) (l36 : K.lookup f36 = some ⟨oc36, od36, .func (PySem.W.fnOf "_law_low" "_law_low" (defArgs s__law_low) (defBody s__law_low) (defScope s__law_low) .none kV36 dc36 pm36 an36 cd36 ct36), sl36⟩) (c36 : PySem.W.codeIn K cd36 "_law_low" = true) (k36 : PySem.W.keepIn K (.ref f36) = true)
    (a37 : PySem.W.nsIn K mainGlobals "law" = some (some (.ref f37))) (l37 : K.lookup f37 = some ⟨oc37, od37, .func (PySem.W.fnOf "law" "law" (defArgs s_law) (defBody s_law) (defScope s_law) .none kV37 dc37 pm37 an37 cd37 ct37), sl37⟩) (c37 : PySem.W.codeIn K cd37 "law" = true) (k37 : PySem.W.keepIn K (.ref f37) = true)
    (z_isinstance : PySem.W.nsIn K mainGlobals "isinstance" = some none)    (z_int : PySem.W.nsIn K mainGlobals "int" = some none)    (z_bool : PySem.W.nsIn K mainGlobals "bool" = some none)    (z_tuple : PySem.W.nsIn K mainGlobals "tuple" = some none)    (z_range : PySem.W.nsIn K mainGlobals "range" = some none)    (z_len : PySem.W.nsIn K mainGlobals "len" = some none)    (z_enumerate : PySem.W.nsIn K mainGlobals "enumerate" = some none)    (z_max : PySem.W.nsIn K mainGlobals "max" = some none)    (z_abs : PySem.W.nsIn K mainGlobals "abs" = some none)    (z_divmod : PySem.W.nsIn K mainGlobals "divmod" = some none)    (z_min : PySem.W.nsIn K mainGlobals "min" = some none)    (z_list : PySem.W.nsIn K mainGlobals "list" = some none)    (y_MOST_DEEP : PySem.W.nsIn K mainGlobals "MOST_DEEP" = some (some (.int 6 tk_MOST_DEEP)))    (y_MOST_CORNERS : PySem.W.nsIn K mainGlobals "MOST_CORNERS" = some (some (.int 9 tk_MOST_CORNERS))) :
    ∃ fd : FuncData, (∀ (s : Shared) (v : Value), BindsTo s fd ⟨[v], []⟩ [("_law_script", v)]) ∧ ∀ base : Heap, K.In base → base.Ns mainGlobals mg → FnOk l.prog w K mg base CX0 8 fa fd ["_law_script"] (spLaw K) := by
  have e := hfa.symm.trans (PySem.W.mg_of X G a37)
  cases e
  have F5 := fun_mk (st := s_is_whole) l5 c5 k5
  have D_is_whole : Df K mg "is_whole" s_is_whole ["thing"] _ _ := ⟨F5, PySem.W.mg_of X G a5, F5.binds (ps := ["thing"]) fun _ _ _ _ _ _ us hl => match us, hl with | [_], _ => rfl⟩
  have F6 := fun_mk (st := s_is_lot_of) l6 c6 k6
  have D_is_lot_of : Df K mg "is_lot_of" s_is_lot_of ["thing", "many"] _ _ := ⟨F6, PySem.W.mg_of X G a6, F6.binds (ps := ["thing", "many"]) fun _ _ _ _ _ _ us hl => match us, hl with | [_, _], _ => rfl⟩
  have F7 := fun_mk (st := s_next_number) l7 c7 k7
  have D_next_number : Df K mg "next_number" s_next_number ["some"] _ _ := ⟨F7, PySem.W.mg_of X G a7, F7.binds (ps := ["some"]) fun _ _ _ _ _ _ us hl => match us, hl with | [_], _ => rfl⟩
  have F8 := fun_mk (st := s_choices) l8 c8 k8
  have D_choices : Df K mg "choices" s_choices ["many", "size"] _ _ := ⟨F8, PySem.W.mg_of X G a8, F8.binds (ps := ["many", "size"]) fun _ _ _ _ _ _ us hl => match us, hl with | [_, _], _ => rfl⟩
  have F9 := fun_mk (st := s_odd_blocks) l9 c9 k9
  have D_odd_blocks : Df K mg "odd_blocks" s_odd_blocks ["many", "lot"] _ _ := ⟨F9, PySem.W.mg_of X G a9, F9.binds (ps := ["many", "lot"]) fun _ _ _ _ _ _ us hl => match us, hl with | [_, _], _ => rfl⟩
  have F10 := fun_mk (st := s_paired) l10 c10 k10
  have D_paired : Df K mg "paired" s_paired ["chosen", "first"] _ _ := ⟨F10, PySem.W.mg_of X G a10, F10.binds (ps := ["chosen", "first"]) fun _ _ _ _ _ _ us hl => match us, hl with | [_, _], _ => rfl⟩
  have F11 := fun_mk (st := s_ended) l11 c11 k11
  have D_ended : Df K mg "ended" s_ended ["many", "deep", "head", "tail"] _ _ := ⟨F11, PySem.W.mg_of X G a11, F11.binds (ps := ["many", "deep", "head", "tail"]) fun _ _ _ _ _ _ us hl => match us, hl with | [_, _, _, _], _ => rfl⟩
  have F12 := fun_mk (st := s_low_lots) l12 c12 k12
  have D_low_lots : Df K mg "low_lots" s_low_lots ["many", "deep"] _ _ := ⟨F12, PySem.W.mg_of X G a12, F12.binds (ps := ["many", "deep"]) fun _ _ _ _ _ _ us hl => match us, hl with | [_, _], _ => rfl⟩
  have F13 := fun_mk (st := s_high_lots) l13 c13 k13
  have D_high_lots : Df K mg "high_lots" s_high_lots ["many", "deep"] _ _ := ⟨F13, PySem.W.mg_of X G a13, F13.binds (ps := ["many", "deep"]) fun _ _ _ _ _ _ us hl => match us, hl with | [_, _], _ => rfl⟩
  have F17 := fun_mk (st := s_is_curve) l17 c17 k17
  have D_is_curve : Df K mg "is_curve" s_is_curve ["thing"] _ _ := ⟨F17, PySem.W.mg_of X G a17, F17.binds (ps := ["thing"]) fun _ _ _ _ _ _ us hl => match us, hl with | [_], _ => rfl⟩
  have F18 := fun_mk (st := s_need_curve) l18 c18 k18
  have D_need_curve : Df K mg "need_curve" s_need_curve ["curve"] _ _ := ⟨F18, PySem.W.mg_of X G a18, F18.binds (ps := ["curve"]) fun _ _ _ _ _ _ us hl => match us, hl with | [_], _ => rfl⟩
  have F19 := fun_mk (st := s_is_lot) l19 c19 k19
  have D_is_lot : Df K mg "is_lot" s_is_lot ["thing", "curve"] _ _ := ⟨F19, PySem.W.mg_of X G a19, F19.binds (ps := ["thing", "curve"]) fun _ _ _ _ _ _ us hl => match us, hl with | [_, _], _ => rfl⟩
  have F20 := fun_mk (st := s_is_pane) l20 c20 k20
  have D_is_pane : Df K mg "is_pane" s_is_pane ["thing", "curve"] _ _ := ⟨F20, PySem.W.mg_of X G a20, F20.binds (ps := ["thing", "curve"]) fun _ _ _ _ _ _ us hl => match us, hl with | [_, _], _ => rfl⟩
  have F22 := fun_mk (st := s_need_pane) l22 c22 k22
  have D_need_pane : Df K mg "need_pane" s_need_pane ["curve", "pane"] _ _ := ⟨F22, PySem.W.mg_of X G a22, F22.binds (ps := ["curve", "pane"]) fun _ _ _ _ _ _ us hl => match us, hl with | [_, _], _ => rfl⟩
  have F24 := fun_mk (st := s_is_low) l24 c24 k24
  have D_is_low : Df K mg "is_low" s_is_low ["curve", "pane"] _ _ := ⟨F24, PySem.W.mg_of X G a24, F24.binds (ps := ["curve", "pane"]) fun _ _ _ _ _ _ us hl => match us, hl with | [_, _], _ => rfl⟩
  have F25 := fun_mk (st := s_low_panes) l25 c25 k25
  have D_low_panes : Df K mg "low_panes" s_low_panes ["curve"] _ _ := ⟨F25, PySem.W.mg_of X G a25, F25.binds (ps := ["curve"]) fun _ _ _ _ _ _ us hl => match us, hl with | [_], _ => rfl⟩
  have F26 := fun_mk (st := s_high_panes) l26 c26 k26
  have D_high_panes : Df K mg "high_panes" s_high_panes ["curve"] _ _ := ⟨F26, PySem.W.mg_of X G a26, F26.binds (ps := ["curve"]) fun _ _ _ _ _ _ us hl => match us, hl with | [_], _ => rfl⟩
  have F28 := fun_mk (st := s__law_box) l28 c28 k28
  have D__law_box : Df K mg "_law_box" s__law_box ["_law_script", "_law_k"] _ _ := ⟨F28, PySem.W.mg_of X G a28, F28.binds (ps := ["_law_script", "_law_k"]) fun _ _ _ _ _ _ us hl => match us, hl with | [_, _], _ => rfl⟩
  have F29 := fun_mk (st := s__law_more) l29 c29 k29
  have D__law_more : Df K mg "_law_more" s__law_more ["_law_box_here"] _ _ := ⟨F29, PySem.W.mg_of X G a29, F29.binds (ps := ["_law_box_here"]) fun _ _ _ _ _ _ us hl => match us, hl with | [_], _ => rfl⟩
  have F30 := fun_mk (st := s__law_take) l30 c30 k30
  have D__law_take : Df K mg "_law_take" s__law_take ["_law_box_here", "_law_wide"] _ _ := ⟨F30, PySem.W.mg_of X G a30, F30.binds (ps := ["_law_box_here", "_law_wide"]) fun _ _ _ _ _ _ us hl => match us, hl with | [_, _], _ => rfl⟩
  have F31 := fun_mk (st := s__law_curve) l31 c31 k31
  have D__law_curve : Df K mg "_law_curve" s__law_curve ["_law_box_here"] _ _ := ⟨F31, PySem.W.mg_of X G a31, F31.binds (ps := ["_law_box_here"]) fun _ _ _ _ _ _ us hl => match us, hl with | [_], _ => rfl⟩
  have F32 := fun_mk (st := s__law_lots) l32 c32 k32
  have D__law_lots : Df K mg "_law_lots" s__law_lots ["_law_many", "_law_size"] _ _ := ⟨F32, PySem.W.mg_of X G a32, F32.binds (ps := ["_law_many", "_law_size"]) fun _ _ _ _ _ _ us hl => match us, hl with | [_, _], _ => rfl⟩
  have F33 := fun_mk (st := s__law_is_pane) l33 c33 k33
  have D__law_is_pane : Df K mg "_law_is_pane" s__law_is_pane ["_law_curve_here", "_law_lot"] _ _ := ⟨F33, PySem.W.mg_of X G a33, F33.binds (ps := ["_law_curve_here", "_law_lot"]) fun _ _ _ _ _ _ us hl => match us, hl with | [_, _], _ => rfl⟩
  have F34 := fun_mk (st := s__law_panes) l34 c34 k34
  have D__law_panes : Df K mg "_law_panes" s__law_panes ["_law_curve_here"] _ _ := ⟨F34, PySem.W.mg_of X G a34, F34.binds (ps := ["_law_curve_here"]) fun _ _ _ _ _ _ us hl => match us, hl with | [_], _ => rfl⟩
  have F36 := fun_mk (st := s__law_low) l36 c36 k36
  have D__law_low : Df K mg "_law_low" s__law_low ["_law_curve_here", "_law_pane"] _ _ := ⟨F36, PySem.W.mg_of X G a36, F36.binds (ps := ["_law_curve_here", "_law_pane"]) fun _ _ _ _ _ _ us hl => match us, hl with | [_, _], _ => rfl⟩
  have F37 := fun_mk (st := s_law) l37 c37 k37
  have D_law : Df K mg "law" s_law ["_law_script"] _ _ := ⟨F37, PySem.W.mg_of X G a37, F37.binds (ps := ["_law_script"]) fun _ _ _ _ _ _ us hl => match us, hl with | [_], _ => rfl⟩
  have B : Bt mg := ⟨PySem.W.mg_none_of X G z_isinstance, PySem.W.mg_none_of X G z_int, PySem.W.mg_none_of X G z_bool, PySem.W.mg_none_of X G z_tuple, PySem.W.mg_none_of X G z_range, PySem.W.mg_none_of X G z_len, PySem.W.mg_none_of X G z_enumerate, PySem.W.mg_none_of X G z_max, PySem.W.mg_none_of X G z_abs, PySem.W.mg_none_of X G z_divmod, PySem.W.mg_none_of X G z_min, PySem.W.mg_none_of X G z_list⟩
  have c_MOST_DEEP := PySem.W.mg_of X G y_MOST_DEEP
  have c_MOST_CORNERS := PySem.W.mg_of X G y_MOST_CORNERS
  exact ⟨PySem.W.fnOf "law" "law" (defArgs s_law) (defBody s_law) (defScope s_law) .none kV37 dc37 pm37 an37 cd37 ct37, fun s v => .of_eq rfl, fun base _ _ => ok_law ⟨B, _, _, D_is_whole, _, _, D_is_lot_of, _, _, D_next_number, _, _, D_choices, _, _, D_odd_blocks, _, _, D_paired, _, _, D_ended, _, _, D_low_lots, _, _, D_high_lots, _, _, D_is_curve, _, _, D_need_curve, _, _, D_is_lot, _, _, D_is_pane, _, _, D_need_pane, _, _, D_is_low, _, _, D_low_panes, _, _, D_high_panes, _, _, D__law_box, _, _, D__law_more, _, _, D__law_take, _, _, D__law_curve, _, _, D__law_lots, _, _, D__law_is_pane, _, _, D__law_panes, _, _, D__law_low, _, c_MOST_DEEP, _, c_MOST_CORNERS⟩ D_law⟩
end CF
open PySem PySem.W PyProof.Rows
set_option maxHeartbeats 0 in
theorem PySem.Challenge.cw_curvefaces_k31_low_and_high_holds : PySem.Challenge.rw_curvefaces_k31_low_and_high.Holds := by
  w_on; o_law; k_head; (case hw => w_witness2)
  k_fill
  refine L2.walk_of (l := PySem.Challenge.rw_curvefaces_k31_low_and_high) (n := 63) (k := 8) (x := "_law_script") (CX := fun _ => L2.CX0) (sp := fun w => CF.spLaw _) rfl (by decide) rfl ⟨rfl, by decide, by decide⟩ (fun w h Y => PySem.W.kIn_of Y) ?F (fun _ _ a ns hl _ hS => ⟨a, ns, rfl, hS, hl, fun _ => rfl⟩) (fun _ _ _ _ _ h => h)
  case F =>
    intro w mg fa h KX G hmg
    refine' CF.all_mk KX G hmg ?a5 ?l5 ?c5 ?k5 ?a6 ?l6 ?c6 ?k6 ?a7 ?l7 ?c7 ?k7 ?a8 ?l8 ?c8 ?k8 ?a9 ?l9 ?c9 ?k9 ?a10 ?l10 ?c10 ?k10 ?a11 ?l11 ?c11 ?k11 ?a12 ?l12 ?c12 ?k12 ?a13 ?l13 ?c13 ?k13 ?a17 ?l17 ?c17 ?k17 ?a18 ?l18 ?c18 ?k18 ?a19 ?l19 ?c19 ?k19 ?a20 ?l20 ?c20 ?k20 ?a22 ?l22 ?c22 ?k22 ?a24 ?l24 ?c24 ?k24 ?a25 ?l25 ?c25 ?k25 ?a26 ?l26 ?c26 ?k26 ?a28 ?l28 ?c28 ?k28 ?a29 ?l29 ?c29 ?k29 ?a30 ?l30 ?c30 ?k30 ?a31 ?l31 ?c31 ?k31 ?a32 ?l32 ?c32 ?k32 ?a33 ?l33 ?c33 ?k33 ?a34 ?l34 ?c34 ?k34 ?a36 ?l36 ?c36 ?k36 ?a37 ?l37 ?c37 ?k37 ?z_isinstance ?z_int ?z_bool ?z_tuple ?z_range ?z_len ?z_enumerate ?z_max ?z_abs ?z_divmod ?z_min ?z_list ?y_MOST_DEEP ?y_MOST_CORNERS
    (case a5 => k_is)
    (case l5 => k_is)
    (case c5 => k_is)
    (case k5 => k_is)
    (case a6 => k_is)
    (case l6 => k_is)
    (case c6 => k_is)
    (case k6 => k_is)
    (case a7 => k_is)
    (case l7 => k_is)
    (case c7 => k_is)
    (case k7 => k_is)
    (case a8 => k_is)
    (case l8 => k_is)
    (case c8 => k_is)
    (case k8 => k_is)
    (case a9 => k_is)
    (case l9 => k_is)
    (case c9 => k_is)
    (case k9 => k_is)
    (case a10 => k_is)
    (case l10 => k_is)
    (case c10 => k_is)
    (case k10 => k_is)
    (case a11 => k_is)
    (case l11 => k_is)
    (case c11 => k_is)
    (case k11 => k_is)
    (case a12 => k_is)
    (case l12 => k_is)
    (case c12 => k_is)
    (case k12 => k_is)
    (case a13 => k_is)
    (case l13 => k_is)
    (case c13 => k_is)
    (case k13 => k_is)
    (case a17 => k_is)
    (case l17 => k_is)
    (case c17 => k_is)
    (case k17 => k_is)
    (case a18 => k_is)
    (case l18 => k_is)
    (case c18 => k_is)
    (case k18 => k_is)
    (case a19 => k_is)
    (case l19 => k_is)
    (case c19 => k_is)
    (case k19 => k_is)
    (case a20 => k_is)
    (case l20 => k_is)
    (case c20 => k_is)
    (case k20 => k_is)
    (case a22 => k_is)
    (case l22 => k_is)
    (case c22 => k_is)
    (case k22 => k_is)
    (case a24 => k_is)
    (case l24 => k_is)
    (case c24 => k_is)
    (case k24 => k_is)
    (case a25 => k_is)
    (case l25 => k_is)
    (case c25 => k_is)
    (case k25 => k_is)
    (case a26 => k_is)
    (case l26 => k_is)
    (case c26 => k_is)
    (case k26 => k_is)
    (case a28 => k_is)
    (case l28 => k_is)
    (case c28 => k_is)
    (case k28 => k_is)
    (case a29 => k_is)
    (case l29 => k_is)
    (case c29 => k_is)
    (case k29 => k_is)
    (case a30 => k_is)
    (case l30 => k_is)
    (case c30 => k_is)
    (case k30 => k_is)
    (case a31 => k_is)
    (case l31 => k_is)
    (case c31 => k_is)
    (case k31 => k_is)
    (case a32 => k_is)
    (case l32 => k_is)
    (case c32 => k_is)
    (case k32 => k_is)
    (case a33 => k_is)
    (case l33 => k_is)
    (case c33 => k_is)
    (case k33 => k_is)
    (case a34 => k_is)
    (case l34 => k_is)
    (case c34 => k_is)
    (case k34 => k_is)
    (case a36 => k_is)
    (case l36 => k_is)
    (case c36 => k_is)
    (case k36 => k_is)
    (case a37 => k_is)
    (case l37 => k_is)
    (case c37 => k_is)
    (case k37 => k_is)
    (case z_isinstance => k_is)
    (case z_int => k_is)
    (case z_bool => k_is)
    (case z_tuple => k_is)
    (case z_range => k_is)
    (case z_len => k_is)
    (case z_enumerate => k_is)
    (case z_max => k_is)
    (case z_abs => k_is)
    (case z_divmod => k_is)
    (case z_min => k_is)
    (case z_list => k_is)
    (case y_MOST_DEEP => k_is)
    (case y_MOST_CORNERS => k_is)
