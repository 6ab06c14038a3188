import PyProof.Rows.All
import Wide.All
import OpenK.AllK
import Wide.FinOn
import PySem.Challenge.RW_curvefaces_k10_beyond
import HandS.ForMost
import HandS.TupAny
import HandS.Flow
import HandS.IsInst
import HandS.Evl
import HandS.Deep
import HandS.Walk
import HandS.EndOwn
import HandS.Nested
import HandS.Zip0
import HandS.Zip
import HandS.EndTab
import HandS.AnyAll
import KE.GoesZip
import KE.GoesEnum
import KE.GoesMore
import HandS.SetFor
import PyProof.GenCompD
import PyProof.GenCompT
import HandS.Conv
import HandS.Dict
import HandS.RaiseMore
import HandS.TupSets
import HandS.CallLocal
import HandS.NoneIn
import HandS.Lambda
import HandS.Hot
import HandS.HotCalls
import HandS.ExcCtx
import HandS.ExcIs
import HandS.Lambda
import HandS.Iter
set_option Elab.async false
set_option linter.all false
set_option maxRecDepth 100000
set_option maxHeartbeats 1000000
namespace CF
open PySem PySem.Spec PyProof.Rows L2 Evl
/-! ### data without lists: none, bools, ints, texts, tuples; it stays whatever is done to lists -/
mutual
inductive Dt (K : PySem.W.Frag) (H : Hp) : V → PyData → Prop
  | non : Dt K H .non .none
  | bl (b : Bool) : Dt K H (.bl b) (.bool b)
  | int (i : Int) : Dt K H (.int i) (.int i)
  | str (x : Str) : Dt K H (.str x) (.str x)
  | tup {a : Addr} {xs : List V} {ds : List PyData} : SqT K H a xs → DtAll K H xs ds → Dt K H (.ref a) (.tuple ds)
inductive DtAll (K : PySem.W.Frag) (H : Hp) : List V → List PyData → Prop
  | nil : DtAll K H [] []
  | cons {v : V} {vs : List V} {d : PyData} {ds : List PyData} : Dt K H v d → DtAll K H vs ds → DtAll K H (v :: vs) (d :: ds)
end
/-- what is a tuple (or locked) stays -/
def Tx (H H' : Hp) : Prop := ∀ a u, Rd H a (.tup u) → Rd H' a (.tup u)
theorem Tx.refl (H : Hp) : Tx H H := fun _ _ h => h
theorem Tx.trans {H H1 H2 : Hp} (a : Tx H H1) (b : Tx H1 H2) : Tx H H2 := fun c u h => b c u (a c u h)
theorem tx_of {H H' : Hp} (e : Ex H H') : Tx H H' := fun _ _ h => ex_rd e h
/-- a store at a list -/
theorem tx_lst {H : Hp} {D : Addr} {o : HO} {xs : List V} (h : H D = some (.lst xs)) : Tx H (upd H D o) := fun a u r => by
  have n : a ≠ D := fun z => by
    subst z
    rcases r with r | ⟨o, r⟩ <;> (rw [h] at r; cases r)
  rcases r with r | ⟨o, r⟩
  · exact .inl (by rw [upd_ne n]; exact r)
  · exact .inr ⟨o, by rw [upd_ne n]; exact r⟩
theorem tx_sq {K : PySem.W.Frag} {H H' : Hp} {a : Addr} {xs : List V} (e : Tx H H') (h : SqT K H a xs) : SqT K H' a xs := by
  rcases h with h | h
  · exact .inl (e _ _ h)
  · exact .inr h
mutual
theorem dt_tx {K : PySem.W.Frag} {H H' : Hp} (e : Tx H H') : ∀ {v : V} {d : PyData}, Dt K H v d → Dt K H' v d
  | _, _, .non => .non
  | _, _, .bl b => .bl b
  | _, _, .int i => .int i
  | _, _, .str x => .str x
  | _, _, .tup h a => .tup (tx_sq e h) (dta_tx e a)
theorem dta_tx {K : PySem.W.Frag} {H H' : Hp} (e : Tx H H') : ∀ {vs : List V} {ds : List PyData}, DtAll K H vs ds → DtAll K H' vs ds
  | _, _, .nil => .nil
  | _, _, .cons h t => .cons (dt_tx e h) (dta_tx e t)
end
theorem dt_ex {K : PySem.W.Frag} {H H' : Hp} (e : Ex H H') {v : V} {d : PyData} (h : Dt K H v d) : Dt K H' v d := dt_tx (tx_of e) h
theorem dta_ex {K : PySem.W.Frag} {H H' : Hp} (e : Ex H H') {vs : List V} {ds : List PyData} (h : DtAll K H vs ds) : DtAll K H' vs ds := dta_tx (tx_of e) h
mutual
theorem dt_dp {K : PySem.W.Frag} {H : Hp} : ∀ {v : V} {d : PyData}, Dt K H v d → Dp K H v d
  | _, _, .non => .non
  | _, _, .bl b => .bl b
  | _, _, .int i => .int i
  | _, _, .str x => .str x
  | _, _, .tup h a => .tup h (dta_dp a)
theorem dta_dp {K : PySem.W.Frag} {H : Hp} : ∀ {vs : List V} {ds : List PyData}, DtAll K H vs ds → DpAll K H vs ds
  | _, _, .nil => .nil
  | _, _, .cons h t => .cons (dt_dp h) (dta_dp t)
end
section
variable {K : PySem.W.Frag} {H : Hp}
theorem dta_len : ∀ {vs : List V} {ds : List PyData}, DtAll K H vs ds → vs.length = ds.length
  | _, _, .nil => rfl
  | _, _, .cons _ t => by rw [List.length_cons, List.length_cons, dta_len t]
theorem dta_get : ∀ {vs : List V} {ds : List PyData} {i : Nat} {v : V}, DtAll K H vs ds → vs[i]? = some v → ∃ d, ds[i]? = some d ∧ Dt K H v d
  | _, _, _, _, .nil, e => by simp at e
  | _, _, 0, _, .cons h _, e => by simp at e; subst e; exact ⟨_, rfl, h⟩
  | _, _, i + 1, v, .cons _ t, e => by
    obtain ⟨d, h1, h2⟩ := dta_get (i := i) (v := v) t (by simpa using e)
    exact ⟨d, by simpa using h1, h2⟩
theorem dta_get' : ∀ {vs : List V} {ds : List PyData} {i : Nat} {d : PyData}, DtAll K H vs ds → ds[i]? = some d → ∃ v, vs[i]? = some v ∧ Dt K H v d
  | _, _, _, _, .nil, e => by simp at e
  | _, _, 0, _, .cons h _, e => by simp at e; subst e; exact ⟨_, rfl, h⟩
  | _, _, i + 1, d, .cons _ t, e => by
    obtain ⟨v, h1, h2⟩ := dta_get' (i := i) (d := d) t (by simpa using e)
    exact ⟨v, by simpa using h1, h2⟩
theorem dta_app : ∀ {vs ws : List V} {ds es : List PyData}, DtAll K H vs ds → DtAll K H ws es → DtAll K H (vs ++ ws) (ds ++ es)
  | _, _, _, _, .nil, s => s
  | _, _, _, _, .cons h t, s => .cons h (dta_app t s)
theorem dta_one {v : V} {d : PyData} (h : Dt K H v d) : DtAll K H [v] [d] := .cons h .nil
theorem dta_take : ∀ {vs : List V} {ds : List PyData} (n : Nat), DtAll K H vs ds → DtAll K H (vs.take n) (ds.take n)
  | _, _, 0, _ => .nil
  | _, _, _ + 1, .nil => .nil
  | _, _, n + 1, .cons h t => .cons h (dta_take n t)
theorem dta_drop : ∀ {vs : List V} {ds : List PyData} (n : Nat), DtAll K H vs ds → DtAll K H (vs.drop n) (ds.drop n)
  | _, _, 0, r => r
  | _, _, _ + 1, .nil => .nil
  | _, _, n + 1, .cons _ t => dta_drop n t
theorem dta_ints : ∀ (l : List Int), DtAll K H (l.map V.int) (l.map PyData.int)
  | [] => .nil
  | i :: l => .cons (.int i) (dta_ints l)
theorem dta_ints_inv : ∀ {vs : List V} {l : List Int}, DtAll K H vs (l.map PyData.int) → vs = l.map V.int
  | _, [], .nil => rfl
  | _, i :: l, .cons h t => by
    cases h
    rw [dta_ints_inv t]
    rfl
end

/-! ### a new address apart -/
theorem ne_free {H : Hp} {p q : Addr} {o : HO} (h : H q = some o) (n : H p = none) : p ≠ q := fun e => by
  subst e; rw [n] at h; cases h

/-! ### what evaluates to which data -/
def EvD (K : PySem.W.Frag) (te : TE) (σ : L2.St) (H : Hp) (d : PyData) : Prop := ∀ H1, Ex H H1 → ∀ Q : VK, (∀ v H2, Ex H1 H2 → Dt K H2 v d → Q v H2) → te σ H1 Q
/-- a new list of data -/
def EvF (K : PySem.W.Frag) (te : TE) (σ : L2.St) (H : Hp) (ds : List PyData) : Prop := ∀ H1, Ex H H1 → ∀ Q : VK, (∀ p xs H2, H1 p = none → Ex H1 H2 → H2 p = some (.lst xs) → DtAll K H2 xs ds → Q (.ref p) H2) → te σ H1 Q
def EvB (K : PySem.W.Frag) (ta : TA) (σ : L2.St) (H : Hp) (ds : List PyData) : Prop := ∀ H1, Ex H H1 → ∀ Q : List V → Hp → Prop, (∀ vs H2, Ex H1 H2 → DtAll K H2 vs ds → Q vs H2) → ta σ H1 Q
section
variable {K : PySem.W.Frag} {σ : L2.St} {H H' : Hp} {ta tb te tx : TE} {t u : TT} {x y z v : V} {r : R2} {d : PyData} {ds es : List PyData}
theorem EvD.mono (e : Ex H H') (h : EvD K te σ H d) : EvD K te σ H' d := fun H1 a Q q => h H1 (e.trans a) Q q
theorem EvF.mono (e : Ex H H') (h : EvF K te σ H ds) : EvF K te σ H' ds := fun H1 a Q q => h H1 (e.trans a) Q q
theorem ed_var {i : Nat} (h : σ[i]? = some (some v)) (hd : Dt K H v d) : EvD K (tVar i) σ H d := fun H1 e _ q => ⟨v, h, q v H1 (Ex.refl H1) (dt_ex e hd)⟩
theorem ed_ev (h : Ev te σ H v) (hd : Dt K H v d) : EvD K te σ H d := fun H1 e Q q => h H1 e Q fun H2 e2 => q v H2 e2 (dt_ex (e.trans e2) hd)
theorem ev_int {i : Int} (h : EvD K te σ H (.int i)) : Ev te σ H (.int i) := fun H1 e Q q => h H1 e Q fun v H2 e2 hd => by
  cases hd
  exact q H2 e2
theorem ev_bl {b : Bool} (h : EvD K te σ H (.bool b)) : Ev te σ H (.bl b) := fun H1 e Q q => h H1 e Q fun v H2 e2 hd => by
  cases hd
  exact q H2 e2
theorem ev_str {s : Str} (h : EvD K te σ H (.str s)) : Ev te σ H (.str s) := fun H1 e Q q => h H1 e Q fun v H2 e2 hd => by
  cases hd
  exact q H2 e2
theorem ed_int {i : Int} (h : Ev te σ H (.int i)) : EvD K te σ H (.int i) := ed_ev h (.int i)
theorem ed_bl {b : Bool} (h : Ev te σ H (.bl b)) : EvD K te σ H (.bool b) := ed_ev h (.bl b)
theorem ed_is {e : PyData} (h : EvD K te σ H d) (q : d = e) : EvD K te σ H e := q ▸ h
theorem ef_is (h : EvF K te σ H ds) (q : ds = es) : EvF K te σ H es := q ▸ h
theorem eb_nil : EvB K tNil σ H [] := fun H1 _ _ q => q [] H1 (Ex.refl H1) .nil
theorem eb_cons {tr : TA} (h : EvD K ta σ H d) (hr : EvB K tr σ H ds) : EvB K (tCons ta tr) σ H (d :: ds) := fun H1 e _ q =>
  h H1 e _ fun v H2 e2 hd => hr H2 (e.trans e2) _ fun vs H3 e3 ha => q (v :: vs) H3 (e2.trans e3) (.cons (dt_ex e3 hd) ha)
theorem ed_tup {ta : TA} (h : EvB K ta σ H ds) (hl : ds.length ≤ 100000) : EvD K (tTup ta) σ H (.tuple ds) := fun H1 e _ q =>
  h H1 e _ fun vs H2 e2 ha => ⟨sz_of (by rw [dta_len ha]; exact hl), fun p hp => q _ _ (e2.trans (Ex.new hp)) (.tup (.inl (.inl upd_same)) (dta_ex (Ex.new hp) ha))⟩
theorem ef_lst {ta : TA} (h : EvB K ta σ H ds) (hl : ds.length ≤ 100000) : EvF K (tLst ta) σ H ds := fun H1 e _ q =>
  h H1 e _ fun vs H2 e2 ha => ⟨sz_of (by rw [dta_len ha]; exact hl), fun p hp => q p vs _ (fresh_back e2 hp) (e2.trans (Ex.new hp)) upd_same (dta_ex (Ex.new hp) ha)⟩
/-- t + u -/
theorem ed_cat {xs ys : List PyData} (ha : EvD K ta σ H (.tuple xs)) (hb : EvD K tb σ H (.tuple ys)) (hl : xs.length + ys.length ≤ 100000) : EvD K (tOp (rCatA K) ta tb) σ H (.tuple (xs ++ ys)) := fun H1 e Q q =>
  ha H1 e _ fun v H2 e2 hv => hb H2 (e.trans e2) _ fun w H3 e3 hw => by
    have hv := dt_ex e3 hv
    cases hv with
    | tup hs hx =>
      cases hw with
      | tup ht hy =>
        rename_i a vs b ws
        refine ⟨_, _, _, _, rfl, rfl, hs, ht, sz_of (by rw [dta_len hx, dta_len hy]; exact hl), fun z => ?_, fun _ z => ?_, fun _ _ p hp => ?_⟩
        · subst z
          cases hx
          exact q _ _ (e2.trans e3) (.tup ht hy)
        · subst z
          cases hy
          rw [List.append_nil] at q
          exact q _ _ (e2.trans e3) (.tup hs hx)
        · exact q _ _ ((e2.trans e3).trans (Ex.new hp)) (.tup (.inl (.inl upd_same)) (dta_ex (Ex.new hp) (dta_app hx hy)))
theorem atI_dta {vs : List V} {i : Int} (h : DtAll K H vs ds) (e : atI ds i = some d) : ∃ v, atI vs i = some v ∧ Dt K H v d := by
  unfold atI at e ⊢
  rw [dta_len h]
  cases q : ixN ds.length i with
  | none => rw [q] at e; cases e
  | some j =>
    rw [q] at e
    exact dta_get' h e
theorem ed_ixT {i : Int} (ha : EvD K ta σ H (.tuple ds)) (hb : Ev tb σ H (.int i)) (h : atI ds i = some d) : EvD K (tOp (rIxT K) ta tb) σ H d := fun H1 e Q q =>
  ha H1 e _ fun v H2 e2 hv => hb H2 (e.trans e2) _ fun H3 e3 => by
    have hv := dt_ex e3 hv
    cases hv with
    | tup hs hx =>
      obtain ⟨w, hw, hd⟩ := atI_dta hx h
      exact ⟨_, _, i, w, rfl, rfl, hs, hw, q w H3 (e2.trans e3) hd⟩
/-- xs[i] of a list that stands -/
theorem ed_ixL {i : Int} {a : Addr} {xs : List V} (ha : Ev ta σ H (.ref a)) (hs : SqL K H a xs) (hx : DtAll K H xs ds) (hb : Ev tb σ H (.int i)) (h : atI ds i = some d) : EvD K (tOp (rIxL K) ta tb) σ H d := fun H1 e Q q =>
  ha H1 e _ fun H2 e2 => hb H2 (e.trans e2) _ fun H3 e3 => by
    obtain ⟨w, hw, hd⟩ := atI_dta (dta_ex ((e.trans e2).trans e3) hx) h
    exact ⟨_, _, i, w, rfl, rfl, ex_l ((e.trans e2).trans e3) hs, hw, q w H3 (e2.trans e3) hd⟩
/-- [..][i]: of a list made on the way -/
theorem ed_ixF {i : Int} (ha : EvF K ta σ H ds) (hb : Ev tb σ H (.int i)) (h : atI ds i = some d) : EvD K (tOp (rIxL K) ta tb) σ H d := fun H1 e Q q =>
  ha H1 e _ fun p xs H2 _ e2 hp hx => hb H2 (e.trans e2) _ fun H3 e3 => by
    obtain ⟨w, hw, hd⟩ := atI_dta (dta_ex e3 hx) h
    exact ⟨_, _, i, w, rfl, rfl, sq_of (e3 p _ hp), hw, q w H3 (e2.trans e3) hd⟩
theorem ev_lenT (ha : EvD K ta σ H (.tuple ds)) : Ev (tCB (rLenS K) (tCons ta tNil)) σ H (.int (ds.length : Int)) := fun H1 e Q q =>
  ha H1 e _ fun v H2 e2 hv => by
    cases hv with
    | tup hs hx =>
      refine ⟨_, _, rfl, .inr hs, ?_⟩
      rw [dta_len hx]
      exact q H2 e2
theorem ev_lenF (ha : EvF K ta σ H ds) : Ev (tCB (rLenS K) (tCons ta tNil)) σ H (.int (ds.length : Int)) := fun H1 e Q q =>
  ha H1 e _ fun p xs H2 _ e2 hp hx => ⟨p, xs, rfl, .inl (sq_of hp), by rw [dta_len hx]; exact q H2 e2⟩
theorem ev_lenD {a : Addr} {xs : List V} (ha : Ev ta σ H (.ref a)) (hs : SqL K H a xs) (hx : DtAll K H xs ds) : Ev (tCB (rLenS K) (tCons ta tNil)) σ H (.int (ds.length : Int)) := by
  rw [← dta_len hx]
  exact ev_len ha hs
/-- xs + ys -/
theorem ef_catLF {p : Addr} {xs : List V} (ha : Ev ta σ H (.ref p)) (hp : H p = some (.lst xs)) (hx : DtAll K H xs ds) (hb : EvF K tb σ H es) (hl : ds.length + es.length ≤ 100000) : EvF K (tOp rCat ta tb) σ H (ds ++ es) := fun H1 e Q q =>
  ha H1 e _ fun H2 e2 => hb H2 (e.trans e2) _ fun b ys H3 _ e3 hb' hy =>
    ⟨_, _, _, _, rfl, rfl, ((e.trans e2).trans e3) p _ hp, hb', sz_of (by rw [dta_len hx, dta_len hy]; exact hl), fun n hn =>
      q n _ _ (fresh_back (e2.trans e3) hn) ((e2.trans e3).trans (Ex.new hn)) upd_same (dta_ex (Ex.new hn) (dta_app (dta_ex ((e.trans e2).trans e3) hx) hy))⟩
theorem ef_catFF (ha : EvF K ta σ H ds) (hb : EvF K tb σ H es) (hl : ds.length + es.length ≤ 100000) : EvF K (tOp rCat ta tb) σ H (ds ++ es) := fun H1 e Q q =>
  ha H1 e _ fun p xs H2 np e2 hp hx => hb H2 (e.trans e2) _ fun b ys H3 _ e3 hb' hy =>
    ⟨_, _, _, _, rfl, rfl, e3 p _ hp, hb', sz_of (by rw [dta_len hx, dta_len hy]; exact hl), fun n hn =>
      q n _ _ (fresh_back (e2.trans e3) hn) ((e2.trans e3).trans (Ex.new hn)) upd_same (dta_ex (Ex.new hn) (dta_app (dta_ex e3 hx) hy))⟩
/-! calls of defs that hand on data -/
def spD (K : PySem.W.Frag) (pre : List PyData → Prop) (f : List PyData → PyData) : Sp := fun vs H Q _ => ∃ ds, DtAll K H vs ds ∧ pre ds ∧ ∀ v H2, Ex H H2 → Dt K H2 v (f ds) → Q v H2
def spF (K : PySem.W.Frag) (pre : List PyData → Prop) (f : List PyData → List PyData) : Sp := fun vs H Q _ => ∃ ds, DtAll K H vs ds ∧ pre ds ∧ ∀ p xs H2, H p = none → Ex H H2 → H2 p = some (.lst xs) → DtAll K H2 xs (f ds) → Q (.ref p) H2
theorem ed_call {pre : List PyData → Prop} {f : List PyData → PyData} {E : XK} {ta : TA} (h : EvB K ta σ H ds) (hp : pre ds) : EvD K (tCall (spD K pre f) [] E ta) σ H (f ds) := fun H1 e Q q =>
  h H1 e _ fun vs H2 e2 ha => by
    show spD K pre f (vs ++ []) H2 Q E
    rw [List.append_nil]
    exact ⟨ds, ha, hp, fun v H3 e3 hd => q v H3 (e2.trans e3) hd⟩
theorem ef_call {pre : List PyData → Prop} {f : List PyData → List PyData} {E : XK} {ta : TA} (h : EvB K ta σ H ds) (hp : pre ds) : EvF K (tCall (spF K pre f) [] E ta) σ H (f ds) := fun H1 e Q q =>
  h H1 e _ fun vs H2 e2 ha => by
    show spF K pre f (vs ++ []) H2 Q E
    rw [List.append_nil]
    exact ⟨ds, ha, hp, fun p xs H3 np e3 hx hd => q p xs H3 (fresh_back e2 np) (e2.trans e3) hx hd⟩
/-! == and != -/
theorem ev_eqDD {d e : PyData} (ha : EvD K ta σ H d) (hb : EvD K tb σ H e) (sd : SeqAt.shaped d = true) (se : SeqAt.shaped e = true) : Ev (tOp (rEqD K) ta tb) σ H (.bl (PyData.eqv d e)) := fun H1 e1 Q q =>
  ha H1 e1 _ fun v H2 e2 hv => hb H2 (e1.trans e2) _ fun w H3 e3 hw => ⟨d, e, dt_dp (dt_ex e3 hv), dt_dp hw, sd, se, q H3 (e2.trans e3)⟩
theorem ev_neDD {d e : PyData} (ha : EvD K ta σ H d) (hb : EvD K tb σ H e) (sd : SeqAt.shaped d = true) (se : SeqAt.shaped e = true) : Ev (tOp (rNeD K) ta tb) σ H (.bl (!PyData.eqv d e)) := fun H1 e1 Q q =>
  ha H1 e1 _ fun v H2 e2 hv => hb H2 (e1.trans e2) _ fun w H3 e3 hw => ⟨d, e, dt_dp (dt_ex e3 hv), dt_dp hw, sd, se, q H3 (e2.trans e3)⟩
theorem ev_neFF (ha : EvF K ta σ H ds) (hb : EvF K tb σ H es) (sd : SeqAt.shaped (.list ds) = true) (se : SeqAt.shaped (.list es) = true) : Ev (tOp (rNeD K) ta tb) σ H (.bl (!PyData.eqv (.list ds) (.list es))) := fun H1 e1 Q q =>
  ha H1 e1 _ fun p xs H2 _ e2 hp hx => hb H2 (e1.trans e2) _ fun r ys H3 _ e3 hr hy => ⟨_, _, .lst (sq_of (e3 p _ hp)) (dta_dp (dta_ex e3 hx)), .lst (sq_of hr) (dta_dp hy), sd, se, q H3 (e2.trans e3)⟩
theorem ev_eqFF (ha : EvF K ta σ H ds) (hb : EvF K tb σ H es) (sd : SeqAt.shaped (.list ds) = true) (se : SeqAt.shaped (.list es) = true) : Ev (tOp (rEqD K) ta tb) σ H (.bl (PyData.eqv (.list ds) (.list es))) := fun H1 e1 Q q =>
  ha H1 e1 _ fun p xs H2 _ e2 hp hx => hb H2 (e1.trans e2) _ fun r ys H3 _ e3 hr hy => ⟨_, _, .lst (sq_of (e3 p _ hp)) (dta_dp (dta_ex e3 hx)), .lst (sq_of hr) (dta_dp hy), sd, se, q H3 (e2.trans e3)⟩
/-- lists that stand -/
theorem rv_neL {a b : Addr} {xs ys : List V} (h1 : SqL K H a xs) (hx : DtAll K H xs ds) (h2 : SqL K H b ys) (hy : DtAll K H ys es) (sd : SeqAt.shaped (.list ds) = true) (se : SeqAt.shaped (.list es) = true) : RV (rNeD K) (.ref a) (.ref b) H (.bl (!PyData.eqv (.list ds) (.list es))) := fun H1 e Q q =>
  ⟨_, _, .lst (ex_l e h1) (dta_dp (dta_ex e hx)), .lst (ex_l e h2) (dta_dp (dta_ex e hy)), sd, se, q H1 (Ex.refl H1)⟩
/-! comprehensions -/
def Cd (K : PySem.W.Frag) (H : Hp) (Dl : Addr) (ds : List PyData) (H' : Hp) : Prop := H Dl = none ∧ Ex H H' ∧ ∃ acc, H' Dl = some (.lst acc) ∧ DtAll K H' acc ds
theorem cd_turn {H H' : Hp} {Dl : Addr} {ds : List PyData} {b : Bool} {d : PyData} {σ2 : L2.St} (p : Cd K H Dl ds H') (hi : ds.length < 50000) (ht : EvT t σ2 H' b) (he : b = true → EvD K te σ2 H' d) :
    t σ2 H' fun b H3 => if b = true then te σ2 H3 fun y H4 => ∃ acc, H4 Dl = some (.lst acc) ∧ acc.length < sizeLine ∧ Cd K H Dl (ds ++ [d]) (upd H4 Dl (.lst (acc ++ [y]))) else Cd K H Dl ds H3 := by
  obtain ⟨p1, p2, acc, p3, p4⟩ := p
  refine ht H' (Ex.refl H') _ fun H3 e3 => ?_
  cases b with
  | true =>
    show te σ2 H3 fun y H4 => _
    refine (he rfl) H3 e3 _ fun y H4 e4 hd => ⟨acc, e4 Dl _ (e3 Dl _ p3), sz_lt (by rw [dta_len p4]; omega), p1, Ex.mut ((p2.trans e3).trans e4) p1, _, upd_same, ?_⟩
    exact dta_tx (tx_lst (e4 Dl _ (e3 Dl _ p3))) (dta_app (dta_ex (e3.trans e4) p4) (dta_one hd))
  | false => exact ⟨p1, p2.trans e3, acc, e3 Dl _ p3, dta_ex e3 p4⟩
theorem filter_take_succ {α : Type} {f : α → Bool} {l : List α} {i : Nat} {a : α} (h : l[i]? = some a) : (l.take (i + 1)).filter f = (l.take i).filter f ++ (if f a = true then [a] else []) := by
  rw [List.take_add_one, h, List.filter_append]
  show _ ++ List.filter f [a] = _
  rw [List.filter_cons]
  cases f a <;> rfl
/-- the turn of a comprehension over things as .. filtered by f, told by g -/
theorem cd_step {α : Type} {f : α → Bool} {g : α → PyData} {l : List α} {H H' : Hp} {Dl : Addr} {i : Nat} {a : α} {σ2 : L2.St} (p : Cd K H Dl (((l.take i).filter f).map g) H') (hl : l.length < 50000) (ha : l[i]? = some a) (ht : EvT t σ2 H' (f a)) (he : f a = true → EvD K te σ2 H' (g a)) :
    t σ2 H' fun b H3 => if b = true then te σ2 H3 fun y H4 => ∃ acc, H4 Dl = some (.lst acc) ∧ acc.length < sizeLine ∧ Cd K H Dl (((l.take (i + 1)).filter f).map g) (upd H4 Dl (.lst (acc ++ [y]))) else Cd K H Dl (((l.take (i + 1)).filter f).map g) H3 := by
  have hz : (((l.take i).filter f).map g).length < 50000 := by
    rw [List.length_map]
    have h1 := List.length_filter_le f (l.take i)
    have h2 : (l.take i).length ≤ l.length := by rw [List.length_take]; exact Nat.min_le_right _ _
    omega
  obtain ⟨p1, p2, acc, p3, p4⟩ := p
  refine ht H' (Ex.refl H') _ fun H3 e3 => ?_
  have e1 := filter_take_succ (f := f) ha
  cases hb : f a with
  | true =>
    rw [hb, if_pos rfl] at e1
    refine iteT ?_
    refine he hb H3 e3 _ fun y H4 e4 hd => ⟨acc, e4 Dl _ (e3 Dl _ p3), sz_lt (by rw [dta_len p4]; omega), p1, Ex.mut ((p2.trans e3).trans e4) p1, _, upd_same, ?_⟩
    rw [e1, List.map_append]
    exact dta_tx (tx_lst (e4 Dl _ (e3 Dl _ p3))) (dta_app (dta_ex (e3.trans e4) p4) (dta_one hd))
  | false =>
    rw [hb, if_neg Bool.false_ne_true, List.append_nil] at e1
    refine iteF ?_
    rw [e1]
    exact ⟨p1, p2.trans e3, acc, e3 Dl _ p3, dta_ex e3 p4⟩
/-- over a list that stands -/
theorem ef_lcL {a : Addr} {xs : List V} {tl : TE} {j : Nat} {vs : List Nat} (f : PyData → Bool) (g : PyData → PyData) (h : Ev tl σ H (.ref a)) (hx : SqL K H a xs) (hd : DtAll K H xs ds) (hz : ds.length < 50000) (hw : ∀ x, wipe ((wipe σ vs).set j (some x)) vs = wipe σ vs)
    (ht : ∀ (d : PyData) (x : V) H1, Ex H H1 → d ∈ ds → Dt K H1 x d → EvT t ((wipe σ vs).set j (some x)) H1 (f d)) (he : ∀ (d : PyData) (x : V) H1, Ex H H1 → d ∈ ds → Dt K H1 x d → f d = true → EvD K te ((wipe σ vs).set j (some x)) H1 (g d)) :
    EvF K (tLc (iList K tl) (gName j) t te vs) σ H ((ds.filter f).map g) := fun H0 e Q q => h H0 e _ fun H1 e1 => ⟨a, rfl, ⟨xs, ex_l (e.trans e1) hx⟩, fun Dl hD =>
  lc_list (xs := xs) (fun i H' => Cd K H1 Dl (((ds.take i).filter f).map g) H') ⟨hD, Ex.new hD, [], upd_same, .nil⟩ (fun i H' _ p => ex_l ((e.trans e1).trans p.2.1) hx) (fun i x H' hi p => by
      obtain ⟨d, h1, h2⟩ := dta_get (dta_ex ((e.trans e1).trans p.2.1) hd) hi
      have hm := List.mem_of_getElem? h1
      have e3 := (e.trans e1).trans p.2.1
      exact ⟨hw x, cd_step p hz h1 (ht d x H' e3 hm h2) (fun hf => he d x H' e3 hm h2 hf)⟩)
    (fun H' p => by
      obtain ⟨p1, p2, acc, p3, p4⟩ := p
      have e5 : ds.take xs.length = ds := List.take_of_length_le (by rw [dta_len hd]; exact Nat.le_refl _)
      rw [e5] at p4
      exact q Dl acc H' (fresh_back e1 p1) (e1.trans p2) p3 p4)⟩
/-- over a tuple -/
theorem ef_lcT {tl : TE} {j : Nat} {vs : List Nat} (f : PyData → Bool) (g : PyData → PyData) (h : EvD K tl σ H (.tuple ds)) (hz : ds.length < 50000) (hw : ∀ x, wipe ((wipe σ vs).set j (some x)) vs = wipe σ vs)
    (ht : ∀ (d : PyData) (x : V) H1, Ex H H1 → d ∈ ds → Dt K H1 x d → EvT t ((wipe σ vs).set j (some x)) H1 (f d)) (he : ∀ (d : PyData) (x : V) H1, Ex H H1 → d ∈ ds → Dt K H1 x d → f d = true → EvD K te ((wipe σ vs).set j (some x)) H1 (g d)) :
    EvF K (tLc (iTup K tl) (gName j) t te vs) σ H ((ds.filter f).map g) := fun H0 e Q q => h H0 e _ fun v H1 e1 hv => by
  cases hv with
  | tup hx hd =>
    rename_i a xs
    exact ⟨a, rfl, ⟨xs, hx⟩, fun Dl hD =>
      lc_tup (xs := xs) (fun i H' => Cd K H1 Dl (((ds.take i).filter f).map g) H') ⟨hD, Ex.new hD, [], upd_same, .nil⟩ (fun i H' _ p => ex_t p.2.1 hx) (fun i x H' hi p => by
          obtain ⟨d, h1, h2⟩ := dta_get (dta_ex p.2.1 hd) hi
          have hm := List.mem_of_getElem? h1
          have e3 := (e.trans e1).trans p.2.1
          exact ⟨hw x, cd_step p hz h1 (ht d x H' e3 hm h2) (fun hf => he d x H' e3 hm h2 hf)⟩)
        (fun H' p => by
          obtain ⟨p1, p2, acc, p3, p4⟩ := p
          have e5 : ds.take xs.length = ds := List.take_of_length_le (by rw [dta_len hd]; exact Nat.le_refl _)
          rw [e5] at p4
          exact q Dl acc H' (fresh_back e1 p1) (e1.trans p2) p3 p4)⟩
/-- over a list made on the way -/
theorem ef_lcF {tl : TE} {j : Nat} {vs : List Nat} (f : PyData → Bool) (g : PyData → PyData) (h : EvF K tl σ H ds) (hz : ds.length < 50000) (hw : ∀ x, wipe ((wipe σ vs).set j (some x)) vs = wipe σ vs)
    (ht : ∀ (d : PyData) (x : V) H1, Ex H H1 → d ∈ ds → Dt K H1 x d → EvT t ((wipe σ vs).set j (some x)) H1 (f d)) (he : ∀ (d : PyData) (x : V) H1, Ex H H1 → d ∈ ds → Dt K H1 x d → f d = true → EvD K te ((wipe σ vs).set j (some x)) H1 (g d)) :
    EvF K (tLc (iList K tl) (gName j) t te vs) σ H ((ds.filter f).map g) := fun H0 e Q q => h H0 e _ fun a xs H1 ha e1 hx hd => ⟨a, rfl, ⟨xs, sq_of hx⟩, fun Dl hD =>
  lc_list (xs := xs) (fun i H' => Cd K H1 Dl (((ds.take i).filter f).map g) H') ⟨hD, Ex.new hD, [], upd_same, .nil⟩ (fun i H' _ p => sq_of (p.2.1 a _ hx)) (fun i x H' hi p => by
      obtain ⟨d, h1, h2⟩ := dta_get (dta_ex p.2.1 hd) hi
      have hm := List.mem_of_getElem? h1
      have e3 := (e.trans e1).trans p.2.1
      exact ⟨hw x, cd_step p hz h1 (ht d x H' e3 hm h2) (fun hf => he d x H' e3 hm h2 hf)⟩)
    (fun H' p => by
      obtain ⟨p1, p2, acc, p3, p4⟩ := p
      have e5 : ds.take xs.length = ds := List.take_of_length_le (by rw [dta_len hd]; exact Nat.le_refl _)
      rw [e5] at p4
      exact q Dl acc H' (fresh_back e1 p1) (e1.trans p2) p3 p4)⟩
/-- the ints lo, lo + 1, .. below hi -/
def upTo (lo hi : Int) : List Int := (List.range (hi - lo).toNat).map fun (i : Nat) => lo + (i : Int)
theorem upTo_get {lo hi : Int} {i : Nat} (h : i < (hi - lo).toNat) : (upTo lo hi)[i]? = some (lo + (i : Int)) := by
  unfold upTo
  rw [List.getElem?_map, List.getElem?_range h]
  rfl
theorem upTo_len (lo hi : Int) : (upTo lo hi).length = (hi - lo).toNat := by
  unfold upTo
  rw [List.length_map, List.length_range]
theorem ef_lcR2 {ta : TA} {j : Nat} {vs : List Nat} {lo hi : Int} (f : Int → Bool) (g : Int → PyData) (h : EvA ta σ H [.int lo, .int hi]) (hn : -10000 ≤ lo ∧ lo ≤ 10000 ∧ -10000 ≤ hi ∧ hi ≤ 10000) (hw : ∀ x, wipe ((wipe σ vs).set j (some x)) vs = wipe σ vs)
    (ht : ∀ (i : Int) H1, Ex H H1 → lo ≤ i → i < hi → EvT t ((wipe σ vs).set j (some (.int i))) H1 (f i)) (he : ∀ (i : Int) H1, Ex H H1 → lo ≤ i → i < hi → f i = true → EvD K te ((wipe σ vs).set j (some (.int i))) H1 (g i)) :
    EvF K (tLc (iRng2 ta) (gName j) t te vs) σ H (((upTo lo hi).filter f).map g) := fun H0 e Q q => h H0 e _ fun H1 e1 => ⟨lo, hi, rfl, ⟨by omega, by omega, by omega, by omega⟩, fun Dl hD =>
  lc_range (lo := lo) (n := (hi - lo).toNat) (fun i H' => Cd K H1 Dl ((((upTo lo hi).take i).filter f).map g) H') ⟨hD, Ex.new hD, [], upd_same, .nil⟩ (fun i H' hi p => by
      have e3 := (e.trans e1).trans p.2.1
      exact ⟨hw _, cd_step p (by rw [upTo_len]; omega) (upTo_get hi) (ht _ H' e3 (by omega) (by omega)) (fun hf => he _ H' e3 (by omega) (by omega) hf)⟩)
    (fun H' p => by
      obtain ⟨p1, p2, acc, p3, p4⟩ := p
      have e5 : (upTo lo hi).take (hi - lo).toNat = upTo lo hi := List.take_of_length_le (by rw [upTo_len]; exact Nat.le_refl _)
      rw [e5] at p4
      exact q Dl acc H' (fresh_back e1 p1) (e1.trans p2) p3 p4)⟩
theorem ef_lcR1 {ta : TA} {j : Nat} {vs : List Nat} {hi : Int} (f : Int → Bool) (g : Int → PyData) (h : EvA ta σ H [.int hi]) (hn : -10000 ≤ hi ∧ hi ≤ 10000) (hw : ∀ x, wipe ((wipe σ vs).set j (some x)) vs = wipe σ vs)
    (ht : ∀ (i : Int) H1, Ex H H1 → 0 ≤ i → i < hi → EvT t ((wipe σ vs).set j (some (.int i))) H1 (f i)) (he : ∀ (i : Int) H1, Ex H H1 → 0 ≤ i → i < hi → f i = true → EvD K te ((wipe σ vs).set j (some (.int i))) H1 (g i)) :
    EvF K (tLc (iRng1 ta) (gName j) t te vs) σ H (((upTo 0 hi).filter f).map g) := fun H0 e Q q => h H0 e _ fun H1 e1 => ⟨hi, rfl, by omega, by omega, fun Dl hD =>
  lc_range (lo := 0) (n := hi.toNat) (fun i H' => Cd K H1 Dl ((((upTo 0 hi).take i).filter f).map g) H') ⟨hD, Ex.new hD, [], upd_same, .nil⟩ (fun i H' hi p => by
      have e3 := (e.trans e1).trans p.2.1
      exact ⟨hw _, cd_step p (by rw [upTo_len]; omega) (upTo_get (by omega)) (ht _ H' e3 (by omega) (by omega)) (fun hf => he _ H' e3 (by omega) (by omega) hf)⟩)
    (fun H' p => by
      obtain ⟨p1, p2, acc, p3, p4⟩ := p
      have e5 : (upTo 0 hi).take hi.toNat = upTo 0 hi := List.take_of_length_le (by rw [upTo_len]; omega)
      rw [e5] at p4
      exact q Dl acc H' (fresh_back e1 p1) (e1.trans p2) p3 p4)⟩
theorem et_yes : EvT tYes σ H true := fun H1 _ _ q => q H1 (Ex.refl H1)
theorem ev_chain {r r' : R2} {tc : TE} {a b : Bool} (ha : Ev ta σ H x) (hb : Ev tb σ H y) (hc : Ev tc σ H z) (h1 : RV r x y H (.bl a)) (h2 : RV r' y z H (.bl b)) : Ev (tChain r r' ta tb tc) σ H (.bl (a && b)) := fun H1 e Q q =>
  ha H1 e _ fun H2 e2 => hb H2 (e.trans e2) _ fun H3 e3 => h1 H3 ((e.trans e2).trans e3) _ fun H4 e4 => ⟨a, rfl, by
    cases a with
    | true => exact iteT (hc H4 (((e.trans e2).trans e3).trans e4) _ fun H5 e5 => h2 H5 ((((e.trans e2).trans e3).trans e4).trans e5) Q fun H6 e6 => q H6 ((((e2.trans e3).trans e4).trans e5).trans e6))
    | false => exact iteF (q H4 ((e2.trans e3).trans e4))⟩
/-- x or y, x a tuple -/
theorem ed_orT (ha : EvD K ta σ H (.tuple ds)) (hb : ds = [] → EvD K tb σ H d) (hd : ds ≠ [] → d = .tuple ds) : EvD K (tOrT K ta tb) σ H d := fun H1 e Q q =>
  ha H1 e _ fun v H2 e2 hv => by
    cases hv with
    | tup hs hx =>
      rename_i a xs
      refine ⟨!xs.isEmpty, .inr (.inl ⟨xs, hs, rfl⟩), ?_⟩
      cases xs with
      | nil =>
        cases hx
        exact iteF (hb rfl H2 (e.trans e2) Q fun w H3 e3 hw => q w H3 (e2.trans e3) hw)
      | cons x xs =>
        refine iteT ?_
        have hne : ds ≠ [] := fun z => by
          subst z
          cases hx
        refine q _ H2 e2 ?_
        rw [hd hne]
        exact .tup hs hx
theorem ev_isi {ty c : String} {b : Bool} (ha : Ev ta σ H v) (hb : Ev tb σ H (.ty c)) (ht : ∀ H1, Ex H H1 → TyX K H1 v (.type ty)) (hk : kitB ty c = some b) : Ev (tCB (rIsi K) (tCons ta (tCons tb tNil))) σ H (.bl b) := fun H1 e Q q =>
  ha H1 e _ fun H2 e2 => hb H2 (e.trans e2) _ fun H3 e3 => ⟨v, .ty c, .type ty, .type c, b, rfl, .ty c, ht H3 ((e.trans e2).trans e3), kit_ty hk, q H3 (e2.trans e3)⟩
theorem ty_int {i : Int} : ∀ H1, Ex H H1 → TyX K H1 (.int i) (.type "int") := fun _ _ => .base (.int i)
theorem ev_min2 {i j : Int} (ha : Ev ta σ H (.int i)) (hb : Ev tb σ H (.int j)) : Ev (tCB (fun xs H Q => ∃ i j, xs = [.int i, .int j] ∧ Q (.int (if j < i then j else i)) H) (tCons ta (tCons tb tNil))) σ H (.int (if j < i then j else i)) := fun H1 e Q q =>
  ha H1 e _ fun H2 e2 => hb H2 (e.trans e2) _ fun H3 e3 => ⟨i, j, rfl, q H3 (e2.trans e3)⟩
/-- a def that hands back a value and leaves the heap -/
def spV (pre : List V → Hp → Prop) (f : List V → V) : Sp := fun vs H Q _ => pre vs H ∧ ∀ H2, Ex H H2 → Q (f vs) H2
theorem ev_spv {pre : List V → Hp → Prop} {f : List V → V} {E : XK} {ta : TA} {vs : List V} (h : EvA ta σ H vs) (hp : ∀ H1, Ex H H1 → pre vs H1) : Ev (tCall (spV pre f) [] E ta) σ H (f vs) := fun H1 e Q q =>
  h H1 e _ fun H2 e2 => by
    show spV pre f (vs ++ []) H2 Q E
    rw [List.append_nil]
    exact ⟨hp H2 (e.trans e2), fun H3 e3 => q H3 (e2.trans e3)⟩
end
section
variable {K : PySem.W.Frag} {σ : L2.St} {H H' : Hp} {te : TE} {d : PyData} {ds : List PyData} {D : Ends} {tz tu : TS} {i : Nat}
theorem s_asgF (h : EvF K te σ H ds) (k : ∀ p xs H1, H p = none → Ex H H1 → H1 p = some (.lst xs) → DtAll K H1 xs ds → D.nx (σ.set i (some (.ref p))) H1) : tAsg te (gName i) D σ H := h H (Ex.refl H) _ k
theorem q_asgF (h : EvF K te σ H ds) (k : ∀ p xs H1, H p = none → Ex H H1 → H1 p = some (.lst xs) → DtAll K H1 xs ds → tz D (σ.set i (some (.ref p))) H1) : tSeq (tAsg te (gName i)) tz D σ H := h H (Ex.refl H) _ k
theorem s_asgD (h : EvD K te σ H d) (k : ∀ v H1, Ex H H1 → Dt K H1 v d → D.nx (σ.set i (some v)) H1) : tAsg te (gName i) D σ H := h H (Ex.refl H) _ k
theorem q_asgD (h : EvD K te σ H d) (k : ∀ v H1, Ex H H1 → Dt K H1 v d → tz D (σ.set i (some v)) H1) : tSeq (tAsg te (gName i)) tz D σ H := h H (Ex.refl H) _ k
theorem s_retF (h : EvF K te σ H ds) (k : ∀ p xs H1, H p = none → Ex H H1 → H1 p = some (.lst xs) → DtAll K H1 xs ds → D.rt (.ref p) H1) : tRet te D σ H := h H (Ex.refl H) _ k
theorem s_retD (h : EvD K te σ H d) (k : ∀ v H1, Ex H H1 → Dt K H1 v d → D.rt v H1) : tRet te D σ H := h H (Ex.refl H) _ k
end
/-! ### lots as lists of ints -/
def lotD (l : List Int) : PyData := .tuple (l.map PyData.int)
theorem lotD_ix {l : List Int} {i : Int} {x : Int} (h : atI l i = some x) : atI (l.map PyData.int) i = some (.int x) := by
  unfold atI at h ⊢
  rw [List.length_map]
  cases q : ixN l.length i with
  | none => rw [q] at h; cases h
  | some j =>
    rw [q] at h
    show (l.map PyData.int)[j]? = _
    rw [List.getElem?_map, show l[j]? = some x from h]
    rfl
theorem dt_lot {K : PySem.W.Frag} {H : Hp} {v : V} {l : List Int} (h : Dt K H v (lotD l)) : ∃ a, v = .ref a ∧ SqT K H a (l.map V.int) := by
  unfold lotD at h
  cases h with
  | tup hs hx =>
    rw [dta_ints_inv hx] at hs
    exact ⟨_, rfl, hs⟩
theorem lot_dt {K : PySem.W.Frag} {H : Hp} {a : Addr} {l : List Int} (h : SqT K H a (l.map V.int)) : Dt K H (.ref a) (lotD l) := .tup h (dta_ints l)
theorem inV_ints (x : Int) : ∀ l : List Int, inV (.int x) (l.map V.int) = l.contains x := by
  intro l
  induction l with
  | nil => rfl
  | cons y r ih =>
    have e : inV (.int x) ((y :: r).map V.int) = (eqV (.int y) (.int x) || inV (.int x) (r.map V.int)) := rfl
    rw [e, ih, List.contains_cons]
    have e2 : eqV (.int y) (.int x) = (x == y) := by
      show (y == x) = (x == y)
      exact Bool.beq_comm
    rw [e2]
theorem flat_ints : ∀ l : List Int, (l.map V.int).all flatV = true
  | [] => rfl
  | x :: r => by
    show (true && (r.map V.int).all flatV) = true
    rw [flat_ints r]
    rfl
theorem lastD (l : List Int) (hne : l ≠ []) : atI l (-1) = some (l.getLast hne) := by
  have e : l = l.dropLast ++ [l.getLast hne] := (List.dropLast_concat_getLast hne).symm
  have := atI_last l.dropLast (l.getLast hne)
  rw [← e] at this
  exact this
theorem units1 {k : Nat} {A : Around} (r : Room k A) : A.units + 65 < cLine := by
  have := r.un
  omega
def topS (i : Nat) : Stmt := PySem.Challenge.pw_curvefaces_k10_beyond.main.body.getD i (.Pass ⟨0, 0, 0, 0⟩)
abbrev s_is_whole : Stmt := topS 18
abbrev N_is_whole : List Str := ["thing"]
theorem sc_is_whole : FnScope N_is_whole ["thing"] (defScope s_is_whole) := ⟨rfl, rfl, rfl, by decide +kernel, rfl, by decide +kernel, by decide +kernel⟩
abbrev s_is_lot_of : Stmt := topS 19
abbrev N_is_lot_of : List Str := ["thing", "many", "least", "one"]
theorem sc_is_lot_of : FnScope N_is_lot_of ["thing", "many"] (defScope s_is_lot_of) := ⟨rfl, rfl, rfl, by decide +kernel, rfl, by decide +kernel, by decide +kernel⟩
abbrev s_odd_blocks : Stmt := topS 20
abbrev N_odd_blocks : List Str := ["many", "lot", "out_ahead", "at", "corner", "k"]
theorem sc_odd_blocks : FnScope N_odd_blocks ["many", "lot"] (defScope s_odd_blocks) := ⟨rfl, rfl, rfl, by decide +kernel, rfl, by decide +kernel, by decide +kernel⟩
abbrev s_is_curve : Stmt := topS 24
abbrev N_is_curve : List Str := ["thing", "many", "deep"]
theorem sc_is_curve : FnScope N_is_curve ["thing"] (defScope s_is_curve) := ⟨rfl, rfl, rfl, by decide +kernel, rfl, by decide +kernel, by decide +kernel⟩
abbrev s_need_curve : Stmt := topS 25
abbrev N_need_curve : List Str := ["curve"]
theorem sc_need_curve : FnScope N_need_curve ["curve"] (defScope s_need_curve) := ⟨rfl, rfl, rfl, by decide +kernel, rfl, by decide +kernel, by decide +kernel⟩
abbrev s_is_lot : Stmt := topS 26
abbrev N_is_lot : List Str := ["thing", "curve"]
theorem sc_is_lot : FnScope N_is_lot ["thing", "curve"] (defScope s_is_lot) := ⟨rfl, rfl, rfl, by decide +kernel, rfl, by decide +kernel, by decide +kernel⟩
abbrev s_is_pane : Stmt := topS 27
abbrev N_is_pane : List Str := ["thing", "curve"]
theorem sc_is_pane : FnScope N_is_pane ["thing", "curve"] (defScope s_is_pane) := ⟨rfl, rfl, rfl, by decide +kernel, rfl, by decide +kernel, by decide +kernel⟩
abbrev s_need_pane : Stmt := topS 29
abbrev N_need_pane : List Str := ["curve", "pane"]
theorem sc_need_pane : FnScope N_need_pane ["curve", "pane"] (defScope s_need_pane) := ⟨rfl, rfl, rfl, by decide +kernel, rfl, by decide +kernel, by decide +kernel⟩
abbrev s_beyond : Stmt := topS 30
abbrev N_beyond : List Str := ["curve", "pane", "corner", "many", "rest", "one", "others", "new", "other"]
theorem sc_beyond : FnScope N_beyond ["curve", "pane", "corner"] (defScope s_beyond) := ⟨rfl, rfl, rfl, by decide +kernel, rfl, by decide +kernel, by decide +kernel⟩
abbrev s__law_box : Stmt := topS 32
abbrev N__law_box : List Str := ["_law_script", "_law_k", "_law_here", "_law_number", "_law_j", "_law_part"]
theorem sc__law_box : FnScope N__law_box ["_law_script", "_law_k"] (defScope s__law_box) := ⟨rfl, rfl, rfl, by decide +kernel, rfl, by decide +kernel, by decide +kernel⟩
abbrev s__law_more : Stmt := topS 33
abbrev N__law_more : List Str := ["_law_box_here", "_law_number", "_law_j"]
theorem sc__law_more : FnScope N__law_more ["_law_box_here"] (defScope s__law_more) := ⟨rfl, rfl, rfl, by decide +kernel, rfl, by decide +kernel, by decide +kernel⟩
abbrev s__law_take : Stmt := topS 34
abbrev N__law_take : List Str := ["_law_box_here", "_law_wide", "_law_rest_of", "_law_digit"]
theorem sc__law_take : FnScope N__law_take ["_law_box_here", "_law_wide"] (defScope s__law_take) := ⟨rfl, rfl, rfl, by decide +kernel, rfl, by decide +kernel, by decide +kernel⟩
abbrev s__law_curve : Stmt := topS 35
abbrev N__law_curve : List Str := ["_law_box_here", "_law_deep"]
theorem sc__law_curve : FnScope N__law_curve ["_law_box_here"] (defScope s__law_curve) := ⟨rfl, rfl, rfl, by decide +kernel, rfl, by decide +kernel, by decide +kernel⟩
abbrev s__law_lots : Stmt := topS 36
abbrev N__law_lots : List Str := ["_law_many", "_law_size", "_law_found", "_law_turn", "_law_longer", "_law_lot", "_law_corner"]
theorem sc__law_lots : FnScope N__law_lots ["_law_many", "_law_size"] (defScope s__law_lots) := ⟨rfl, rfl, rfl, by decide +kernel, rfl, by decide +kernel, by decide +kernel⟩
abbrev s__law_is_pane : Stmt := topS 37
abbrev N__law_is_pane : List Str := ["_law_curve_here", "_law_lot", "_law_apart", "_law_corner", "_law_place", "_law_one", "_law_other"]
theorem sc__law_is_pane : FnScope N__law_is_pane ["_law_curve_here", "_law_lot"] (defScope s__law_is_pane) := ⟨rfl, rfl, rfl, by decide +kernel, rfl, by decide +kernel, by decide +kernel⟩
abbrev s__law_panes : Stmt := topS 38
abbrev N__law_panes : List Str := ["_law_curve_here", "_law_lot"]
theorem sc__law_panes : FnScope N__law_panes ["_law_curve_here"] (defScope s__law_panes) := ⟨rfl, rfl, rfl, by decide +kernel, rfl, by decide +kernel, by decide +kernel⟩
abbrev s__law_has : Stmt := topS 39
abbrev N__law_has : List Str := ["_law_pane", "_law_lot", "_law_corner"]
theorem sc__law_has : FnScope N__law_has ["_law_pane", "_law_lot"] (defScope s__law_has) := ⟨rfl, rfl, rfl, by decide +kernel, rfl, by decide +kernel, by decide +kernel⟩
abbrev s__law_classes : Stmt := topS 40
abbrev N__law_classes : List Str := ["_law_e", "_law_found"]
theorem sc__law_classes : FnScope N__law_classes ["_law_e"] (defScope s__law_classes) := ⟨rfl, rfl, rfl, by decide +kernel, rfl, by decide +kernel, by decide +kernel⟩
abbrev s__law_refused : Stmt := topS 41
abbrev N__law_refused : List Str := ["_law_call", "_law_e", "_law_place", "_law_own"]
theorem sc__law_refused : FnScope N__law_refused ["_law_call"] (defScope s__law_refused) := ⟨rfl, rfl, rfl, by decide +kernel, rfl, by decide +kernel, by decide +kernel⟩
abbrev s_law : Stmt := topS 42
abbrev N_law : List Str := ["_law_script", "_law_k", "_law_box_here", "_law_curve_here", "_law_rows", "_law_spot", "_law_pane", "_law_corner", "_law_rest", "_law_one", "_law_due", "_law_found"]
theorem sc_law : FnScope N_law ["_law_script"] (defScope s_law) := ⟨rfl, rfl, rfl, by decide +kernel, rfl, by decide +kernel, by decide +kernel⟩
/-- the built-ins that the text uses are the built-ins -/
structure Bt (mg : Str → Option Value) : Prop where
  isinstance_ : mg "isinstance" = none
  int_ : mg "int" = none
  bool_ : mg "bool" = none
  tuple_ : mg "tuple" = none
  len_ : mg "len" = none
  enumerate_ : mg "enumerate" = none
  range_ : mg "range" = none
  sorted_ : mg "sorted" = none
  abs_ : mg "abs" = none
  divmod_ : mg "divmod" = none
  ValueError_ : mg "ValueError" = none
  max_ : mg "max" = none
  min_ : mg "min" = none
/-- a def of the text: where it stands, its name, how its arguments bind -/
structure Df (K : PySem.W.Frag) (mg : Str → Option Value) (x : Str) (st : Stmt) (ps : List Str) (f : Addr) (fd : FuncData) : Prop where
  F : Fun K x x st f fd
  g : mg x = some (.ref f)
  b : Binds K fd ps []
/-! ### all(.. for .. in ..): the def's table of code objects stands in the heap as a thing that stays a table -/
def tabIs (P : Addr) : Heap → Prop := fun h => ∃ ps : Array Value, h.get? P = some { cls := .none, data := .fields ps } ∧ TriplesOk ps.toList
abbrev TabO (P : Addr) : HO := .ext (tabIs P)
theorem tabIs_at {P : Addr} {h h' : Heap} (x : tabIs P h) (k : ∀ o, h.get? P = some o → h'.get? P = some o) : tabIs P h' := by
  obtain ⟨ps, e, t⟩ := x
  exact ⟨ps, k _ e, t⟩
theorem tab_obj {pr : Program} {w : World} {H : Hp} {h : Heap} {P : Addr} (x : tabIs P h) : ObjOk pr w H h P (TabO P) := by
  refine ⟨x, ?_, fun h1 h2 y k => tabIs_at y k⟩
  obtain ⟨ps, e, _⟩ := x
  exact ⟨_, e⟩
section
variable {X : Cx} {pins : List (Addr × Obj)} {σ : L2.St} {H : Hp} {s : Shared}
/-- the table may have grown: nothing else has changed -/
theorem inv_tabX {P : Addr} {h' : Heap} {g' : Array GenState} {d' : Drawn} {t' : Nat} (I : Inv X pins σ H s) (hP : H P = some (TabO P)) (k : ∀ b o, b ≠ P → s.heap.get? b = some o → h'.get? b = some o) (ht : tabIs P h') (hg : AllBare g') :
    Inv X pins σ H { s with heap := h', gens := g', drawn := d', toks := t' } := by
  have nf : ∀ b, H b = none → b ≠ P := fun b e z => by
    subst z
    rw [hP] at e
    cases e
  refine I.step (ch := []) (fun b hb => nomatch hb) (fun b o _ _ _ e n => k b o (nf b n) e) (fun b o _ _ _ e n => ⟨o.slots, k b o (nf b n) e⟩) (fun b o _ _ n => n) (fun b o _ e => ?_) (fun b u e => e) (fun b o u e => e) (fun b qs e => ⟨#[], by rw [e]; simp⟩) (fun m hn => ?_) (fun b u e => ?_) hg
  · by_cases hb : b = P
    · subst hb
      obtain ⟨ps, e2, _⟩ := ht
      exact ⟨_, e2⟩
    · exact ⟨o, k b o hb e⟩
  · obtain ⟨ob, es, ep, ho, r⟩ := hn
    exact ⟨ob, es, ep, k _ ob (nf _ I.free) ho, r⟩
  · by_cases hb : b = P
    · subst hb
      rw [hP] at e
      cases e
      exact tab_obj ht
    · refine (I.hok b u e).stay (fun d v hd q => k d v (fun z => ?_) q) (fun d q => q) fun d xs q => q
      subst z
      rcases hd with z | z
      · exact hb z.symm
      · rw [hP] at z
        cases z
/-- what an element of a generator expression gives, in whatever frame it is asked -/
def EltOk (X : Cx) (scope : Scope) (x : Str) (elt : Expr) (P : Addr) (σ : L2.St) (H : Hp) (xs : List V) (pb : Nat → Bool) : Prop :=
  ∀ (pins : List (Addr × Obj)) (s : Shared), Inv X pins σ H s → ∀ its : List Value, Vals xs its → ∀ cenv : Env, cenv.scope = scope → cenv.globals = X.env.globals → cenv.cells = cloFrom X.env.cells scope.names [] →
    ∀ (A' : Around) (E' : Value → Shared → Prop) (i : Nat) (v : Value) (s2 : Shared) (m2 : Str → Option Value), A'.handled = none → A'.depth ≤ X.A.depth + 1 → A'.units ≤ X.A.units + 8 → its[i]? = some v → s2.heap.Ns cenv.locals m2 → m2 x = some v →
      (∀ b o, b ≠ P → s.heap.get? b = some o → s2.heap.get? b = some o) → wpAny (model X.prog X.w) A' (eval elt cenv) (fun y s3 => y = .bool (pb i) ∧ Keeps s2 s3) E' s2
/-- a generator that stands ready, its n elements' truths pb -/
def RdyG (X : Cx) (pins : List (Addr × Obj)) (σ : L2.St) (H : Hp) (n : Nat) (pb : Nat → Bool) (g : Addr) (s5 : Shared) : Prop :=
  ∃ (fp wr : List Addr) (G : Array GenState → Array GenState → Prop) (F : Nat → Value → Prop) (St : Nat → Shared → Prop),
    WalksS X.prog X.w X.A.in1 g fp wr G n F St ∧ St 0 s5 ∧ TruthOf X.prog X.w X.A.in1 F pb ∧ ∀ s', Moved wr G s5 s' → Inv X pins σ H s'
theorem gen_tup {c P : Addr} {elt iter : Expr} {x : Str} {px gpos : Pos} {scope : Scope} {te : TE} {k : Nat} {Q' : Value → Shared → Prop} {R : List V → (Nat → Bool) → Hp → Prop} (hr : Room k X.A) (TB : GxR.TabB X.base X.mg c P) (hcode : X.env.code = .ref c) (S : GxR.GenS X.env scope x) (hi : PE X iter te)
    (hs : ∀ v, genFold iter X.env v = pure v) (I : Inv X pins σ H s) (h : te σ H fun v H1 => ∃ (a : Addr) (xs : List V) (pb : Nat → Bool), v = .ref a ∧ SqT X.K H1 a xs ∧ H1 P = some (TabO P) ∧ EltOk X scope x elt P σ H1 xs pb ∧ R xs pb H1)
    (hQ : ∀ xs pb H1 g s5, R xs pb H1 → RdyG X pins σ H1 xs.length pb g s5 → Q' (.ref g) s5) :
    wpAny (model X.prog X.w) X.A (eval (.GeneratorExp elt [⟨.Name x px, iter, [], 0⟩] scope gpos) X.env) Q' X.xe s := by
  have hdep : X.A.depth < recursionLimit := Nat.lt_of_le_of_lt (by omega) hr.dp
  refine wpAny_GeneratorExp_walksQD hr.hd S.co (closure_ok S.free) S.cell S.dot S.loc S.kind hdep (thn (hi.run pins s σ H _ I h) fun xv s1 hx1 => ?_) hs
  obtain ⟨v, H1, I1, r1, a, xs, pb, rfl, hsq, hP, hel, hR⟩ := hx1
  obtain rfl : xv = Value.ref a := r1
  obtain ⟨its, rv, htp, hsz⟩ := I1.tuple hsq
  have hlen : its.toArray.size = xs.length := by rw [List.size_toArray]; exact (Vals.length rv).symm
  refine wpAny_pyIter_tuple htp ?_
  obtain ⟨ps, hPs, htr⟩ := (show ObjOk X.prog X.w H1 s1.heap P (TabO P) from I1.hok P _ hP).1
  have hPlt : P < s1.heap.objs.size := Heap.lt_size hPs
  have halt : a < s1.heap.objs.size := htp.lt
  generalize hob : ({ cls := .type "tuple_iterator", data := .fields #[.ref a, .int 0 0] } : Obj) = ob
  have kpush : ∀ b u, s1.heap.get? b = some u → (s1.heap.push ob).get? b = some u := fun b u e => Heap.get?_push_of_some _ e
  have hit0 : (s1.heap.push ob).IsTupleIter s1.heap.objs.size a 0 := ⟨_, Heap.get?_push_size _ (by rw [← hob]; rfl), by rw [← hob], by rw [← hob]; rfl⟩
  have htp0 : (s1.heap.push ob).IsTuple a its.toArray := Heap.IsTuple.at htp fun o e => kpush a o e
  have hszp : (s1.heap.push ob).objs.size = s1.heap.objs.size + 1 := Heap.size_push ..
  have hPp : (s1.heap.push ob).get? P = some { cls := .none, data := .fields ps } := kpush P _ hPs
  have cd : PySem.W.CodeHd (s1.heap.push ob) c P := TB.code.keeps fun b u e => kpush b u (I1.bk b u e)
  have hlimp : (s1.heap.push ob).NoLimit := I1.nolimit.push ob
  have hcP : cStatics ≠ P := fun e => by
    obtain ⟨_, hns, _⟩ := I1.nolimit
    obtain ⟨o', es, ep, ho, hd, _⟩ := hns
    rw [e, hPs] at ho
    cases ho
    cases hd
  have hcl : cStatics < s1.heap.objs.size := let ⟨_, hns, _⟩ := I1.nolimit; hns.lt
  -- behind the code object: the table as it is then
  have fin : ∀ (code : Value) (h3 : Heap) (tk : Nat), Heap.ExtBut P (s1.heap.push ob) h3 → (s1.heap.push ob).objs.size ≤ h3.objs.size → tabIs P h3 →
      wpAny (model X.prog X.w) X.A (builtinsFor X.env.globals X.env.builtins) (fun bi s4 =>
        ∃ Ia fp wr n0 Pf St0 pz F, Value.ref s1.heap.objs.size = .ref Ia ∧ (∀ A' : Around, A'.handled = none → Walks X.prog X.w A' Ia fp wr n0 Pf St0) ∧ St0 0 s4.heap ∧ (∀ b ∈ fp, b < s4.heap.objs.size) ∧ s4.heap.NoLimit ∧ cStatics ∉ wr ∧
          (∀ href : Heap, (∀ b o, s4.heap.get? b = some o → href.get? b = some o) →
            QuietGenD X.prog X.w (genEnv scope (cloFrom X.env.cells scope.names []) s4.heap.objs.size code bi X.env) x [] elt (List.range s4.heap.objs.size) wr Pf pz F href (X.A.depth + 1) (X.A.units + 8)) ∧
          (∀ a h5 tk gs, gs.bare = true → s4.heap.objs.size < a → h5.objs.size = a + 1 → (∀ b o, s4.heap.get? b = some o → h5.get? b = some o) →
            WalksS X.prog X.w X.A.in4 a (a :: s4.heap.objs.size :: List.range s4.heap.objs.size) (s4.heap.objs.size :: wr) (GenOnlyQ s4.gens.size) (passing pz n0 0).length
              (fun j y => ∃ i, (passing pz n0 0)[j]? = some i ∧ F i y) (GenAt X.prog X.w X.A.in4 a s4.gens.size s4.heap.objs.size (List.range s4.heap.objs.size) wr pz n0 F) →
            GenAt X.prog X.w X.A.in4 a s4.gens.size s4.heap.objs.size (List.range s4.heap.objs.size) wr pz n0 F 0 { s4 with gens := s4.gens.push gs, toks := tk, heap := h5 } →
            Q' (.ref a) { s4 with gens := s4.gens.push gs, toks := tk, heap := h5 })) X.xe { s1 with heap := h3, toks := tk } := by
    intro code h3 tk hx hge ht3
    have keep3 : ∀ b u, b ≠ P → s1.heap.get? b = some u → h3.get? b = some u := fun b u hb e => hx b u hb (kpush b u e)
    obtain ⟨bm, ob2, e1, e2, e3, e4, e5, e6, e7, e8⟩ := TB.bm
    refine wpAny_builtinsFor (m := X.mg) (by rw [I1.ok.glob]; exact ((I1.mod.glob.keeps I1.bk).push ob).extBut hx TB.gP) e1 e2 (keep3 _ _ e4 (I1.bk _ _ e5)) e6 e7 e8 ?_
    have hs3 : s1.heap.objs.size + 1 ≤ h3.objs.size := by rw [← hszp]; exact hge
    have old3 : ∀ b u, s1.heap.get? b = some u → b < h3.objs.size := fun b u e => Nat.lt_of_lt_of_le (Nat.lt_of_lt_of_le (Heap.lt_size e) (Nat.le_succ _)) hs3
    have itP : s1.heap.objs.size ≠ P := (Nat.ne_of_lt hPlt).symm
    have aP : a ≠ P := fun z => by
      obtain ⟨o, ho, hc, _⟩ := htp
      rw [z, hPs] at ho
      cases ho
      cases hc
    refine ⟨s1.heap.objs.size, [s1.heap.objs.size, a], [s1.heap.objs.size], its.toArray.size, fun i v => its.toArray[i]? = some v, fun i h => h.IsTupleIter s1.heap.objs.size a i ∧ h.IsTuple a its.toArray, fun _ => true, fun i y => i < xs.length ∧ y = .bool (pb i), rfl, fun A' hA => Walks.tuple hA _ _ (Nat.ne_of_lt halt) _, ?_, ?_, hlimp.extBut hx hcP, ?_, ?_, ?_⟩
    · exact ⟨hit0.at fun o e => hx _ o itP e, htp0.at fun o e => hx _ o aP e⟩
    · intro b hb
      show b < h3.objs.size
      have hb2 : b = s1.heap.objs.size ∨ b = a := by simpa using hb
      rcases hb2 with z | z
      · rw [z]
        exact Nat.lt_of_lt_of_le (Nat.lt_succ_self _) hs3
      · rw [z]
        exact Nat.lt_of_lt_of_le (Nat.lt_of_lt_of_le halt (Nat.le_succ _)) hs3
    · intro z
      have z2 : cStatics = s1.heap.objs.size := by simpa using z
      exact Nat.ne_of_lt hcl z2
    · intro href hhref
      refine ⟨fun A' E' i v s2 m2 hA _ _ hPv hn hm hk => ?_, fun A' E' i v s2 m2 hA hD hU hPv _ hn hm hk => ?_⟩
      · simp only [List.forIn_nil]
        exact wpAny_pure ⟨rfl, GxR.keeps_refl _⟩
      · have hPv2 : its[i]? = some v := by simpa using hPv
        have hilt : i < xs.length := by
          have := (List.getElem?_eq_some_iff.mp hPv2).1
          rw [List.size_toArray] at hlen
          omega
        refine wpAny_mono (hel pins s1 I1 its rv (genEnv scope (cloFrom X.env.cells scope.names []) h3.objs.size code builtinsNs X.env) rfl rfl rfl A' E' i v s2 m2 hA hD hU hPv2 hn hm (fun b o hb e => ?_)) (fun y s3 q => ⟨⟨hilt, q.1⟩, q.2⟩) fun _ _ q => q
        have hblt := Heap.lt_size e
        refine hk b (List.mem_range.mpr ?_) (fun z => ?_) o (hhref b o (keep3 b o hb e))
        · exact old3 b o e
        · have z2 : b = s1.heap.objs.size := by simpa using z
          exact Nat.ne_of_lt hblt z2
    · intro g h5 tk5 gs hgb hag hsz5 hk5 W5 hat
      simp only [GxR.passing_true, List.length_range] at W5
      refine hQ xs pb H1 g _ hR ?_
      rw [← hlen]
      refine ⟨_, _, _, _, _, W5.in4_1, hat, ?_, fun s' hm => ?_⟩
      · intro j y sj Qj Ej hy hQj
        obtain ⟨i, hij, hlt, rfl⟩ := hy
        obtain ⟨hj, ej⟩ := List.getElem?_eq_some_iff.mp hij
        have ej2 : i = j := by simpa [GxR.passing_true] using ej.symm
        subst ej2
        exact wpAny_truthy_bool hQj
      · have nwr : ∀ b u, s1.heap.get? b = some u → b ∉ h3.objs.size :: [s1.heap.objs.size] := fun b u e hb => by
          have hl := Heap.lt_size e
          have hb2 : b = h3.objs.size ∨ b = s1.heap.objs.size := by simpa using hb
          rcases hb2 with z | z
          · exact Nat.ne_of_lt (old3 b u e) z
          · exact Nat.ne_of_lt hl z
        have J := inv_tabX (h' := s'.heap) (g' := s'.gens) (d' := s'.drawn) (t' := s'.toks) I1 hP (fun b u hb e => hm.heap b u (nwr b u e) (hk5 b u (keep3 b u hb e))) (tabIs_at ht3 fun o e => hm.heap P o (nwr P _ hPs) (hk5 P o e)) (AllBare.movedS (I1.bare.push hgb) hm)
        rw [GxR.sh_eta s1 s' hm.os] at J
        exact J
  refine ⟨hlimp, ?_⟩
  cases hf : codeAmong gpos ps.toList with
  | none =>
    refine wpAny_genexprCodeX hcode (cd.code hPp htr) (cd.tab hPp) hf fun c' h' tk hx hge hlt hco' _ htab' _ => ?_
    obtain ⟨o1, vs, f1, tf, fl, tg, inF, tx, tt, op, _, _, _, _, _, _, _, _, _, htr2, _⟩ := hco'
    exact fin _ h' tk hx (Nat.le_trans hge (Nat.le_of_lt hlt)) ⟨_, htab'.2, htr2⟩
  | some cv =>
    refine wpAny_genexprCode_hit hcode (cd.code hPp htr) hf ?_
    exact fin cv (s1.heap.push ob) s1.toks (Heap.ExtBut.refl _ _) (Nat.le_refl _) ⟨ps, hPp, htr⟩
end
/-- a def whose code object stands at c -/
structure Dc (K : PySem.W.Frag) (mg : Str → Option Value) (x : Str) (st : Stmt) (ps : List Str) (f : Addr) (fd : FuncData) (c : Addr) : Prop where
  F : Fun K x x st f fd
  g : mg x = some (.ref f)
  b : Binds K fd ps []
  cd : ∃ (oc : Value) (od : Option Addr) (kV doc pm : Value) (an : Option Addr) (ct : Value) (osl : Array (Option Value)), fd = PySem.W.fnOf x x (defArgs st) (defBody st) (defScope st) .none kV doc pm an (.ref c) ct ∧ K.lookup f = some ⟨oc, od, .func fd, osl⟩ ∧ PySem.W.codeIn K (.ref c) x = true
theorem Dc.ok {P : Program} {w : World} {K : PySem.W.Frag} {mg : Str → Option Value} {base : Heap} {x : Str} {st : Stmt} {f c : Addr} {fd : FuncData} {N ps : List Str} {k : Nat} {sp : Sp} (D : Dc K mg x st ps f fd c) (S : FnScope N ps (defScope st)) (len : ∀ vs H Q E, sp vs H Q E → vs.length = ps.length)
    (hbody : ∀ (A : Around) (outer : List Env) (s : Shared) (H : Hp) (vs : List V) (Q : VK) (E : XK), Room k (A.deeper (envOfC x (defScope st) s.heap.objs.size f (.ref c))) → sp vs H Q E →
      ∃ t, PSs (cxOf CX0 P w K mg base N x (defScope st) f (.ref c) A outer s H E).nox (defBody st) t ∧ t { nx := fun _ H' => Q .non H', rt := Q } (start N vs) H) : FnOk P w K mg base CX0 (k + 1) f fd ps sp := by
  obtain ⟨oc, od, kV, doc, pm, an, ct, osl, rfl, lk, hcd⟩ := D.cd
  refine fn_of lk hcd S len fun A outer s H vs Q E hr hsp => ?_
  obtain ⟨t, h, q⟩ := hbody A outer s H vs Q E hr hsp
  exact ⟨t, h.nox, q⟩
/-! ### defs that raise: what is raised where nothing is handled -/
structure RzD (K : PySem.W.Frag) (mg : Str → Option Value) (nm : Str) (D : Addr) : Prop where
  g : mg nm = some (.ref D)
  x : PySem.W.excIn K D [.type "ValueError", .type "Exception", .type "BaseException", .type "object"] "ValueError.__new__" = true
  kp : PySem.W.keepIn K (.ref D) = true
  b : PySem.W.subIn K (.ref D) (.type "BaseException") = some true
  t : PySem.W.typeIn K (.ref D) = some (.type "type")
theorem fun_okN {P : Program} {w : World} {K : PySem.W.Frag} {mg : Str → Option Value} {base : Heap} {x : Str} {st : Stmt} {f : Addr} {fd : FuncData} {N ps : List Str} {k : Nat} {sp : Sp} (F : Fun K x x st f fd) (S : FnScope N ps (defScope st)) (ln : ∀ vs H Q E, sp vs H Q E → vs.length = ps.length)
    (bd : ∀ (cdv : Value) (A : Around) (outer : List Env) (s : Shared) (H : Hp) (vs : List V) (Q : VK) (E : XK), Room k (A.deeper (envOfC x (defScope st) s.heap.objs.size f cdv)) → sp vs H Q E → ∃ t, PSs (cxOf (L2N.CX P w) P w K mg base N x (defScope st) f cdv A outer s H E) (defBody st) t ∧ t { nx := fun _ H' => Q .non H', rt := Q } (start N vs) H) :
    FnOk P w K mg base (L2N.CX P w) (k + 1) f fd ps sp := by
  obtain ⟨oc, od, kV, doc, pm, an, cdv, ct, osl, rfl, lk, hcd⟩ := F.ex
  exact fn_of lk hcd S ln fun A outer s H vs Q E hr h => bd cdv A outer s H vs Q E hr h
theorem PS.nox {X : Cx} {st : Stmt} {t : TS} (h : PS X.nox st t) : PS X st t := ⟨fun pins s σ H D I hw =>
  wpAny_mono (h.run pins s σ H D (I.wish _) hw) (fun _ _ q => q.unwish) fun _ _ z => False.elim z⟩
structure All (K : PySem.W.Frag) (mg : Str → Option Value) where
  B : Bt mg
  f_is_whole : Addr
  fd_is_whole : FuncData
  D_is_whole : Df K mg "is_whole" s_is_whole ["thing"] f_is_whole fd_is_whole
  f_is_lot_of : Addr
  fd_is_lot_of : FuncData
  D_is_lot_of : Df K mg "is_lot_of" s_is_lot_of ["thing", "many"] f_is_lot_of fd_is_lot_of
  f_odd_blocks : Addr
  fd_odd_blocks : FuncData
  D_odd_blocks : Df K mg "odd_blocks" s_odd_blocks ["many", "lot"] f_odd_blocks fd_odd_blocks
  f_is_curve : Addr
  fd_is_curve : FuncData
  D_is_curve : Df K mg "is_curve" s_is_curve ["thing"] f_is_curve fd_is_curve
  f_need_curve : Addr
  fd_need_curve : FuncData
  D_need_curve : Df K mg "need_curve" s_need_curve ["curve"] f_need_curve fd_need_curve
  f_is_lot : Addr
  fd_is_lot : FuncData
  D_is_lot : Df K mg "is_lot" s_is_lot ["thing", "curve"] f_is_lot fd_is_lot
  f_is_pane : Addr
  fd_is_pane : FuncData
  D_is_pane : Df K mg "is_pane" s_is_pane ["thing", "curve"] f_is_pane fd_is_pane
  f_need_pane : Addr
  fd_need_pane : FuncData
  D_need_pane : Df K mg "need_pane" s_need_pane ["curve", "pane"] f_need_pane fd_need_pane
  f_beyond : Addr
  fd_beyond : FuncData
  D_beyond : Df K mg "beyond" s_beyond ["curve", "pane", "corner"] f_beyond fd_beyond
  f__law_box : Addr
  fd__law_box : FuncData
  D__law_box : Df K mg "_law_box" s__law_box ["_law_script", "_law_k"] f__law_box fd__law_box
  f__law_more : Addr
  fd__law_more : FuncData
  D__law_more : Df K mg "_law_more" s__law_more ["_law_box_here"] f__law_more fd__law_more
  f__law_take : Addr
  fd__law_take : FuncData
  D__law_take : Df K mg "_law_take" s__law_take ["_law_box_here", "_law_wide"] f__law_take fd__law_take
  f__law_curve : Addr
  fd__law_curve : FuncData
  D__law_curve : Df K mg "_law_curve" s__law_curve ["_law_box_here"] f__law_curve fd__law_curve
  f__law_lots : Addr
  fd__law_lots : FuncData
  D__law_lots : Df K mg "_law_lots" s__law_lots ["_law_many", "_law_size"] f__law_lots fd__law_lots
  f__law_is_pane : Addr
  fd__law_is_pane : FuncData
  D__law_is_pane : Df K mg "_law_is_pane" s__law_is_pane ["_law_curve_here", "_law_lot"] f__law_is_pane fd__law_is_pane
  f__law_panes : Addr
  fd__law_panes : FuncData
  D__law_panes : Df K mg "_law_panes" s__law_panes ["_law_curve_here"] f__law_panes fd__law_panes
  f__law_has : Addr
  fd__law_has : FuncData
  D__law_has : Df K mg "_law_has" s__law_has ["_law_pane", "_law_lot"] f__law_has fd__law_has
  f__law_classes : Addr
  fd__law_classes : FuncData
  D__law_classes : Df K mg "_law_classes" s__law_classes ["_law_e"] f__law_classes fd__law_classes
  f__law_refused : Addr
  fd__law_refused : FuncData
  D__law_refused : Df K mg "_law_refused" s__law_refused ["_law_call"] f__law_refused fd__law_refused
  t_MOST_DEEP : Tok
  c_MOST_DEEP : mg "MOST_DEEP" = some (.int 6 t_MOST_DEEP)
  t_MOST_CORNERS : Tok
  c_MOST_CORNERS : mg "MOST_CORNERS" = some (.int 9 t_MOST_CORNERS)
  C_NoCorner : Addr
  R_NoCorner : RzD K mg "NoCorner" C_NoCorner
section
variable {P : Program} {w : World} {K : PySem.W.Frag} {mg : Str → Option Value} {base : Heap}
/-! ### the law's box -/
def BoxAt (H : Hp) (b : Addr) : Prop := ∃ n d : Int, H b = some (.lst [.int n, .int d])
/-- all that was tracked but b is as it was -/
def Bx (b : Addr) (H H' : Hp) : Prop := ∀ c o, c ≠ b → H c = some o → H' c = some o
theorem Bx.refl (b : Addr) (H : Hp) : Bx b H H := fun _ _ _ h => h
theorem Bx.trans {b : Addr} {H H1 H2 : Hp} (x : Bx b H H1) (y : Bx b H1 H2) : Bx b H H2 := fun c o n h => y c o n (x c o n h)
theorem bx_ex {b : Addr} {H H' : Hp} (e : Ex H H') : Bx b H H' := fun c o _ h => e c o h
theorem bx_set {b : Addr} {H H' : Hp} {o : HO} (e : Bx b H H') : Bx b H (upd H' b o) := fun c u n h => by
  rw [upd_ne n]
  exact e c u n h
theorem bx_tx {b : Addr} {H H' : Hp} {xs : List V} (e : Bx b H H') (h : H b = some (.lst xs)) : Tx H H' := fun a u r => by
  have n : a ≠ b := fun z => by
    subst z
    rcases r with r | ⟨o, r⟩ <;> (rw [h] at r; cases r)
  rcases r with r | ⟨o, r⟩
  · exact .inl (e a _ n r)
  · exact .inr ⟨o, e a _ n r⟩
theorem BoxAt.ex {H H' : Hp} {b : Addr} (e : Ex H H') (h : BoxAt H b) : BoxAt H' b := by
  obtain ⟨n, d, h⟩ := h
  exact ⟨n, d, e b _ h⟩
def spBox (K : PySem.W.Frag) : Sp := fun vs H Q _ => ∃ (a : Addr) (ns : List Int) (k : Int), vs = [.ref a, .int k] ∧ SqL K H a (ns.map V.int) ∧ 0 ≤ k ∧ k < 1000 ∧ ∀ p H2, H p = none → Ex H H2 → BoxAt H2 p → Q (.ref p) H2
theorem emod_in (x : Int) {m : Int} (h : 0 < m) : 0 ≤ x % m ∧ x % m < m := ⟨Int.emod_nonneg _ (by omega), Int.emod_lt_of_pos _ h⟩
theorem cm_r {i j : Int} (h1 : -(2 ^ 64) < j) (h2 : j < 2 ^ 64) : CMul i j := .inr ⟨h1, h2⟩
theorem cm_l {i j : Int} (h1 : -(2 ^ 64) < i) (h2 : i < 2 ^ 64) : CMul i j := .inl ⟨h1, h2⟩
theorem ev_abs {te : TE} {σ : L2.St} {H : Hp} {i : Int} (h : Ev te σ H (.int i)) : Ev (tCB (fun xs H Q => ∃ i, xs = [.int i] ∧ Q (.int (if i < 0 then -i else i)) H) (tCons te tNil)) σ H (.int (if i < 0 then -i else i)) := fun H1 e _ q =>
  h H1 e _ fun H2 e2 => ⟨i, rfl, q H2 e2⟩
theorem okk_box {f : Addr} {fd : FuncData} {k : Nat} (D : Df K mg "_law_box" s__law_box ["_law_script", "_law_k"] f fd) (B : Bt mg) : FnOk P w K mg base CX0 (k + 1) f fd ["_law_script", "_law_k"] (spBox K) := by
  refine D.F.ok sc__law_box (fun vs H Q E h => ?_) (fun cdv A outer s H vs Q E hr h => ?_)
  · obtain ⟨a, ns, k, rfl, _⟩ := h
    rfl
  · obtain ⟨a, ns, j, rfl, hS, k0, k1, q⟩ := h
    refine ⟨_, (pss_cons (ps_set (i := 2) sc__law_box.nd rfl (.inl rfl) (pe_op op_add (pe_op op_mul pe_int (pv 1)) pe_int))  (pss_cut (ps_if (pt_cmpR op_lt (pv 1) (pe_callB (show CallR _ _ (rLenS K) from call_len_seq) (by rfl) B.len_ (by decide +kernel) (pa_cons (pv 0) pa_nil)) (nomark _))   (pss_one (ps_set (i := 2) sc__law_box.nd rfl (.inl rfl) (pe_ix (show IxR _ (rIxL K) from ix_list) (pv 0) (pv 1) (fun _ _ => rfl))))   pss_nil)  (pss_cons (ps_if (pt_cmpR op_eq (pe_op op_mod (pv 2) pe_int) pe_int (nomark _))   (pss_one (ps_ret (pe_lst (pa_cons (pe_op op_fdiv (pv 2) pe_int) (pa_cons (pe_op op_mod (pe_callB call_abs (by rfl) B.abs_ (by decide +kernel) (pa_cons (pv 2) pa_nil)) pe_int) pa_nil)))))   pss_nil)  (pss_cons (ps_set (i := 3) sc__law_box.nd rfl (.inl rfl) pe_int)  (pss_cons (ps_for PassesOwn.never rfl (pi_range1 (by rfl) B.range_ (pa_cons pe_int pa_nil)) (pg_name (i := 4) sc__law_box.nd rfl (.inl rfl))   (pss_cons (ps_set (i := 5) sc__law_box.nd rfl (.inl rfl) (pe_op op_mod (pe_op op_add (pe_op op_add (pe_op op_mul (pe_op op_mod (pv 2) pe_int) pe_int) (pe_op op_mul pe_int (pv 4))) pe_int) pe_int))  (pss_cons (ps_set (i := 5) sc__law_box.nd rfl (.inl rfl) (pe_op op_mod (pe_op op_mul (pv 5) (pv 5)) pe_int))  (pss_one (ps_set (i := 3) sc__law_box.nd rfl (.inl rfl) (pe_op op_add (pe_op op_mul (pv 3) pe_int) (pe_op op_mod (pe_op op_mul (pv 5) (pe_op op_add (pv 5) pe_int)) pe_int)))))))  (pss_one (ps_ret (pe_lst (pa_cons (pv 3) (pa_cons (pe_op op_mod (pe_callB call_abs (by rfl) B.abs_ (by decide +kernel) (pa_cons (pv 2) pa_nil)) pe_int) pa_nil)))))))))), ?_⟩
    refine q_asg (v := .int (7919 * j + 13)) (ev_op (ev_op ev_c (ev_var rfl) (rv_I (cm_l (by decide) (by decide)))) ev_c rv_I0) fun H1 e1 => ?_
    refine q_cut (M := fun σ' H' => ∃ h : Int, σ' = [some (.ref a), some (.int j), some (.int h), none, none, none] ∧ Ex H H') ?_ ?_
    · refine s_when (et_test (ev_op (ev_var rfl) (ev_len (ev_var rfl) (ex_l e1 hS)) rv_I0)) (fun hb H2 e2 => ?_) (fun hb H2 e2 => ⟨_, rfl, e1.trans e2⟩)
      have hlt : j < ((ns.map V.int).length : Int) := of_decide_eq_true hb
      obtain ⟨m, rfl⟩ : ∃ m : Nat, j = (m : Int) := ⟨j.toNat, by omega⟩
      have hm : m < ns.length := by rw [List.length_map] at hlt; omega
      refine s_asg (v := .int ns[m]) (ev_op (ev_var rfl) (ev_var rfl) (rv_ixL (ex_l (e1.trans e2) hS) (atI_nat ?_))) fun H3 e3 => ⟨_, rfl, (e1.trans e2).trans e3⟩
      rw [List.getElem?_map, List.getElem?_eq_getElem hm]
      rfl
    · rintro σ' H2 ⟨x, rfl, e2⟩
      refine q_when (et_test (ev_op (ev_op (ev_var rfl) ev_c (rv_I (by show (0 : Int) < 2; decide))) ev_c (rv_eq rfl))) (fun _ H3 e3 => ?_) (fun _ H3 e3 => ?_)
      · refine s_retL (el_lst (ea_cons (ev_op (ev_var rfl) ev_c (rv_I ⟨by decide, by decide⟩)) (ea_cons (ev_op (ev_abs (ev_var rfl)) ev_c (rv_I (by show (0 : Int) < 2147483647; decide))) ea_nil)) (by show 2 ≤ 100000; decide)) fun p H4 np e4 hp => ?_
        exact q p H4 (fresh_back (e2.trans e3) np) ((e2.trans e3).trans e4) ⟨_, _, hp⟩
      · refine q_asg (v := .int 0) ev_c fun H4 e4 => ?_
        refine q_forR1 (n := 16) (ea_cons ev_c ea_nil) (by decide) (fun _ σ' H' => ∃ (n : Int) (y4 y5 : Option V), σ' = [some (.ref a), some (.int j), some (.int x), some (.int n), y4, y5] ∧ Ex H H')
          (fun H5 e5 => ⟨_, _, _, rfl, ((e2.trans e3).trans e4).trans e5⟩) ?_ ?_
        · rintro i σ' H' _ ⟨n, y4, y5, rfl, e5⟩
          have m1 := emod_in (x % 2147483647 * 48271 + 7919 * (i : Int) + 1) (m := 2147483647) (by decide)
          refine q_asg (v := .int ((x % 2147483647 * 48271 + 7919 * (i : Int) + 1) % 2147483647)) (ev_op (ev_op (ev_op (ev_op (ev_op (ev_var rfl) ev_c (rv_I (by show (0 : Int) < 2147483647; decide))) ev_c (rv_I (cm_r (by decide) (by decide)))) (ev_op ev_c (ev_var rfl) (rv_I (cm_l (by decide) (by decide)))) rv_I0) ev_c rv_I0) ev_c (rv_I (by show (0 : Int) < 2147483647; decide))) fun H6 e6 => ?_
          generalize (x % 2147483647 * 48271 + 7919 * (i : Int) + 1) % 2147483647 = y at m1 ⊢
          have m2 := emod_in (y * y) (m := 2147483629) (by decide)
          refine q_asg (v := .int (y * y % 2147483629)) (ev_op (ev_op (ev_var rfl) (ev_var rfl) (rv_I (cm_l (by omega) (by omega)))) ev_c (rv_I (by show (0 : Int) < 2147483629; decide))) fun H7 e7 => ?_
          generalize y * y % 2147483629 = z at m2 ⊢
          refine s_asg (v := .int (n * 2147483647 + z * (z + 13) % 2147483647)) (ev_op (ev_op (ev_var rfl) ev_c (rv_I (cm_r (by decide) (by decide)))) (ev_op (ev_op (ev_var rfl) (ev_op (ev_var rfl) ev_c rv_I0) (rv_I (cm_l (by omega) (by omega)))) ev_c (rv_I (by show (0 : Int) < 2147483647; decide))) rv_I0) fun H8 e8 => ?_
          exact ⟨_, _, _, rfl, ((e5.trans e6).trans e7).trans e8⟩
        · rintro σ' H' ⟨n, y4, y5, rfl, e5⟩
          refine s_retL (el_lst (ea_cons (ev_var rfl) (ea_cons (ev_op (ev_abs (ev_var rfl)) ev_c (rv_I (by show (0 : Int) < 2147483647; decide))) ea_nil)) (by show 2 ≤ 100000; decide)) fun p H6 np e6 hp => ?_
          exact q p H6 (fresh_back e5 np) (e5.trans e6) ⟨_, _, hp⟩
def spMore : Sp := fun vs H Q _ => ∃ (b : Addr) (n d : Int), vs = [.ref b] ∧ H b = some (.lst [.int n, .int d]) ∧ ∀ m d' H2, H2 b = some (.lst [.int n, .int d']) → Bx b H H2 → Q (.int m) H2
theorem okk_more {f : Addr} {fd : FuncData} {k : Nat} (D : Df K mg "_law_more" s__law_more ["_law_box_here"] f fd) (B : Bt mg) : FnOk P w K mg base CX0 (k + 1) f fd ["_law_box_here"] spMore := by
  refine D.F.ok sc__law_more (fun vs H Q E h => ?_) (fun cdv A outer s H vs Q E hr h => ?_)
  · obtain ⟨b, n, d, rfl, _⟩ := h
    rfl
  · obtain ⟨b, n, d, rfl, hb, q⟩ := h
    refine ⟨_, (pss_cons (ps_set (i := 1) sc__law_more.nd rfl (.inl rfl) pe_int)  (pss_cons (ps_for PassesOwn.never rfl (pi_range1 (by rfl) B.range_ (pa_cons pe_int pa_nil)) (pg_name (i := 2) sc__law_more.nd rfl (.inl rfl))   (pss_cons (ps_asg (pe_op op_mod (pe_op op_add (pe_op op_mul (pe_ix (show IxR _ (rIxL K) from ix_list) (pv 0) pe_int (fun _ _ => rfl)) pe_int) pe_int) pe_int) (pg_sub (pv 0) pe_int set_list))  (pss_one (ps_set (i := 1) sc__law_more.nd rfl (.inl rfl) (pe_op op_add (pe_op op_mul (pv 1) pe_int) (pe_op op_mod (pe_op op_fdiv (pe_ix (show IxR _ (rIxL K) from ix_list) (pv 0) pe_int (fun _ _ => rfl)) pe_int) pe_int))))))  (pss_one (ps_ret (pv 1))))), ?_⟩
    refine q_asg (v := .int 0) ev_c fun H1 e1 => ?_
    refine q_forR1 (n := 12) (ea_cons ev_c ea_nil) (by decide) (fun _ σ' H' => ∃ (m d' : Int) (y : Option V), σ' = [some (.ref b), some (.int m), y] ∧ H' b = some (.lst [.int n, .int d']) ∧ Bx b H H')
      (fun H2 e2 => ⟨_, _, _, rfl, e2 b _ (e1 b _ hb), bx_ex (e1.trans e2)⟩) ?_ ?_
    · rintro i σ' H' _ ⟨m, d', y, rfl, hb', x'⟩
      refine q_setL (j := 1) hb' (v := .int ((d' * 48271 + 30269) % 2147483647)) (ev_op (ev_op (ev_op (ev_op (ev_var rfl) ev_c (rv_ixL (v := .int d') (sq_of hb') rfl)) ev_c (rv_I (cm_r (by decide) (by decide)))) ev_c rv_I0) ev_c (rv_I (by show (0 : Int) < 2147483647; decide))) (ev_var rfl) ev_c (by show 1 < 2; decide) fun H2 e2 => ?_
      generalize (d' * 48271 + 30269) % 2147483647 = z
      have hb2 : upd H2 b (.lst ([V.int n, V.int d'].set 1 (.int z))) b = some (.lst [.int n, .int z]) := upd_same
      refine s_asg (v := .int (m * 65521 + z / 7 % 65521)) (ev_op (ev_op (ev_var rfl) ev_c (rv_I (cm_r (by decide) (by decide)))) (ev_op (ev_op (ev_op (ev_var rfl) ev_c (rv_ixL (v := .int z) (sq_of hb2) rfl)) ev_c (rv_I ⟨by decide, by decide⟩)) ev_c (rv_I (by show (0 : Int) < 65521; decide))) rv_I0) fun H3 e3 => ?_
      exact ⟨_, _, _, rfl, e3 b _ hb2, (bx_set (x'.trans (bx_ex e2))).trans (bx_ex e3)⟩
    · rintro σ' H' ⟨m, d', y, rfl, hb', x'⟩
      exact s_ret (ev_var rfl) fun H2 e2 => q m d' H2 (e2 b _ hb') (x'.trans (bx_ex e2))
def spTake : Sp := fun vs H Q _ => ∃ (b : Addr) (wd : Int), vs = [.ref b, .int wd] ∧ BoxAt H b ∧ 0 < wd ∧ wd < 1073741824 ∧ ∀ r H2, 0 ≤ r → r < wd → BoxAt H2 b → Bx b H H2 → Q (.int r) H2
theorem okk_take {f fm : Addr} {fd fdm : FuncData} {k : Nat} (D : Df K mg "_law_take" s__law_take ["_law_box_here", "_law_wide"] f fd) (D__law_more : Df K mg "_law_more" s__law_more ["_law_box_here"] fm fdm) (B : Bt mg) : FnOk P w K mg base CX0 (k + 2) f fd ["_law_box_here", "_law_wide"] spTake := by
  have G__law_more : FnOk P w K mg base CX0 (k + 1) fm fdm ["_law_box_here"] spMore := okk_more D__law_more B
  refine D.F.ok sc__law_take (fun vs H Q E h => ?_) (fun cdv A outer s H vs Q E hr h => ?_)
  · obtain ⟨b, n, rfl, _⟩ := h
    rfl
  · obtain ⟨b, wd, rfl, ⟨n, d, hb⟩, w0, w1, q⟩ := h
    refine ⟨_, (pss_cut (ps_if (pt_chain op_le op_lt pe_int (pe_ix (show IxR _ (rIxL K) from ix_list) (pv 0) pe_int (fun _ _ => rfl)) (pv 1))   (pss_one (ps_asg (pe_op op_add (pe_ix (show IxR _ (rIxL K) from ix_list) (pv 0) pe_int (fun _ _ => rfl)) (pe_op op_mul (pv 1) (pe_call G__law_more (hr.mono (by omega)) (by rfl) D__law_more.g D__law_more.F.kp D__law_more.b .nil pass0 (pa_cons (pv 0) pa_nil)))) (pg_sub (pv 0) pe_int set_list)))   pss_nil)  (pss_cons (ps_asg (pe_callB call_divmod (by rfl) B.divmod_ (by decide +kernel) (pa_cons (pe_ix (show IxR _ (rIxL K) from ix_list) (pv 0) pe_int (fun _ _ => rfl)) (pa_cons (pv 1) pa_nil))) (pg_tup (by rfl) (pgs_cons (pg_name (i := 2) sc__law_take.nd rfl (.inl rfl)) (pgs_cons (pg_name (i := 3) sc__law_take.nd rfl (.inl rfl)) pgs_nil))))  (pss_cons (ps_asg (pv 2) (pg_sub (pv 0) pe_int set_list))  (pss_one (ps_ret (pv 3)))))), ?_⟩
    refine q_cut (M := fun σ' H' => σ' = [some (.ref b), some (.int wd), none, none] ∧ (∃ n d : Int, H' b = some (.lst [.int n, .int d])) ∧ Bx b H H') ?_ ?_
    · refine s_when (et_test (ev_chain ev_c (ev_op (ev_var rfl) ev_c (rv_ixL (v := .int n) (sq_of hb) rfl)) (ev_var rfl) rv_I0 rv_I0)) (fun _ H1 e1 => ?_) (fun _ H1 e1 => ⟨rfl, ⟨_, _, e1 b _ hb⟩, bx_ex e1⟩)
      · have hb1 := e1 b _ hb
        refine ⟨_, rfl, b, _, 0, .int n, rfl, rfl, sq_of hb1, rfl, _, rfl, _, rfl, b, n, d, rfl, hb1, fun m d' H2 hb2 x2 => ?_⟩
        refine ⟨wd, m, rfl, rfl, cm_l (by omega) (by omega), n, wd * m, rfl, rfl, _, rfl, b, _, 0, 0, rfl, rfl, hb2, rfl, ?_⟩
        exact ⟨rfl, ⟨_, _, upd_same⟩, bx_set ((bx_ex e1).trans x2)⟩
    · rintro σ' H' ⟨rfl, ⟨n, d, hb'⟩, x'⟩
      refine ⟨_, rfl, b, _, 0, .int n, rfl, rfl, sq_of hb', rfl, _, rfl, n, wd, rfl, ⟨w0, w1⟩, fun p hp => ?_⟩
      have nb : b ≠ p := ne_of_none hb' hp
      refine ⟨p, _, rfl, st_of upd_same, rfl, _, _, rfl, _, _, rfl, rfl, ?_⟩
      refine ⟨_, rfl, _, rfl, b, _, 0, 0, rfl, rfl, (by rw [upd_ne nb]; exact hb'), rfl, ?_⟩
      refine ⟨_, rfl, ?_⟩
      have m1 := emod_in n w0
      exact q _ _ m1.1 m1.2 ⟨_, _, upd_same⟩ (bx_set (x'.trans (bx_ex (Ex.new hp))))
end
/-! ### what changes the box alone -/
structure Bk (b : Addr) (H H' : Hp) : Prop where
  bx : Bx b H H'
  tx : Tx H H'
theorem Bk.trans {b : Addr} {H H1 H2 : Hp} (x : Bk b H H1) (y : Bk b H1 H2) : Bk b H H2 := ⟨x.bx.trans y.bx, x.tx.trans y.tx⟩
theorem bk_ex {b : Addr} {H H' : Hp} (e : Ex H H') : Bk b H H' := ⟨bx_ex e, tx_of e⟩
theorem Bk.refl (b : Addr) (H : Hp) : Bk b H H := bk_ex (Ex.refl H)
theorem bk_of {b : Addr} {H H' : Hp} (h : BoxAt H b) (x : Bx b H H') : Bk b H H' := by
  obtain ⟨_, _, h⟩ := h
  exact ⟨x, bx_tx x h⟩
theorem ex_bx {b : Addr} {Hs H H' : Hp} (e : Ex Hs H) (x : Bk b H H') (n : Hs b = none) : Ex Hs H' := fun c o h => x.bx c o (ne_of_none h n) (e c o h)
theorem box_ne {H : Hp} {p b : Addr} (hb : BoxAt H b) (n : H p = none) : p ≠ b := by
  obtain ⟨_, _, hb⟩ := hb
  exact ne_free hb n
def EvK (K : PySem.W.Frag) (b : Addr) (te : TE) (σ : L2.St) (H : Hp) (p : PyData → Prop) : Prop := ∀ Q : VK, (∀ v d H2, p d → Dt K H2 v d → BoxAt H2 b → Bk b H H2 → Q v H2) → te σ H Q
section
variable {K : PySem.W.Frag} {b : Addr} {σ : L2.St} {H H' : Hp} {ta tb te tl : TE} {p p' : PyData → Prop} {d : PyData} {ds : List PyData} {D : Ends} {tz tu : TS} {i : Nat}
theorem ek_of (h : EvD K te σ H d) (hb : BoxAt H b) : EvK K b te σ H (fun e => e = d) := fun Q q => h H (Ex.refl H) Q fun v H2 e2 hv => q v d H2 rfl hv (hb.ex e2) (bk_ex e2)
theorem ek_mono (h : EvK K b te σ H p) (hp : ∀ d, p d → p' d) : EvK K b te σ H p' := fun Q q => h Q fun v d H2 h1 => q v d H2 (hp d h1)
theorem ek_take {j : Nat} {wd : Int} {E : XK} (hj : σ[j]? = some (some (.ref b))) (hb : BoxAt H b) (hw : Ev ta σ H (.int wd)) (w0 : 0 < wd) (w1 : wd < 1073741824) : EvK K b (tCall spTake [] E (tCons (tVar j) (tCons ta tNil))) σ H (fun d => ∃ r, d = .int r ∧ 0 ≤ r ∧ r < wd) := fun Q q =>
  ⟨_, hj, hw H (Ex.refl H) _ fun H2 e2 => ⟨b, wd, rfl, hb.ex e2, w0, w1, fun r H3 r0 r1 hb3 x3 => q _ (.int r) H3 ⟨r, rfl, r0, r1⟩ (.int r) hb3 ((bk_ex e2).trans (bk_of (hb.ex e2) x3))⟩⟩
/-- [..][take] -/
theorem ek_menu (hl : EvF K tl σ H ds) (hb : BoxAt H b) (hi : ∀ H', Ex H H' → BoxAt H' b → EvK K b ta σ H' (fun d => ∃ r : Int, d = .int r ∧ 0 ≤ r ∧ r < (ds.length : Int))) : EvK K b (tOp (rIxL K) tl ta) σ H (fun d => d ∈ ds) := fun Q q =>
  hl H (Ex.refl H) _ fun p xs H1 np e1 hp hx => hi H1 e1 (hb.ex e1) _ fun v d H2 hr hv hb2 x2 => by
    obtain ⟨r, rfl, r0, r1⟩ := hr
    cases hv
    obtain ⟨m, rfl⟩ : ∃ m : Nat, r = (m : Int) := ⟨r.toNat, by omega⟩
    have hm : m < ds.length := by omega
    obtain ⟨w, hw, hd⟩ := dta_get' (dta_tx x2.tx hx) (List.getElem?_eq_getElem hm)
    exact ⟨p, xs, (m : Int), w, rfl, rfl, sq_of (x2.bx p _ (box_ne hb np) hp), atI_nat hw, q w _ H2 (List.getElem_mem hm) hd hb2 ((bk_ex e1).trans x2)⟩
/-- i op take -/
theorem ek_opI {f : Int → Int → Int} {x : Int} {pr : Int → Prop} (ha : Ev ta σ H (.int x)) (hb : ∀ H', Ex H H' → EvK K b tb σ H' (fun d => ∃ r, d = .int r ∧ pr r)) : EvK K b (tOp (rI0 fun i j => .int (f i j)) ta tb) σ H (fun d => ∃ r, d = .int (f x r) ∧ pr r) := fun Q q =>
  ha H (Ex.refl H) _ fun H2 e2 => hb H2 e2 _ fun v d H3 hr hv hb3 x3 => by
    obtain ⟨r, rfl, hr⟩ := hr
    cases hv
    exact ⟨x, r, rfl, rfl, q _ _ H3 ⟨r, rfl, hr⟩ (.int _) hb3 ((bk_ex e2).trans x3)⟩
theorem q_asgK (h : EvK K b te σ H p) (k : ∀ v d H2, p d → Dt K H2 v d → BoxAt H2 b → Bk b H H2 → tz D (σ.set i (some v)) H2) : tSeq (tAsg te (gName i)) tz D σ H := h _ k
theorem s_asgK (h : EvK K b te σ H p) (k : ∀ v d H2, p d → Dt K H2 v d → BoxAt H2 b → Bk b H H2 → D.nx (σ.set i (some v)) H2) : tAsg te (gName i) D σ H := h _ k
/-- a box made -/
theorem q_box {a : Addr} {ns : List Int} {x : Int} {E : XK} (ha : Ev ta σ H (.ref a)) (hS : SqL K H a (ns.map V.int)) (hk : Ev tb σ H (.int x)) (x0 : 0 ≤ x) (x1 : x < 1000) (h : ∀ p H2, H p = none → Ex H H2 → BoxAt H2 p → tz D (σ.set i (some (.ref p))) H2) : tSeq (tAsg (tCall (spBox K) [] E (tCons ta (tCons tb tNil))) (gName i)) tz D σ H :=
  ha H (Ex.refl H) _ fun H1 e1 => hk H1 e1 _ fun H2 e2 => ⟨a, ns, x, rfl, ex_l (e1.trans e2) hS, x0, x1, fun p H3 np e3 hb => h p H3 (fresh_back (e1.trans e2) np) ((e1.trans e2).trans e3) hb⟩
/-! loops over a list made on the way -/
/-- nothing changes but new things -/
theorem s_forF {g : TG} (h : EvF K tl σ H ds) (Pv : Nat → L2.St → Hp → Prop) (h0 : ∀ H1, Ex H H1 → Pv 0 σ H1)
    (hs : ∀ H1 i x d σ' H', Ex H H1 → Ex H1 H' → ds[i]? = some d → Dt K H' x d → Pv i σ' H' → g x σ' H' fun σ2 H2 => tu { D with nx := fun σ3 H3 => Ex H1 H3 ∧ Pv (i + 1) σ3 H3, ct := fun σ3 H3 => Ex H1 H3 ∧ Pv (i + 1) σ3 H3, bk := D.nx } σ2 H2)
    (hd : ∀ σ' H', Ex H H' → Pv ds.length σ' H' → D.nx σ' H') : tFor (iList K tl) g tu D σ H :=
  h H (Ex.refl H) _ fun p xs H1 np e1 hp hx => ⟨p, rfl, ⟨xs, sq_of hp⟩, for_list (xs := xs) (fun i σ' H' => Ex H1 H' ∧ Pv i σ' H') ⟨Ex.refl _, h0 H1 e1⟩ (fun i σ' H' _ hw => sq_of (hw.1 p _ hp)) (fun i x σ' H' hi hw => by
      obtain ⟨d, h1, h2⟩ := dta_get (dta_ex hw.1 hx) hi
      exact hs H1 i x d σ' H' e1 hw.1 h1 h2 hw.2) (fun σ' H' hw => hd σ' H' (e1.trans hw.1) (by rw [← dta_len hx]; exact hw.2))⟩
theorem q_forF {g : TG} (h : EvF K tl σ H ds) (Pv : Nat → L2.St → Hp → Prop) (h0 : ∀ H1, Ex H H1 → Pv 0 σ H1)
    (hs : ∀ H1 i x d σ' H', Ex H H1 → Ex H1 H' → ds[i]? = some d → Dt K H' x d → Pv i σ' H' → g x σ' H' fun σ2 H2 => tu { D with nx := fun σ3 H3 => Ex H1 H3 ∧ Pv (i + 1) σ3 H3, ct := fun σ3 H3 => Ex H1 H3 ∧ Pv (i + 1) σ3 H3, bk := tz D } σ2 H2)
    (hd : ∀ σ' H', Ex H H' → Pv ds.length σ' H' → tz D σ' H') : tSeq (tFor (iList K tl) g tu) tz D σ H := s_forF (D := { D with nx := tz D }) h Pv h0 hs hd
/-- the box changes, too -/
theorem s_forFB {g : TG} (h : EvF K tl σ H ds) (hb : BoxAt H b) (Pv : Nat → L2.St → Hp → Prop) (h0 : ∀ H1, Ex H H1 → Pv 0 σ H1)
    (hs : ∀ H1 i x d σ' H', Ex H H1 → Bk b H1 H' → BoxAt H' b → ds[i]? = some d → Dt K H' x d → Pv i σ' H' → g x σ' H' fun σ2 H2 => tu { D with nx := fun σ3 H3 => Bk b H1 H3 ∧ BoxAt H3 b ∧ Pv (i + 1) σ3 H3, ct := fun σ3 H3 => Bk b H1 H3 ∧ BoxAt H3 b ∧ Pv (i + 1) σ3 H3, bk := D.nx } σ2 H2)
    (hd : ∀ σ' H', Bk b H H' → BoxAt H' b → Pv ds.length σ' H' → D.nx σ' H') : tFor (iList K tl) g tu D σ H :=
  h H (Ex.refl H) _ fun p xs H1 np e1 hp hx => ⟨p, rfl, ⟨xs, sq_of hp⟩, for_list (xs := xs) (fun i σ' H' => Bk b H1 H' ∧ BoxAt H' b ∧ Pv i σ' H') ⟨Bk.refl _ _, hb.ex e1, h0 H1 e1⟩ (fun i σ' H' _ hw => sq_of (hw.1.bx p _ (box_ne hb np) hp)) (fun i x σ' H' hi hw => by
      obtain ⟨d, h1, h2⟩ := dta_get (dta_tx hw.1.tx hx) hi
      exact hs H1 i x d σ' H' e1 hw.1 hw.2.1 h1 h2 hw.2.2) (fun σ' H' hw => hd σ' H' ((bk_ex e1).trans hw.1) hw.2.1 (by rw [← dta_len hx]; exact hw.2.2))⟩
theorem q_forFB {g : TG} (h : EvF K tl σ H ds) (hb : BoxAt H b) (Pv : Nat → L2.St → Hp → Prop) (h0 : ∀ H1, Ex H H1 → Pv 0 σ H1)
    (hs : ∀ H1 i x d σ' H', Ex H H1 → Bk b H1 H' → BoxAt H' b → ds[i]? = some d → Dt K H' x d → Pv i σ' H' → g x σ' H' fun σ2 H2 => tu { D with nx := fun σ3 H3 => Bk b H1 H3 ∧ BoxAt H3 b ∧ Pv (i + 1) σ3 H3, ct := fun σ3 H3 => Bk b H1 H3 ∧ BoxAt H3 b ∧ Pv (i + 1) σ3 H3, bk := tz D } σ2 H2)
    (hd : ∀ σ' H', Bk b H H' → BoxAt H' b → Pv ds.length σ' H' → tz D σ' H') : tSeq (tFor (iList K tl) g tu) tz D σ H := s_forFB (D := { D with nx := tz D }) h hb Pv h0 hs hd
/-- how many cells are read -/
theorem ev_cells {a : Addr} {ns : List Int} {c : Int} (h : Ev ta σ H (.ref a)) (hS : SqL K H a (ns.map V.int)) (c0 : 1 ≤ c) : ∃ n : Int, 1 ≤ n ∧ n ≤ c ∧ Ev (tCB rMax2 (tCons (tC (.int 1)) (tCons (tCB (fun xs H Q => ∃ i j, xs = [.int i, .int j] ∧ Q (.int (if j < i then j else i)) H) (tCons (tCB (rLenS K) (tCons ta tNil)) (tCons (tC (.int c)) tNil))) tNil))) σ H (.int n) := by
  refine ⟨_, ?_, ?_, ev_max2 ev_c (ev_min2 (ev_len h hS) ev_c)⟩
  · split <;> split <;> omega
  · split <;> split <;> omega
end
def spLaw (K : PySem.W.Frag) : Sp := fun vs H Q _ => ∃ (a : Addr) (ns : List Int), vs = [.ref a] ∧ SqL K H a (ns.map V.int) ∧ ns.length ≤ 63 ∧ ∀ H', Q (.bl true) H'
def curveD (m d : Int) : PyData := .tuple [.int m, .int d]
def unint : PyData → Int
  | .int i => i
  | _ => 0
def unlot : PyData → List Int
  | .tuple ds => ds.map unint
  | _ => []
theorem unlot_lot (l : List Int) : unlot (lotD l) = l := by
  show (l.map PyData.int).map unint = l
  rw [List.map_map]
  exact List.map_id' l
theorem dec_int (a b : Int) : decide (V.int a = V.int b) = decide (a = b) := by
  by_cases h : a = b
  · subst h
    simp
  · rw [decide_eq_false h, decide_eq_false (fun z => h (V.int.inj z))]
theorem cut_take (xs : List V) (i : Nat) (hi : i ≤ xs.length) : cutV xs none (some (i : Int)) = xs.take i := by
  unfold cutV
  rw [HT.sIx_none, show HT.sIx xs.length xs.length (some (i : Int)) = min i xs.length from HT.sIx_nat xs.length xs.length i, Nat.min_eq_left hi]
  rfl
theorem filt_len {l : List Int} {f : PyData → Bool} {g : Int → Bool} {h : PyData → PyData} (e : ∀ c, f (.int c) = g c) : (((l.map PyData.int).filter f).map h).length = (l.filter g).length := by
  rw [List.length_map, List.filter_map, List.length_map]
  have : (f ∘ PyData.int) = g := funext e
  rw [this]
theorem mem_ints {l : List Int} {d : PyData} (h : d ∈ l.map PyData.int) : ∃ c, c ∈ l ∧ d = .int c := by
  obtain ⟨c, h1, h2⟩ := List.mem_map.mp h
  exact ⟨c, h1, h2.symm⟩
theorem mem_lots {ls : List (List Int)} {d : PyData} (h : d ∈ ls.map lotD) : ∃ l, l ∈ ls ∧ d = lotD l := by
  obtain ⟨c, h1, h2⟩ := List.mem_map.mp h
  exact ⟨c, h1, h2.symm⟩
theorem filt_lots {ls : List (List Int)} {f : PyData → Bool} {g : List Int → Bool} (e : ∀ l, f (lotD l) = g l) : ((ls.map lotD).filter f).map (fun d => d) = (ls.filter g).map lotD := by
  rw [List.map_id', List.filter_map]
  have : (f ∘ lotD) = g := funext e
  rw [this]
theorem filt_ints {ls : List Int} {f : PyData → Bool} {g : Int → Bool} (e : ∀ l, f (.int l) = g l) : ((ls.map PyData.int).filter f).map (fun d => d) = (ls.filter g).map PyData.int := by
  rw [List.map_id', List.filter_map]
  have : (f ∘ PyData.int) = g := funext e
  rw [this]
/-! ### all lots of so many corners, and panes, as the law tells them -/
def lotsL (m : Int) : Nat → List (List Int)
  | 0 => [[]]
  | s + 1 => (lotsL m s).flatMap fun l => (upTo (l.getLast?.getD (-1) + 1) m).map fun c => l ++ [c]
def lotsGood : Bool := (List.range 10).all fun m => (List.range 10).all fun s => decide ((lotsL (m : Int) s).length ≤ 200) && (lotsL (m : Int) s).all fun l => l.all fun x => decide (0 ≤ x) && decide (x < 10)
theorem lots_good : lotsGood = true := by decide +kernel
theorem lots_len {m : Int} {s : Nat} (h0 : 0 ≤ m) (h1 : m < 10) (h2 : s < 10) : (lotsL m s).length ≤ 200 := by
  have h := lots_good
  unfold lotsGood at h
  rw [List.all_eq_true] at h
  have h := h m.toNat (List.mem_range.mpr (by omega))
  rw [List.all_eq_true] at h
  have h := h s (List.mem_range.mpr h2)
  rw [Bool.and_eq_true, Int.toNat_of_nonneg h0] at h
  exact of_decide_eq_true h.1
theorem lots_in {m : Int} {s : Nat} (h0 : 0 ≤ m) (h1 : m < 10) (h2 : s < 10) {l : List Int} (hl : l ∈ lotsL m s) {x : Int} (hx : x ∈ l) : 0 ≤ x ∧ x < 10 := by
  have h := lots_good
  unfold lotsGood at h
  rw [List.all_eq_true] at h
  have h := h m.toNat (List.mem_range.mpr (by omega))
  rw [List.all_eq_true] at h
  have h := h s (List.mem_range.mpr h2)
  rw [Bool.and_eq_true, Int.toNat_of_nonneg h0] at h
  have h := h.2
  rw [List.all_eq_true] at h
  have h := h l hl
  rw [List.all_eq_true] at h
  have h := h x hx
  rw [Bool.and_eq_true] at h
  exact ⟨of_decide_eq_true h.1, of_decide_eq_true h.2⟩
theorem flat_take {α β : Type} (f : α → List β) (l : List α) (i : Nat) : ((l.take i).flatMap f).length ≤ (l.flatMap f).length := by
  have e : l.flatMap f = (l.take i).flatMap f ++ (l.drop i).flatMap f := by
    rw [← List.flatMap_append, List.take_append_drop]
  rw [e, List.length_append]
  omega
theorem flat_succ {α β : Type} {f : α → List β} {l : List α} {i : Nat} {a : α} (h : l[i]? = some a) : (l.take (i + 1)).flatMap f = (l.take i).flatMap f ++ f a := by
  rw [List.take_add_one, h, List.flatMap_append]
  simp
section
variable {P : Program} {w : World} {K : PySem.W.Frag} {mg : Str → Option Value} {base : Heap}
def spLots (K : PySem.W.Frag) : Sp := fun vs H Q _ => ∃ (m s : Int), vs = [.int m, .int s] ∧ 0 ≤ m ∧ m < 10 ∧ 0 ≤ s ∧ s < 10 ∧ ∀ p xs H2, H p = none → Ex H H2 → H2 p = some (.lst xs) → DtAll K H2 xs ((lotsL m s.toNat).map lotD) → Q (.ref p) H2
def nextL (m : Int) (l : List Int) : List (List Int) := (upTo (l.getLast?.getD (-1) + 1) m).map fun c => l ++ [c]
theorem okk_lots {f : Addr} {fd : FuncData} {k : Nat} (D : Df K mg "_law_lots" s__law_lots ["_law_many", "_law_size"] f fd) (B : Bt mg) : FnOk P w K mg base CX0 (k + 1) f fd ["_law_many", "_law_size"] (spLots K) := by
  refine D.F.ok sc__law_lots (fun vs H Q E h => ?_) (fun cdv A outer s H vs Q E hr h => ?_)
  · obtain ⟨m, s, rfl, _⟩ := h
    rfl
  · obtain ⟨m, z, rfl, m0, m1, z0, z1, q⟩ := h
    refine ⟨_, (pss_cons (ps_set (i := 2) sc__law_lots.nd rfl (.inl rfl) (pe_lst (pa_cons (pe_tup pa_nil) pa_nil)))  (pss_cons (ps_for PassesOwn.never rfl (pi_range1 (by rfl) B.range_ (pa_cons (pv 1) pa_nil)) (pg_name (i := 3) sc__law_lots.nd rfl (.inl rfl))   (pss_cons (ps_set (i := 4) sc__law_lots.nd rfl (.inl rfl) (pe_lst pa_nil))  (pss_cons (ps_for PassesOwn.never rfl (pi_list (pv 2)) (pg_name (i := 5) sc__law_lots.nd rfl (.inr rfl))   (pss_one (ps_set (i := 4) sc__law_lots.nd rfl (.inl rfl) (pe_op op_cat (pv 4) (pe_lc (own := [("_law_corner", 6)]) rfl sc__law_lots.nd (pi_range2 (by rfl) B.range_ (pa_cons (pe_op op_add (pe_ix (show IxR _ (rIxT K) from ix_tup) (pe_orT (pv 5) (pe_one (pe_tup (pa_cons (pe_un un_neg pe_int) pa_nil)))) (pe_un un_neg pe_int) (fun _ _ => rfl)) pe_int) (pa_cons (pv 0) pa_nil))) (blkOk_by (own := [("_law_corner", 6)]) (N := N__law_lots) (sc := defScope s__law_lots) (by decide +kernel)) (fun _ _ _ _ _ => (pg_name (i := 6) sc__law_lots.nd rfl (.inl rfl))) (fun _ _ _ _ _ => pts_nil) (fun _ _ _ _ _ => (pe_op (show OpR _ _ (rCatA K) from op_catA) (pv 5) (pe_tup (pa_cons (pv 6) pa_nil)))))))))  (pss_one (ps_set (i := 2) sc__law_lots.nd rfl (.inl rfl) (pv 4))))))  (pss_one (ps_ret (pv 2))))), ?_⟩
    refine q_asgF (ef_lst (K := K) (ds := [lotD []]) (eb_cons (ed_tup eb_nil (by decide)) eb_nil) (by decide)) fun p xs H1 np e1 hp hx => ?_
    refine q_forR1 (n := z) (ea_cons (ev_var rfl) ea_nil) ⟨z0, by omega⟩ (fun i σ' H' => ∃ (p : Addr) (xs : List V) (y3 y4 y5 y6 : Option V), σ' = [some (.int m), some (.int z), some (.ref p), y3, y4, y5, y6] ∧ H p = none ∧ Ex H H' ∧ H' p = some (.lst xs) ∧ DtAll K H' xs ((lotsL m i).map lotD))
      (fun H2 e2 => ⟨p, xs, _, _, _, _, rfl, np, e1.trans e2, e2 p _ hp, dta_ex e2 hx⟩) ?_ ?_
    · rintro i σ' H' hi ⟨p, xs, y3, y4, y5, y6, rfl, np, e', hp, hx⟩
      have hlen : (lotsL m (i + 1)).length ≤ 200 := lots_len m0 m1 (by omega)
      refine q_asgF (ef_lst (K := K) (ds := []) eb_nil (by decide)) fun r zs H2 nr e2 hr' hz => ?_
      cases hz
      refine q_forLn (ev_var rfl) (sq_of (e2 p _ hp)) (fun j σ' H' => ∃ (r : Addr) (zs : List V) (y5 y6 : Option V), σ' = [some (.int m), some (.int z), some (.ref p), some (.int (i : Int)), some (.ref r), y5, y6] ∧ H r = none ∧ Ex H2 H' ∧ H' r = some (.lst zs) ∧ DtAll K H' zs ((((lotsL m i).take j).flatMap (nextL m)).map lotD))
        (fun H3 e3 => ⟨r, [], _, _, rfl, fresh_back e' nr, e3, e3 r _ hr', .nil⟩) (fun j σ' H' _ hw => ?_) ?_ ?_
      · obtain ⟨r, zs, y5, y6, rfl, nr, e3, _⟩ := hw
        exact sq_of (e3 p _ (e2 p _ hp))
      · rintro j x σ' H3 hj ⟨r, zs, y5, y6, rfl, nr, e3, hr3, hz3⟩
        obtain ⟨d, hd1, hd2⟩ := dta_get (dta_ex (e2.trans e3) hx) hj
        rw [List.getElem?_map] at hd1
        cases hl : (lotsL m i)[j]? with
        | none => rw [hl] at hd1; cases hd1
        | some l =>
          rw [hl] at hd1
          have ed : lotD l = d := Option.some.inj hd1
          subst ed
          have hmem : l ∈ lotsL m i := List.mem_of_getElem? hl
          have hlast : -1 ≤ l.getLast?.getD (-1) ∧ l.getLast?.getD (-1) < 10 := by
            cases l with
            | nil => exact ⟨by decide, by decide⟩
            | cons a t =>
              rw [List.getLast?_eq_some_getLast (List.cons_ne_nil a t)]
              have := lots_in m0 m1 (by omega) hmem (List.getLast_mem (List.cons_ne_nil a t))
              exact ⟨by show (-1 : Int) ≤ (a :: t).getLast _; omega, this.2⟩
          have hll : l.length ≤ 1000 := by
            have : ∀ (s : Nat) (l : List Int), l ∈ lotsL m s → l.length = s := by
              intro s
              induction s with
              | zero => intro l h; simp [lotsL] at h; rw [h]; rfl
              | succ s ih =>
                intro l h
                simp only [lotsL, List.mem_flatMap, List.mem_map] at h
                obtain ⟨a, ha, c, _, rfl⟩ := h
                rw [List.length_append, ih a ha]; rfl
            rw [this i l hmem]
            omega
          have hext : (((lotsL m i).take (j + 1)).flatMap (nextL m)) = ((lotsL m i).take j).flatMap (nextL m) ++ nextL m l := flat_succ hl
          have hbig : (((lotsL m i).take (j + 1)).flatMap (nextL m)).length ≤ 200 := Nat.le_trans (flat_take _ _ _) hlen
          have hbase : EvD K (tOrT K (tVar 5) (tTup (tCons (tUn (rU fun i => .int (-i)) (tC (.int 1))) tNil))) [some (.int m), some (.int z), some (.ref p), some (.int (i : Int)), some (.ref r), some x, y6] H3 (if l = [] then .tuple [.int (-1)] else lotD l) := by
            refine ed_orT (ds := l.map PyData.int) (ed_var rfl hd2) (fun he => ?_) (fun hne => ?_)
            · have : l = [] := List.map_eq_nil_iff.mp he
              rw [if_pos this]
              exact ed_tup (eb_cons (ed_int (ev_un ev_c ru_neg)) eb_nil) (by decide)
            · have : l ≠ [] := fun z => hne (by rw [z]; rfl)
              rw [if_neg this]
              rfl
          have hix : Ev (tOp (rIxT K) (tOrT K (tVar 5) (tTup (tCons (tUn (rU fun i => .int (-i)) (tC (.int 1))) tNil))) (tUn (rU fun i => .int (-i)) (tC (.int 1)))) [some (.int m), some (.int z), some (.ref p), some (.int (i : Int)), some (.ref r), some x, y6] H3 (.int (l.getLast?.getD (-1))) := by
            refine ev_int (K := K) ?_
            cases l with
            | nil => exact ed_ixT (ds := [.int (-1)]) hbase (ev_un ev_c ru_neg) rfl
            | cons a t =>
              rw [if_neg (List.cons_ne_nil a t)] at hbase
              refine ed_ixT (ds := (a :: t).map PyData.int) hbase (ev_un ev_c ru_neg) ?_
              rw [List.getLast?_eq_some_getLast (List.cons_ne_nil a t)]
              exact lotD_ix (lastD _ (List.cons_ne_nil a t))
          refine s_asgF (ef_catLF (K := K) (p := r) (ev_var rfl) hr3 hz3 (ef_lcR2 (fun _ => true) (fun c => lotD (l ++ [c])) (ea_cons (ev_op hix ev_c rv_I0) (ea_cons (ev_var rfl) ea_nil)) ⟨by omega, by omega, by omega, by omega⟩ (fun _ => rfl) (fun _ _ _ _ _ => et_yes) (fun c H4 e4 _ _ _ => ?_)) ?_) fun r' zs' H4 nr' e4 hr4 hz4 => ?_
          · refine ed_is (ed_cat (ed_var rfl (dt_ex e4 hd2)) (ed_tup (eb_cons (ed_int (ev_var rfl)) eb_nil) (by show 1 ≤ 100000; decide)) ?_) ?_
            · show (l.map PyData.int).length + 1 ≤ 100000
              rw [List.length_map]; omega
            · show PyData.tuple (l.map PyData.int ++ [.int c]) = lotD (l ++ [c])
              unfold lotD
              rw [List.map_append]
              rfl
          · rw [List.filter_eq_self.mpr (fun _ _ => rfl)]
            rw [List.length_map, List.length_map, upTo_len]
            have : (nextL m l).length = (m - (l.getLast?.getD (-1) + 1)).toNat := by
              unfold nextL
              rw [List.length_map, upTo_len]
            rw [hext, List.length_append] at hbig
            omega
          · refine ⟨r', zs', _, _, rfl, fresh_back (e'.trans (e2.trans e3)) nr', e3.trans e4, hr4, ?_⟩
            rw [hext, List.map_append]
            rw [List.filter_eq_self.mpr (fun _ _ => rfl)] at hz4
            unfold nextL
            rw [List.map_map (l := upTo _ _)]
            exact hz4
      · rintro σ' H3 ⟨r, zs, y5, y6, rfl, nr, e3, hr3, hz3⟩
        have elen : (lotsL m i).take xs.length = lotsL m i := List.take_of_length_le (by rw [dta_len hx, List.length_map]; exact Nat.le_refl _)
        rw [elen] at hz3
        refine s_asg (ev_var rfl) fun H4 e4 => ⟨r, zs, _, _, _, _, rfl, nr, (e'.trans (e2.trans e3)).trans e4, e4 r _ hr3, dta_ex e4 hz3⟩
    · rintro σ' H' ⟨p, xs, y3, y4, y5, y6, rfl, np, e', hp, hx⟩
      exact s_ret (ev_var rfl) fun H2 e2 => q p xs H2 np (e'.trans e2) (e2 p _ hp) (dta_ex e2 hx)
end
def gapBad (l : List Int) (o n : Int) : Bool := decide ((((l.filter fun c => decide (o < c) && decide (c < n)).length : Nat) : Int) % 2 = 1)
def apartL (m : Int) (l : List Int) : List Int := (upTo 0 m).filter fun c => !l.contains c
def rowOk (l ap : List Int) (j : Nat) : Bool := (ap.take j).all fun o => !gapBad l o (ap.getD j 0)
def isPaneL (m d : Int) (l : List Int) : Bool := ((List.range (apartL m l).length).all (rowOk l (apartL m l))) && decide ((l.length : Int) = d)
def panesL (m d : Int) : List (List Int) := (lotsL m d.toNat).filter (isPaneL m d)
theorem apart_len (m : Int) (l : List Int) : (apartL m l).length ≤ m.toNat := by
  have h := List.length_filter_le (fun c => !l.contains c) (upTo 0 m)
  rw [upTo_len] at h
  show ((upTo 0 m).filter _).length ≤ _
  omega
section
variable {P : Program} {w : World} {K : PySem.W.Frag} {mg : Str → Option Value} {base : Heap}
theorem ef_lots {σ : L2.St} {H : Hp} {ta : TA} {m s : Int} {E : XK} (h : EvA ta σ H [.int m, .int s]) (m0 : 0 ≤ m) (m1 : m < 10) (s0 : 0 ≤ s) (s1 : s < 10) : EvF K (tCall (spLots K) [] E ta) σ H ((lotsL m s.toNat).map lotD) := fun H1 e Q q =>
  h H1 e _ fun H2 e2 => ⟨m, s, rfl, m0, m1, s0, s1, fun p xs H3 np e3 hp hx => q p xs H3 (fresh_back e2 np) (e2.trans e3) hp hx⟩
def spIsPane (K : PySem.W.Frag) : Sp := fun vs H Q _ => ∃ (m d : Int) (l : List Int), DtAll K H vs [curveD m d, lotD l] ∧ 0 ≤ m ∧ m < 10 ∧ l.length < 1000 ∧ ∀ H2, Ex H H2 → Q (.bl (isPaneL m d l)) H2
theorem okk_is_pane {f : Addr} {fd : FuncData} {k : Nat} (D : Df K mg "_law_is_pane" s__law_is_pane ["_law_curve_here", "_law_lot"] f fd) (B : Bt mg) : FnOk P w K mg base CX0 (k + 1) f fd ["_law_curve_here", "_law_lot"] (spIsPane K) := by
  refine D.F.ok sc__law_is_pane (fun vs H Q E h => ?_) (fun cdv A outer s H vs Q E hr h => ?_)
  · obtain ⟨m, d, l, hd, _⟩ := h
    rw [dta_len hd]
    rfl
  · obtain ⟨m, d, l, hd, m0, m1, hlen, q⟩ := h
    cases hd with
    | cons h1 h2 =>
    cases h2 with
    | cons h2 h3 =>
    cases h3
    rename_i cv lv
    obtain ⟨la, rfl, hl⟩ := dt_lot h2
    refine ⟨_, (pss_cons (ps_setLc (i := 2) (own := [("_law_corner", 3)]) rfl sc__law_is_pane.nd rfl rfl (sw_true rfl rfl rfl (by decide +kernel)) (pi_range1 (by rfl) B.range_ (pa_cons (pe_ix (show IxR _ (rIxT K) from ix_tup) (pv 0) pe_int (fun _ _ => rfl)) pa_nil)) (blkOk_by (own := [("_law_corner", 3)]) (N := N__law_is_pane) (sc := defScope s__law_is_pane) (by decide +kernel)) (fun _ _ _ _ _ => (pg_name (i := 3) sc__law_is_pane.nd rfl (.inl rfl))) (fun _ _ _ _ _ => pts_one (pt_cmpR (show OpR _ _ (rIn K true) from op_notIn_seq) (pv 3) (pv 1) (by rfl))) (fun _ _ _ _ _ => (pv 3)))  (pss_cons (ps_for PassesOwn.never rfl (pi_enum (by rfl) B.enumerate_ (pa_cons (pv 2) pa_nil)) (pg_tup (by rfl) (pgs_cons (pg_name (i := 4) sc__law_is_pane.nd rfl (.inl rfl)) (pgs_cons (pg_name (i := 5) sc__law_is_pane.nd rfl (.inr rfl)) pgs_nil)))   (pss_one (ps_for PassesOwn.never rfl (pi_list (pe_slice (show SlR _ (rSlL K) from sl_list) (pv 2) po_none (po_some (pv 4)))) (pg_name (i := 6) sc__law_is_pane.nd rfl (.inr rfl))   (pss_one (ps_if (pt_cmpR op_eq (pe_op op_mod (pe_callB (show CallR _ _ (rLenS K) from call_len_seq) (by rfl) B.len_ (by decide +kernel) (pa_cons (pe_lc (own := [("_law_corner", 3)]) rfl sc__law_is_pane.nd (pi_tup (pv 1)) (blkOk_by (own := [("_law_corner", 3)]) (N := N__law_is_pane) (sc := defScope s__law_is_pane) (by decide +kernel)) (fun _ _ _ _ _ => (pg_name (i := 3) sc__law_is_pane.nd rfl (.inl rfl))) (fun _ _ _ _ _ => pts_one (pt_chain op_lt op_lt (pv 6) (pv 3) (pv 5))) (fun _ _ _ _ _ => (pv 3))) pa_nil)) pe_int) pe_int (nomark _))   (pss_one (ps_ret pe_bl))   pss_nil)))))  (pss_one (ps_ret (pe_cmpR op_eq (pe_callB (show CallR _ _ (rLenS K) from call_len_seq) (by rfl) B.len_ (by decide +kernel) (pa_cons (pv 1) pa_nil)) (pe_ix (show IxR _ (rIxT K) from ix_tup) (pv 0) pe_int (fun _ _ => rfl)) (nomark _)))))), ?_⟩
    refine q_asgF (K := K) (ds := (apartL m l).map PyData.int) (ef_is (ef_lcR1 (fun c => !l.contains c) PyData.int (ea_cons (ev_int (K := K) (ed_ixT (ds := [.int m, .int d]) (ed_var rfl h1) ev_c rfl)) ea_nil) ⟨by omega, by omega⟩ (fun _ => rfl) (fun c H1 e1 _ _ => ?_) (fun c H1 e1 _ _ _ => ed_int (ev_var rfl))) rfl) fun p xs H1 np e1 hp hx => ?_
    · refine et_is (et_test (ev_op (ev_var rfl) (ev_var rfl) (rv_niT (ex_t e1 hl) rfl (flat_ints l)))) ?_
      rw [inV_ints]
    · rw [dta_ints_inv hx] at hp
      clear hx
      have hal := apart_len m l
      generalize hap : apartL m l = ap at hp hal
      refine ⟨.ref p, rfl, p, ap.map V.int, rfl, sq_of hp, for_it (walk_enum (K := K) (a := p) (xs := ap.map V.int)) (fun i σ' H' => ∃ y3 y4 y5 y6 : Option V, σ' = [some cv, some (.ref la), some (.ref p), y3, y4, y5, y6] ∧ Ex H1 H' ∧ (List.range i).all (rowOk l ap) = true) ⟨_, _, _, _, rfl, Ex.refl _, rfl⟩ (fun i σ' H' _ hw => ?_) (fun i x σ' H' H'' hi hw hy => ?_) (fun σ' H' hw => ?_)⟩
      · obtain ⟨_, _, _, _, _, e2, _⟩ := hw
        exact sq_of (e2 p _ hp)
      · obtain ⟨y3, y4, y5, y6, rfl, e2, hok⟩ := hw
        obtain ⟨T, x1, x2, rfl, nT, rfl, g1, g2⟩ := hy
        cases Option.some.inj g1
        have hi' : i < ap.length := by rw [List.length_map] at hi; exact hi
        replace g2 : (ap.map V.int)[i]? = some x2 := g2
        rw [List.getElem?_map, List.getElem?_eq_getElem hi'] at g2
        cases Option.some.inj g2
        have hget : ap.getD i 0 = ap[i] := by
          rw [List.getD_eq_getElem?_getD, List.getElem?_eq_getElem hi']
          rfl
        have e3 : Ex H1 (upd H' T (.tup [.int (i : Nat), .int ap[i]])) := e2.trans (Ex.new nT)
        refine ⟨T, _, rfl, st_of upd_same, rfl, _, _, rfl, _, _, rfl, rfl, ?_⟩
        refine s_forNL (xs := (ap.take i).map V.int) ?_ (fun r j σ' H'' => ∃ y3 y6 : Option V, σ' = [some cv, some (.ref la), some (.ref p), y3, some (.int (i : Nat)), some (.int ap[i]), y6] ∧ Ex H1 H'' ∧ H'' r = some (.lst ((ap.take i).map V.int)) ∧ ((ap.take i).take j).all (fun o => !gapBad l o ap[i]) = true)
          (fun r H2 nr e4 hr' => ⟨_, _, rfl, e3.trans e4, hr', rfl⟩) (fun r j σ' H2 _ hw => ?_) (fun r j x σ' H2 hj hw => ?_) (fun r σ' H2 hw => ?_)
        · rw [List.map_take, ← cut_take _ _ (by rw [List.length_map]; omega)]
          exact el_sl (ev_var rfl) eo_none (eo_some (ev_var rfl)) (sq_of (e3 p _ hp))
        · obtain ⟨_, _, _, _, hr', _⟩ := hw
          exact sq_of hr'
        · obtain ⟨y3, y6, rfl, e4, hr', hall⟩ := hw
          rw [List.getElem?_map] at hj
          cases ho : (ap.take i)[j]? with
          | none => rw [ho] at hj; cases hj
          | some o =>
            rw [ho] at hj
            cases Option.some.inj hj
            have htest : EvT (tTest (tOp rEq (tOp (rI (fun _ j => 0 < j) fun i j => .int (i % j)) (tCB (rLenS K) (tCons (tLc (iTup K (tVar 1)) (gName 3) (tTest (tChain (rI0 fun i j => .bl (decide (i < j))) (rI0 fun i j => .bl (decide (i < j))) (tVar 6) (tVar 3) (tVar 5))) (tVar 3) [3]) tNil)) (tC (.int 2))) (tC (.int 1)))) [some cv, some (.ref la), some (.ref p), y3, some (.int (i : Nat)), some (.int ap[i]), some (.int o)] H2 (gapBad l o ap[i]) := by
              refine et_is (et_test (ev_op (ev_op (ev_lenF (K := K) (ef_lcT (ds := l.map PyData.int) (fun d => decide (o < unint d) && decide (unint d < ap[i])) (fun d => d) (ed_var rfl (dt_ex (e1.trans e4) h2)) (by rw [List.length_map]; omega) (fun _ => rfl) (fun d x H3 e5 hm hd => ?_) (fun d x H3 e5 hm hd _ => ed_var rfl hd))) ev_c (rv_I (by show (0 : Int) < 2; decide))) ev_c (rv_eq rfl))) ?_
              · obtain ⟨c, _, rfl⟩ := mem_ints hm
                cases hd
                exact et_test (ev_chain (ev_var rfl) (ev_var rfl) (ev_var rfl) rv_I0 rv_I0)
              · rw [dec_int, filt_len (g := fun c => decide (o < c) && decide (c < ap[i])) (fun _ => rfl)]
                rfl
            refine s_when htest (fun hb H3 e5 => ?_) (fun hb H3 e5 => ?_)
            · refine s_ret ev_c fun H4 e6 => ?_
              have hbad : isPaneL m d l = false := by
                unfold isPaneL
                rw [hap]
                have : (List.range ap.length).all (rowOk l ap) = false := by
                  cases hq : (List.range ap.length).all (rowOk l ap) with
                  | false => rfl
                  | true =>
                    rw [List.all_eq_true] at hq
                    have h6 := hq i (List.mem_range.mpr hi')
                    unfold rowOk at h6
                    rw [List.all_eq_true] at h6
                    have h7 := h6 o (List.mem_of_getElem? ho)
                    rw [hget, hb] at h7
                    cases h7
                rw [this]
                rfl
              rw [← hbad]
              exact q H4 ((e1.trans (e4.trans e5)).trans e6)
            · refine ⟨_, _, rfl, e4.trans e5, e5 r _ hr', ?_⟩
              rw [List.take_add_one, ho, List.all_append, hall]
              show (true && (!gapBad l o ap[i] && true)) = true
              rw [hb]
              rfl
        · obtain ⟨y3, y6, rfl, e4, hr', hall⟩ := hw
          refine ⟨_, _, _, _, rfl, e4, ?_⟩
          rw [List.range_succ, List.all_append, hok]
          show (true && (rowOk l ap i && true)) = true
          have : rowOk l ap i = true := by
            unfold rowOk
            rw [hget]
            rw [List.length_map, List.take_of_length_le (Nat.le_refl _)] at hall
            exact hall
          rw [this]
          rfl
      · obtain ⟨y3, y4, y5, y6, rfl, e2, hok⟩ := hw
        rw [List.length_map] at hok
        have hres : isPaneL m d l = decide ((l.length : Int) = d) := by
          unfold isPaneL
          rw [hap, hok]
          rfl
        refine s_ret (v := .bl (isPaneL m d l)) (ev_is (ev_op (ev_lenT (K := K) (ds := l.map PyData.int) (ed_var rfl (dt_ex (e1.trans e2) h2))) (ev_int (K := K) (ed_ixT (ds := [.int m, .int d]) (ed_var rfl (dt_ex (e1.trans e2) h1)) ev_c rfl)) (rv_eq rfl)) ?_) fun H3 e5 => q H3 ((e1.trans e2).trans e5)
        rw [hres, dec_int, List.length_map]
def spPanes (K : PySem.W.Frag) : Sp := fun vs H Q _ => ∃ (m d : Int), DtAll K H vs [curveD m d] ∧ 0 ≤ m ∧ m < 10 ∧ 0 ≤ d ∧ d < 10 ∧ ∀ p xs H2, H p = none → Ex H H2 → H2 p = some (.lst xs) → DtAll K H2 xs ((panesL m d).map lotD) → Q (.ref p) H2
theorem lots_sz {m : Int} : ∀ {s : Nat} {l : List Int}, l ∈ lotsL m s → l.length = s := by
  intro s
  induction s with
  | zero => intro l h; simp [lotsL] at h; rw [h]; rfl
  | succ s ih =>
    intro l h
    simp only [lotsL, List.mem_flatMap, List.mem_map] at h
    obtain ⟨a, ha, c, _, rfl⟩ := h
    rw [List.length_append, ih ha]; rfl
theorem okk_panes {f fl fi : Addr} {fd fdl fdi : FuncData} {k : Nat} (D : Df K mg "_law_panes" s__law_panes ["_law_curve_here"] f fd) (D__law_lots : Df K mg "_law_lots" s__law_lots ["_law_many", "_law_size"] fl fdl) (D__law_is_pane : Df K mg "_law_is_pane" s__law_is_pane ["_law_curve_here", "_law_lot"] fi fdi) (B : Bt mg) : FnOk P w K mg base CX0 (k + 2) f fd ["_law_curve_here"] (spPanes K) := by
  have G__law_lots : FnOk P w K mg base CX0 (k + 1) fl fdl ["_law_many", "_law_size"] (spLots K) := okk_lots D__law_lots B
  have G__law_is_pane : FnOk P w K mg base CX0 (k + 1) fi fdi ["_law_curve_here", "_law_lot"] (spIsPane K) := okk_is_pane D__law_is_pane B
  refine D.F.ok sc__law_panes (fun vs H Q E h => ?_) (fun cdv A outer s H vs Q E hr h => ?_)
  · obtain ⟨m, d, hd, _⟩ := h
    rw [dta_len hd]
    rfl
  · obtain ⟨m, d, hd, m0, m1, d0, d1, q⟩ := h
    cases hd with
    | cons h1 h2 =>
    cases h2
    rename_i cv
    refine ⟨_, (pss_one (ps_ret (pe_lc (own := [("_law_lot", 1)]) rfl sc__law_panes.nd (pi_list (pe_call G__law_lots (hr.mono (by omega)) (by rfl) D__law_lots.g D__law_lots.F.kp D__law_lots.b .nil pass0 (pa_cons (pe_ix (show IxR _ (rIxT K) from ix_tup) (pv 0) pe_int (fun _ _ => rfl)) (pa_cons (pe_ix (show IxR _ (rIxT K) from ix_tup) (pv 0) pe_int (fun _ _ => rfl)) pa_nil)))) (blkOk_by (own := [("_law_lot", 1)]) (N := N__law_panes) (sc := defScope s__law_panes) (by decide +kernel)) (fun _ _ _ _ _ => (pg_name (i := 1) sc__law_panes.nd rfl (.inl rfl))) (fun _ _ _ _ _ => pts_one (pt_val (pe_call G__law_is_pane (hr.mono (by omega)) (by rfl) D__law_is_pane.g D__law_is_pane.F.kp D__law_is_pane.b .nil pass0 (pa_cons (pv 0) (pa_cons (pv 1) pa_nil))))) (fun _ _ _ _ _ => (pv 1))))), ?_⟩
    have hll : (lotsL m d.toNat).length ≤ 200 := lots_len m0 m1 (by omega)
    refine s_retF (K := K) (ds := (panesL m d).map lotD) (ef_is (ef_lcF (ds := (lotsL m d.toNat).map lotD) (fun x => isPaneL m d (unlot x)) (fun x => x) (ef_lots (ea_cons (ev_int (K := K) (ed_ixT (ds := [.int m, .int d]) (ed_var rfl h1) ev_c rfl)) (ea_cons (ev_int (K := K) (ed_ixT (ds := [.int m, .int d]) (ed_var rfl h1) ev_c rfl)) ea_nil)) m0 m1 d0 d1) (by rw [List.length_map]; omega) (fun _ => rfl) (fun x v H1 e1 hm hx => ?_) (fun x v H1 e1 hm hx _ => ed_var rfl hx)) (filt_lots fun l => by rw [unlot_lot])) fun p xs H1 np e1 hp hx => q p xs H1 np e1 hp hx
    obtain ⟨l, hl, rfl⟩ := mem_lots hm
    rw [unlot_lot]
    refine et_B (fun H2 e2 Q' q' => ?_)
    refine ⟨_, rfl, _, rfl, m, d, l, .cons (dt_ex (e1.trans e2) h1) (.cons (dt_ex e2 hx) .nil), m0, m1, ?_, fun H3 e3 => q' H3 e3⟩
    rw [lots_sz hl]
    omega
end
theorem ty_int_inv {K : PySem.W.Frag} {H : Hp} {x : V} {t : String} (ty : TyX K H x (.type t)) (h : t = "int") : ∃ i, x = .int i := by
  cases ty with
  | base b => cases b <;> first | exact ⟨_, rfl⟩ | exact absurd h (by decide)
  | _ => exact absurd h (by decide)
theorem ty_of_int {K : PySem.W.Frag} {H : Hp} {i : Int} {t : String} (ty : TyX K H (.int i) (.type t)) : t = "int" := by
  cases ty with
  | base b => cases b; rfl
def tyNames : List String := ["NoneType", "bool", "int", "str", "list", "tuple", "dict"]
def tyGood : Bool := tyNames.all fun t => match kitB t "int", kitB t "bool" with
  | some a, some b => (a && !b) == (t == "int")
  | _, _ => false
theorem ty_good : tyGood = true := by decide +kernel
theorem ty_ib {t : String} (h : t ∈ tyNames) : ∃ a b, kitB t "int" = some a ∧ kitB t "bool" = some b ∧ (a && !b) = (t == "int") := by
  have h2 := ty_good
  unfold tyGood at h2
  rw [List.all_eq_true] at h2
  have h3 := h2 t h
  cases h4 : kitB t "int" with
  | none => rw [h4] at h3; cases h3
  | some a =>
    cases h5 : kitB t "bool" with
    | none => rw [h4, h5] at h3; cases h3
    | some b =>
      rw [h4, h5] at h3
      exact ⟨a, b, rfl, rfl, eq_of_beq h3⟩
section
variable {P : Program} {w : World} {K : PySem.W.Frag} {mg : Str → Option Value} {base : Heap}
def spWhole (K : PySem.W.Frag) : Sp := fun vs H Q _ => ∃ (v : V) (t : String), vs = [v] ∧ t ∈ tyNames ∧ (∀ H1, Ex H H1 → TyX K H1 v (.type t)) ∧ ∀ H2, Ex H H2 → Q (.bl (t == "int")) H2
theorem ev_whole {σ : L2.St} {H : Hp} {te : TE} {v : V} {t : String} {E : XK} (h : Ev te σ H v) (ht : t ∈ tyNames) (hx : ∀ H1, Ex H H1 → TyX K H1 v (.type t)) : Ev (tCall (spWhole K) [] E (tCons te tNil)) σ H (.bl (t == "int")) := fun H1 e Q q =>
  h H1 e _ fun H2 e2 => ⟨v, t, rfl, ht, fun H3 e3 => hx H3 ((e.trans e2).trans e3), fun H3 e3 => q H3 (e2.trans e3)⟩
theorem okk_is_whole {f : Addr} {fd : FuncData} {k : Nat} (D : Df K mg "is_whole" s_is_whole ["thing"] f fd) (B : Bt mg) : FnOk P w K mg base CX0 (k + 1) f fd ["thing"] (spWhole K) := by
  refine D.F.ok sc_is_whole (fun vs H Q E h => ?_) (fun cdv A outer s H vs Q E hr h => ?_)
  · obtain ⟨v, t, rfl, _⟩ := h
    rfl
  · obtain ⟨v, t, rfl, ht, hx, q⟩ := h
    refine ⟨_, (pss_one (ps_ret (pe_and (pe_callB (show CallR _ _ (rIsi K) from call_isi) (by rfl) B.isinstance_ (by decide +kernel) (pa_cons (pv 0) (pa_cons (pe_bltn (v := .ty "int") (by rfl) B.int_ (by decide +kernel) rfl) pa_nil))) (pe_one (pe_not (pe_callB (show CallR _ _ (rIsi K) from call_isi) (by rfl) B.isinstance_ (by decide +kernel) (pa_cons (pv 0) (pa_cons (pe_bltn (v := .ty "bool") (by rfl) B.bool_ (by decide +kernel) rfl) pa_nil)))))))), ?_⟩
    obtain ⟨a, b, ha, hb, hab⟩ := ty_ib ht
    refine s_ret (ev_andV (ev_isi (ev_var rfl) ev_c hx ha) (fun _ => ev_notV (ev_isi (ev_var rfl) ev_c hx hb))) fun H1 e1 => ?_
    rw [hab]
    exact q H1 e1
theorem ev_wholeI {σ : L2.St} {H : Hp} {te : TE} {i : Int} {E : XK} (h : Ev te σ H (.int i)) : Ev (tCall (spWhole K) [] E (tCons te tNil)) σ H (.bl true) := ev_whole h (by decide) ty_int
end
theorem tyes_go' {σ : L2.St} {H : Hp} {F G : Hp → Prop} (h : F H) : tYes σ H fun b H3 => if b = true then F H3 else G H3 := by
  show (if true = true then F H else G H)
  exact iteT h
/-! ### enumerate(tuple) -/
set_option maxHeartbeats 1000000 in
theorem meets_enum_new1 {v : Value} {o : Obj} {H : Heap → Prop} (B : Begins v o H) :
    Meets (Builtin.«enumerate.__new__» ⟨[.type "enumerate", v], []⟩) (fun _ R s => H s.heap ∧
      R (.ok (.ret (.ref (s.heap.push o).objs.size))) { s with heap := (s.heap.push o).push { cls := .type "enumerate", data := .fields #[.none, .bool false, .ref s.heap.objs.size, rawInt 0, .none, .none] } }) :=
  .of_wp fun prog w A R s h => by
    obtain ⟨hp, g, d, tk, os⟩ := s; obtain ⟨h1, h⟩ := h
    have hsub := sub_enumerate
    have q1 : ∀ {A' : Around} {E : Value → Shared → Prop} {Q : Value → Shared → Prop}, Q (.ref hp.objs.size) ⟨hp.push o, g, d, tk, os⟩ → wpAny (model prog w) A' (pyIter v) Q E ⟨hp, g, d, tk, os⟩ :=
      fun q => B.iter prog w _ _ ⟨hp, g, d, tk, os⟩ _ h1 q
    wp_walk using q1
    refine wpAny_stack_any fun st => wpAny_pure ?_
    split
    · rename_i c _ _ _ _ _
      cases (c == Value.type "enumerate")
      · wp_walk using q1
        exact ⟨_, rfl, h⟩
      · wp_walk using q1
        exact ⟨_, rfl, h⟩
    · wp_walk using q1
      exact ⟨_, rfl, h⟩
theorem call_enum_tuple {prog : Program} {w : World} {A : Around} {E : Value → Shared → Prop} {s : Shared} {l : Addr} {items : Array Value} {Q : Value → Shared → Prop} (hL : s.heap.IsTuple l items)
    (h : ∀ h', IsEnum h' (s.heap.objs.size + 1) s.heap.objs.size 0 .none → h'.IsTupleIter s.heap.objs.size l 0 → h'.objs.size = s.heap.objs.size + 2 →
      (∀ b o, s.heap.get? b = some o → h'.get? b = some o) → Q (.ref (s.heap.objs.size + 1)) { s with heap := h' }) :
    wpAny (model prog w) A (call (.type "enumerate") [.ref l]) Q E s := by
  refine callType_new F.called_enumerate (by decide) (F.typeCall_enumerate_1 _) (F.newCall_enumerate_1 _) (fun obj => F.args_object_init_2 obj _) F.entry_enumerate_new
    (meets_enum_new1 (begins_tuple l items)) ⟨hL, ?_⟩
  have hz : (s.heap.push { cls := .type "tuple_iterator", data := .fields #[.ref l, .int 0 0] }).objs.size = s.heap.objs.size + 1 := Heap.size_push ..
  show _ ∧ _
  rw [hz]
  have he : IsEnum ((s.heap.push { cls := .type "tuple_iterator", data := .fields #[.ref l, .int 0 0] }).push
      { cls := .type "enumerate", data := .fields #[.none, .bool false, .ref s.heap.objs.size, rawInt 0, .none, .none] }) (s.heap.objs.size + 1) s.heap.objs.size 0 .none := by
    have := Heap.get?_push_size (s.heap.push { cls := .type "tuple_iterator", data := .fields #[.ref l, .int 0 0] })
      (o := { cls := .type "enumerate", data := .fields #[.none, .bool false, .ref s.heap.objs.size, rawInt 0, .none, .none] }) rfl
    rw [hz] at this; exact this
  refine ⟨⟨_, he, rfl⟩, h _ he ⟨_, Heap.get?_push_of_some _ (Heap.get?_push_size _ rfl), rfl, rfl⟩ (by rw [Heap.size_push, hz]) fun b o x => Heap.get?_push_of_some _ (Heap.get?_push_of_some _ x)⟩
def ItU (K : PySem.W.Frag) (a : Addr) : It :=
  ⟨fun i H => ∃ (xs : List V) (x : V), SqT K H a xs ∧ xs[i]? = some x, fun i H v H' => ∃ T x, v = .ref T ∧ H T = none ∧ H' = upd H T (.tup [.int (i : Nat), x]) ∧ ∀ xs, SqT K H a xs → xs[i]? = some x, fun i H => ∃ xs : List V, SqT K H a xs ∧ xs.length ≤ i⟩
theorem turn_enumT {P : Program} {w : World} {K : PySem.W.Frag} {elts : List Expr} {kk : Nat} {tpos : Pos} (a e it : Addr) :
    Turn P w K (.Tuple elts kk tpos) (ItU K a) [e, it] e (fun i h => (∃ old, IsEnum h e it ((i : Nat) : Int) old) ∧ h.IsTupleIter it a i ∧ e ≠ it) where
  mem := by simp
  obj := fun i h st b hb => by
    obtain ⟨⟨old, he⟩, ⟨o, ho, hc, hd⟩, _⟩ := st
    have e' : b = e ∨ b = it := by simpa using hb
    rcases e' with z | z
    · rw [z]; exact ⟨_, he, fun v q => nomatch q⟩
    · rw [z]; exact ⟨o, ho, fun v q => by rw [hd] at q; cases q⟩
  keep := fun i h h' st k => let ⟨⟨old, he⟩, hi, hne⟩ := st; ⟨⟨old, k e (by simp) _ he⟩, hi.at fun o q => k it (by simp) o q, hne⟩
  item := by
    intro X hP hw hK hc i pins s σ H E I hf st hg
    subst hP hw hK
    obtain ⟨⟨old, he⟩, hit, hne⟩ := st
    obtain ⟨xs, x, hq, hx⟩ := hg
    obtain ⟨its, rv, p, hz⟩ := I.tuple hq
    obtain ⟨u, hu, ru⟩ := rv.get hx
    have hel : e < s.heap.objs.size := Heap.lt_size he
    have hil : it < s.heap.objs.size := by obtain ⟨_, q, _⟩ := hit; exact Heap.lt_size q
    have hai : a ≠ it := fun z => by
      subst z
      obtain ⟨_, q, c1, _⟩ := hit
      obtain ⟨_, q2, c2, _⟩ := p
      rw [q] at q2
      cases q2
      rw [c1] at c2
      exact absurd (Value.type.inj c2) (by decide)
    have hae : a ≠ e := fun z => by
      subst z
      obtain ⟨_, q2, c2, _⟩ := p
      have he' := he
      unfold IsEnum at he'
      rw [he'] at q2
      cases q2
      exact absurd (Value.type.inj c2) (by decide)
    have hlt : i < its.toArray.size := by
      have h1 : its[i]? = some u := hu
      have := (List.getElem?_eq_some_iff.mp h1).1
      simpa using this
    have hd0 : X.A.in1.handled = none := I.ok.hd hc
    refine wpAny_pyNext_enum_itemD (Draws.tuple hd0 it a hai its.toArray) he ⟨hit, p⟩ hlt hne (by simp [hne, Ne.symm hae]) fun u' h' tk hp' ho hst' hT hsz hk => ?_
    have eu : u' = u := by
      have h1 : its[i]? = some u := hu
      have h2 : its.toArray[i]? = some u' := hp'
      rw [List.getElem?_toArray, h1] at h2
      exact (Option.some.inj h2).symm
    subst eu
    refine ⟨_, rfl, wpAny_letOwnedTupleGo_enum (s := { s with heap := h', toks := tk + 1 }) ho fun h'' he' sb => ?_⟩
    have hT2 : h''.get? s.heap.objs.size = some { cls := .type "tuple", data := .seq #[.int i tk, u'] } := (sb.2 _ (Nat.ne_of_gt hel)).trans hT
    have new : ObjOk X.prog X.w (upd H s.heap.objs.size (.tup [.int (i : Nat), x])) h'' s.heap.objs.size (.tup [.int (i : Nat), x]) :=
      ⟨by show 2 ≤ sizeLine; decide, [.int i tk, u'], .cons ⟨_, rfl⟩ (.cons ru .nil), ⟨_, hT2, rfl, _, rfl⟩⟩
    have I1 : Inv X pins σ (upd H s.heap.objs.size (.tup [.int (i : Nat), x])) { s with heap := h'', toks := tk + 1 } :=
      I.turnedNew (ch := [e, it]) (fun b ob hb q => (sb.2 b (fun z => hb (by simp [z]))).trans (hk b ob (fun z => hb (by simp [z])) (fun z => hb (by simp [z])) q)) hf (Nat.le_refl _) new
    refine ⟨.ref s.heap.objs.size, _, I1, rfl, ⟨_, x, rfl, I.hok.fresh (Nat.le_refl _), rfl, fun ys hy => by rw [I.tuple_inj hy hq]; exact hx⟩, ⟨⟨u', ?_⟩, hst'.1.at fun o q => (sb.2 it (Ne.symm hne)).trans q, hne⟩, fun b hb => ?_⟩
    · have e1 : ((i + 1 : Nat) : Int) = (i : Int) + 1 := by omega
      rw [e1]; exact he'
    · have hb' : b < s.heap.objs.size := by
        have e' : b = e ∨ b = it := by simpa using hb
        rcases e' with z | z
        · rw [z]; exact hel
        · rw [z]; exact hil
      rw [upd_ne (Nat.ne_of_lt hb')]
      exact (hf b hb).1
  done := by
    intro X hP hw hK hc i pins s σ H E I hf st hg
    subst hP hw hK
    obtain ⟨⟨old, he⟩, hit, hne⟩ := st
    obtain ⟨xs, hq, hx⟩ := hg
    obtain ⟨its, rv, p, hz⟩ := I.tuple hq
    obtain ⟨f0, f1, f2, f3, f4, f5⟩ := hf it (by simp)
    have hl := rv.length
    have hd0 : X.A.in1.handled = none := I.ok.hd hc
    have hT : s.TypeIs (.ref e) "enumerate" := ⟨_, he, rfl⟩
    unfold pyNext
    refine wpAny_bind (wpAny_attempt (wpAny_callSpecial?_slot (name := Str.ofString "__next__") hT F.slot_enumerate_next
      (wpAny_call_entry F.slot_enumerate_next hT F.entry_enumerate_next ?_ (F.args_enumerate_next_1 _))))
    show wpAny _ _ (field (.ref e) 2 >>= _) _ _ _
    refine wpAny_bind (wpAny_field he rfl (x := .ref it) rfl ?_)
    refine wpAny_bind (wpAny_nextOf_tuple_end hd0 hit p (by simp; omega) fun h' x he' hx' => ?_)
    obtain ⟨o, ho, hc⟩ := hx'
    refine wpAny_bind (wpAny_isInstance (T := "StopIteration") (b := true) ⟨o, ho, hc⟩ isSubtype_stop ?_)
    exact wpAny_pure ⟨rfl, I.turned (t' := s.toks) (fun b o hb q => he' b o hb q) f0 f1 f3 f4 f5⟩
  self := fun A i s Q E st h => let ⟨⟨_, he⟩, _⟩ := st; wpAny_pyIter_enum he h
def iEnumT (K : PySem.W.Frag) (ta : TA) : TI := fun σ H R => ta σ H fun vs H1 => ∃ a xs, vs = [.ref a] ∧ SqT K H1 a xs ∧ R (ItU K a) H1
theorem pi_enumT {X : Cx} {e : Expr} {ta : TA} {p pos tpos : Pos} {elts : List Expr} {kk : Nat} (hg : Gl X "enumerate") (hm : X.mg "enumerate" = none) (ha : PA X [e] ta) (hs : starEach [e] X.env = [(false, eval e X.env)] := by rfl) :
    PI X (.Tuple elts kk tpos) (.Call (.Name "enumerate" p) [e] [] pos) (iEnumT X.K ta) := by
  refine ⟨fun pins s σ H R I h => ?_⟩
  refine Call_ (ld_blt I hg hm boot_enumerate (PyProof.Rows.callWith_type1 (thn (ha.run pos pins s σ H _ I h) fun us s1 ⟨vs, H1, I1, r1, q1⟩ => ?_) hs rfl))
  obtain ⟨a, xs, ex, hq, q⟩ := q1
  subst ex
  cases r1 with
  | cons r rr =>
    cases rr
    cases r
    obtain ⟨its, rv, p', hz⟩ := I1.tuple hq
    refine call_enum_tuple p' fun h' he hit hsz hk => wpAny_pyIter_enum he ?_
    have I2 : Inv X pins σ H1 { s1 with heap := h' } := I1.kept (t' := s1.toks) hk
    refine ⟨s1.heap.objs.size + 1, [s1.heap.objs.size + 1, s1.heap.objs.size], _, _, H1, rfl, I2, turn_enumT a (s1.heap.objs.size + 1) s1.heap.objs.size, ⟨⟨.none, he⟩, hit, Nat.succ_ne_self _⟩, fun b hb => ?_, q⟩
    have e' : b = s1.heap.objs.size + 1 ∨ b = s1.heap.objs.size := by simpa using hb
    have hle : s1.heap.objs.size ≤ b := by
      rcases e' with z | z
      · rw [z]; exact Nat.le_add_right _ _
      · rw [z]; exact Nat.le_refl _
    exact I1.fpOk hle (I1.hok.fresh hle)
theorem walk_enumT {K : PySem.W.Frag} {a : Addr} {xs : List V} : Walk (ItU K a) xs.length (fun H => SqT K H a xs) (YPair (fun i => some (.int (i : Nat))) (fun i => xs[i]?)) := by
  refine ⟨fun i _ hi q => ⟨xs, xs[i], q, by simp [hi]⟩, fun _ q => ⟨xs, q, Nat.le_refl _⟩, fun i H v H' _ q y => ?_⟩
  obtain ⟨T, x, h1, h2, h3, h4⟩ := y
  exact ⟨T, .int (i : Nat), x, h1, h2, h3, rfl, h4 xs q⟩
/-! ### small words -/
section
variable {K : PySem.W.Frag} {σ : L2.St} {H H' : Hp} {ta tb te tl : TE} {vs : List V} {v : V} {d0 d1 d2 d3 d4 : PyData}
theorem dt_int {i : Int} (h : Dt K H v (.int i)) : v = .int i := by cases h; rfl
theorem dt_bool {b : Bool} (h : Dt K H v (.bool b)) : v = .bl b := by cases h; rfl
theorem dta0 (h : DtAll K H vs []) : vs = [] := by cases h; rfl
theorem dta1 (h : DtAll K H vs [d0]) : ∃ v0, vs = [v0] ∧ Dt K H v0 d0 := by
  cases h with
  | cons h0 h => rw [dta0 h]; exact ⟨_, rfl, h0⟩
theorem dta2 (h : DtAll K H vs [d0, d1]) : ∃ v0 v1, vs = [v0, v1] ∧ Dt K H v0 d0 ∧ Dt K H v1 d1 := by
  cases h with
  | cons h0 h => obtain ⟨v1, rfl, h1⟩ := dta1 h; exact ⟨_, _, rfl, h0, h1⟩
theorem dta3 (h : DtAll K H vs [d0, d1, d2]) : ∃ v0 v1 v2, vs = [v0, v1, v2] ∧ Dt K H v0 d0 ∧ Dt K H v1 d1 ∧ Dt K H v2 d2 := by
  cases h with
  | cons h0 h => obtain ⟨v1, v2, rfl, h1⟩ := dta2 h; exact ⟨_, _, _, rfl, h0, h1⟩
theorem dta4 (h : DtAll K H vs [d0, d1, d2, d3]) : ∃ v0 v1 v2 v3, vs = [v0, v1, v2, v3] ∧ Dt K H v0 d0 ∧ Dt K H v1 d1 ∧ Dt K H v2 d2 ∧ Dt K H v3 d3 := by
  cases h with
  | cons h0 h => obtain ⟨v1, v2, v3, rfl, h1⟩ := dta3 h; exact ⟨_, _, _, _, rfl, h0, h1⟩
theorem rv_eqI {i j : Int} : RV rEq (.int i) (.int j) H (.bl (decide (i = j))) := by rw [← dec_int]; exact rv_eq rfl
theorem rv_neI {i j : Int} : RV rNe (.int i) (.int j) H (.bl (!decide (i = j))) := by rw [← dec_int]; exact rv_ne rfl
theorem dec_bl (a b : Bool) : decide (V.bl a = V.bl b) = (a == b) := by
  cases a <;> cases b <;> rfl
theorem rv_eqB {a b : Bool} : RV rEq (.bl a) (.bl b) H (.bl (a == b)) := by rw [← dec_bl]; exact rv_eq rfl
theorem rv_neB {a b : Bool} : RV rNe (.bl a) (.bl b) H (.bl (!(a == b))) := by rw [← dec_bl]; exact rv_ne rfl
theorem ev_inI {x : Int} {l : List Int} (ha : Ev ta σ H (.int x)) (hb : EvD K tb σ H (lotD l)) : Ev (tOp (rIn K false) ta tb) σ H (.bl (l.contains x)) := fun H1 e Q q =>
  ha H1 e _ fun H2 e2 => hb H2 (e.trans e2) _ fun w H3 e3 hw => by
    obtain ⟨a, rfl, hs⟩ := dt_lot hw
    rw [← inV_ints] at q
    exact rv_isT hs rfl (flat_ints l) H3 (Ex.refl _) Q fun H4 e4 => q H4 ((e2.trans e3).trans e4)
theorem ev_niI {x : Int} {l : List Int} (ha : Ev ta σ H (.int x)) (hb : EvD K tb σ H (lotD l)) : Ev (tOp (rIn K true) ta tb) σ H (.bl (!l.contains x)) := fun H1 e Q q =>
  ha H1 e _ fun H2 e2 => hb H2 (e.trans e2) _ fun w H3 e3 hw => by
    obtain ⟨a, rfl, hs⟩ := dt_lot hw
    rw [← inV_ints] at q
    exact rv_niT hs rfl (flat_ints l) H3 (Ex.refl _) Q fun H4 e4 => q H4 ((e2.trans e3).trans e4)
theorem ed_if {t : TT} {b : Bool} {d : PyData} (h : EvT t σ H b) (h1 : b = true → EvD K ta σ H d) (h2 : b = false → EvD K tb σ H d) : EvD K (tIf t ta tb) σ H d := fun H1 e Q q => h H1 e _ fun H2 e2 => by
  cases b with
  | true => exact iteT (h1 rfl H2 (e.trans e2) Q fun v H3 e3 => q v H3 (e2.trans e3))
  | false => exact iteF (h2 rfl H2 (e.trans e2) Q fun v H3 e3 => q v H3 (e2.trans e3))
theorem ev_lenI {l : List Int} (ha : EvD K ta σ H (lotD l)) : Ev (tCB (rLenS K) (tCons ta tNil)) σ H (.int (l.length : Int)) := by
  have := ev_lenT (K := K) (ds := l.map PyData.int) ha
  rw [List.length_map] at this
  exact this
theorem ed_catI {l r : List Int} (ha : EvD K ta σ H (lotD l)) (hb : EvD K tb σ H (lotD r)) (hl : l.length + r.length ≤ 1000) : EvD K (tOp (rCatA K) ta tb) σ H (lotD (l ++ r)) := by
  refine ed_is (ed_cat ha hb ?_) ?_
  · rw [List.length_map, List.length_map]; omega
  · unfold lotD; rw [List.map_append]
theorem s_drop' {D : Ends} (h : Ev te σ H v) (k : ∀ H1, Ex H H1 → D.nx σ H1) : tDrop te D σ H := s_drop h k
/-- over enumerate(tuple) -/
theorem ef_lcET {ds : List PyData} {j0 j1 : Nat} {vs : List Nat} (g : Nat → PyData → PyData) (h : EvD K tl σ H (.tuple ds)) (hz : ds.length < 50000) (hw : ∀ x y, wipe (((wipe σ vs).set j0 (some x)).set j1 (some y)) vs = wipe σ vs)
    (he : ∀ (i : Nat) (d : PyData) (x : V) H1, Ex H H1 → ds[i]? = some d → Dt K H1 x d → EvD K te (((wipe σ vs).set j0 (some (.int (i : Int)))).set j1 (some x)) H1 (g i d)) :
    EvF K (tLc (iEnumT K (tCons tl tNil)) (gTup K 2 (gCons (gName j0) (gCons (gName j1) gNil))) tYes te vs) σ H (ds.mapIdx g) := fun H0 e Q q => h H0 e _ fun v H1 e1 hv => by
  cases hv with
  | tup hx hd =>
    rename_i a xs
    refine ⟨a, xs, rfl, hx, fun Dl hD => lc_it (walk_enumT (K := K) (a := a) (xs := xs)) (fun i H' => Cd K H1 Dl ((ds.mapIdx g).take i) H') ⟨hD, Ex.new hD, [], upd_same, .nil⟩ (fun i H' _ p => ex_t p.2.1 hx) (fun i x H' H'' hi p hy => ?_) (fun H' p => ?_)⟩
    · obtain ⟨T, x1, x2, rfl, nT, rfl, g1, g2⟩ := hy
      cases Option.some.inj g1
      obtain ⟨p1, p2, acc, p3, p4⟩ := p
      have eT : Ex H' (upd H' T (.tup [.int (i : Nat), x2])) := Ex.new nT
      obtain ⟨d, h1, h2⟩ := dta_get (dta_ex p2 hd) g2
      refine ⟨T, _, rfl, st_of upd_same, rfl, _, _, rfl, _, _, rfl, rfl, hw _ _, ?_⟩
      refine tyes_go' ?_
      refine he i d x2 _ (((e.trans e1).trans p2).trans eT) h1 (dt_ex eT h2) _ (Ex.refl _) _ fun y H4 e4 hy => ?_
      have p3' := e4 Dl _ (eT Dl _ p3)
      refine ⟨acc, p3', sz_lt ?_, p1, Ex.mut ((p2.trans eT).trans e4) p1, _, upd_same, ?_⟩
      · have := dta_len p4
        rw [List.length_take, List.length_mapIdx] at this
        omega
      · rw [List.take_add_one, List.getElem?_mapIdx, h1]
        exact dta_tx (tx_lst p3') (dta_app (dta_ex (eT.trans e4) p4) (dta_one hy))
    · obtain ⟨p1, p2, acc, p3, p4⟩ := p
      have e5 : (ds.mapIdx g).take xs.length = ds.mapIdx g := List.take_of_length_le (by rw [List.length_mapIdx, dta_len hd]; exact Nat.le_refl _)
      rw [e5] at p4
      exact q Dl acc H' (fresh_back e1 p1) (e1.trans p2) p3 p4
end
theorem pe_bmK {X : Cx} {K : PySem.W.Frag} {T id : String} {name : Str} {r : V → List V → Hp → VK → Prop} {o : Expr} {to : TE} {e : Expr} {es : List Expr} {t : TA} {apos cpos : Pos} (hK : X.K = K) (pa : PlainAttrs T) (slot : Slot T name id) (hty : typeOf (.builtin id) = pure (.type "method_descriptor")) (hm : MtR X id r) (ho : PE X o to) (ha : PA X (e :: es) t)
    (hbase : attributeBase o name X.env (eval o X.env) = eval o X.env := by rfl)
    (hfew : ((backTo cpos (starEach (e :: es) X.env)).all (fun x => !x.1) && (backToKw cpos (keywordEach [] X.env)).all (fun x => x.1.isSome)
      && decide ((e :: es).length + ([] : List Keyword).length + (if ([] : List Keyword).isEmpty then 0 else 1) < 30)) = true := by rfl)
    (hline : (apos.endLine == cpos.line) = true := by rfl) (hs : starEach (e :: es) X.env = (false, eval e X.env) :: starEach es X.env := by rfl) (hplain : (backTo cpos (starEach es X.env)).any (·.1) = false := by rfl) :
    PE X (.Call (.Attribute o name apos) (e :: es) [] cpos) (tBM K T r to t) := by
  subst hK
  exact pe_bm pa slot hty hm ho ha hbase hfew hline hs hplain
section
variable {K : PySem.W.Frag}
theorem et_truL {σ : L2.St} {H : Hp} {te : TE} {p : Addr} {xs : List V} (h : Ev te σ H (.ref p)) (hs : SqL K H p xs) : EvT (fun σ H Q => te σ H fun x H' => ∃ k, TruV K x H' k ∧ Q k H') σ H (!xs.isEmpty) := fun H1 e _ q =>
  h H1 e _ fun H2 e2 => ⟨_, .inl ⟨xs, ex_l (e.trans e2) hs, rfl⟩, q H2 e2⟩
theorem et_truT {σ : L2.St} {H : Hp} {te : TE} {ds : List PyData} (h : EvD K te σ H (.tuple ds)) : EvT (fun σ H Q => te σ H fun x H' => ∃ k, TruV K x H' k ∧ Q k H') σ H (!ds.isEmpty) := fun H1 e _ q =>
  h H1 e _ fun v H2 e2 hv => by
    cases hv with
    | tup hs hx =>
      refine ⟨_, .inr (.inl ⟨_, hs, rfl⟩), ?_⟩
      cases hx with
      | nil => exact q H2 e2
      | cons _ _ => exact q H2 e2
theorem s_appD {D : Ends} {σ : L2.St} {H : Hp} {ta te : TE} {l : Addr} {xs : List V} {d : PyData} (hl : H l = some (.lst xs)) (ha : Ev ta σ H (.ref l)) (h : EvD K te σ H d) (hz : xs.length < 100000) (k : ∀ v H1, Ex H H1 → Dt K H1 v d → D.nx σ (upd H1 l (.lst (xs ++ [v])))) :
    tDrop (tBM K "list" rAppend ta (tCons te tNil)) D σ H := ha H (Ex.refl H) _ fun H1 e1 =>
  ⟨Or.inl ⟨rfl, xs, sq_of (e1 l _ hl)⟩, h H1 e1 _ fun v H2 e2 hv => ⟨l, xs, v, rfl, rfl, e2 l _ (e1 l _ hl), sz_lt hz, k v H2 (e1.trans e2) hv⟩⟩
theorem q_appD {D : Ends} {σ : L2.St} {H : Hp} {ta te : TE} {tz : TS} {l : Addr} {xs : List V} {d : PyData} (hl : H l = some (.lst xs)) (ha : Ev ta σ H (.ref l)) (h : EvD K te σ H d) (hz : xs.length < 100000) (k : ∀ v H1, Ex H H1 → Dt K H1 v d → tz D σ (upd H1 l (.lst (xs ++ [v])))) :
    tSeq (tDrop (tBM K "list" rAppend ta (tCons te tNil))) tz D σ H := s_appD (D := { D with nx := tz D }) hl ha h hz k
end
section
variable {K : PySem.W.Frag} {σ : L2.St} {H : Hp} {ta tb : TE} {ds es : List PyData}
theorem ev_neFL {a : Addr} {ys : List V} (ha : EvF K ta σ H ds) (hb : Ev tb σ H (.ref a)) (hs : SqL K H a ys) (hy : DtAll K H ys es) (sd : SeqAt.shaped (.list ds) = true) (se : SeqAt.shaped (.list es) = true) : Ev (tOp (rNeD K) ta tb) σ H (.bl (!PyData.eqv (.list ds) (.list es))) := fun H1 e1 Q q =>
  ha H1 e1 _ fun p xs H2 _ e2 hp hx => hb H2 (e1.trans e2) _ fun H3 e3 => ⟨_, _, .lst (sq_of (e3 p _ hp)) (dta_dp (dta_ex e3 hx)), .lst (ex_l ((e1.trans e2).trans e3) hs) (dta_dp (dta_ex ((e1.trans e2).trans e3) hy)), sd, se, q H3 (e2.trans e3)⟩
theorem ev_eqFL {a : Addr} {ys : List V} (ha : EvF K ta σ H ds) (hb : Ev tb σ H (.ref a)) (hs : SqL K H a ys) (hy : DtAll K H ys es) (sd : SeqAt.shaped (.list ds) = true) (se : SeqAt.shaped (.list es) = true) : Ev (tOp (rEqD K) ta tb) σ H (.bl (PyData.eqv (.list ds) (.list es))) := fun H1 e1 Q q =>
  ha H1 e1 _ fun p xs H2 _ e2 hp hx => hb H2 (e1.trans e2) _ fun H3 e3 => ⟨_, _, .lst (sq_of (e3 p _ hp)) (dta_dp (dta_ex e3 hx)), .lst (ex_l ((e1.trans e2).trans e3) hs) (dta_dp (dta_ex ((e1.trans e2).trans e3) hy)), sd, se, q H3 (e2.trans e3)⟩
theorem ev_neLF {a : Addr} {xs : List V} (ha : Ev ta σ H (.ref a)) (hs : SqL K H a xs) (hx : DtAll K H xs ds) (hb : EvF K tb σ H es) (sd : SeqAt.shaped (.list ds) = true) (se : SeqAt.shaped (.list es) = true) : Ev (tOp (rNeD K) ta tb) σ H (.bl (!PyData.eqv (.list ds) (.list es))) := fun H1 e1 Q q =>
  ha H1 e1 _ fun H2 e2 => hb H2 (e1.trans e2) _ fun r ys H3 _ e3 hr hy => ⟨_, _, .lst (ex_l ((e1.trans e2).trans e3) hs) (dta_dp (dta_ex ((e1.trans e2).trans e3) hx)), .lst (sq_of hr) (dta_dp hy), sd, se, q H3 (e2.trans e3)⟩
end
section
variable {K : PySem.W.Frag}
theorem q_parFF {σ : L2.St} {H : Hp} {D : Ends} {tz : TS} {ta tb : TE} {i j : Nat} {ds es : List PyData} (h1 : EvF K ta σ H ds) (h2 : ∀ H1, Ex H H1 → EvF K tb σ H1 es) (k : ∀ p xs q ys H2, Ex H H2 → H2 p = some (.lst xs) → DtAll K H2 xs ds → H2 q = some (.lst ys) → DtAll K H2 ys es → tz D ((σ.set i (some (.ref p))).set j (some (.ref q))) H2) : tSeq (tPar i j (tCons ta (tCons tb tNil))) tz D σ H :=
  h1 H (Ex.refl H) _ fun p xs H1 np e1 hp hx => h2 H1 e1 H1 (Ex.refl H1) _ fun q ys H2 nq e2 hq hy => ⟨.ref p, .ref q, rfl, k p xs q ys H2 (e1.trans e2) (e2 p _ hp) (dta_ex e2 hx) hq hy⟩
theorem bools_shaped (a b : Bool) : SeqAt.shaped (.list [.bool a, .bool b]) = true := by cases a <;> cases b <;> decide +kernel
theorem ef_catLL {σ : L2.St} {H : Hp} {ta tb : TE} {p r : Addr} {xs ys : List V} {ds es : List PyData} (ha : Ev ta σ H (.ref p)) (hp : H p = some (.lst xs)) (hx : DtAll K H xs ds) (hb : Ev tb σ H (.ref r)) (hr : H r = some (.lst ys)) (hy : DtAll K H ys es) (hl : ds.length + es.length ≤ 100000) : EvF K (tOp rCat ta tb) σ H (ds ++ es) := fun H1 e Q q =>
  ha H1 e _ fun H2 e2 => hb H2 (e.trans e2) _ fun H3 e3 =>
    ⟨_, _, _, _, rfl, rfl, ((e.trans e2).trans e3) p _ hp, ((e.trans e2).trans e3) r _ hr, sz_of (by rw [dta_len hx, dta_len hy]; exact hl), fun n hn =>
      q n _ _ (fresh_back (e2.trans e3) hn) ((e2.trans e3).trans (Ex.new hn)) upd_same (dta_ex (Ex.new hn) (dta_app (dta_ex ((e.trans e2).trans e3) hx) (dta_ex ((e.trans e2).trans e3) hy)))⟩
theorem ev_intB {σ : L2.St} {H : Hp} {te : TE} {b : Bool} (h : Ev te σ H (.bl b)) : Ev (tCB (fun xs H Q => (∃ i, xs = [.int i] ∧ Q (.int i) H) ∨ ∃ k, xs = [.bl k] ∧ Q (.int (if k then 1 else 0)) H) (tCons te tNil)) σ H (.int (if b then 1 else 0)) := fun H1 e Q q => h H1 e _ fun H2 e2 => .inr ⟨b, rfl, q H2 e2⟩
end
section
variable {K : PySem.W.Frag}
theorem ev_sumF {σ : L2.St} {H : Hp} {ta : TE} {ns : List Int} (ha : EvF K ta σ H (ns.map PyData.int)) : Ev (tCB (rSum K) (tCons ta tNil)) σ H (.int ns.sum) := fun H1 e Q q =>
  ha H1 e _ fun p xs H2 _ e2 hp hx => ⟨p, ns, rfl, sq_of (by rw [dta_ints_inv hx] at hp; exact hp), q H2 e2⟩
end
/-! ### the program's curves and lots -/
theorem free_of {cells : List (Str × Addr)} {names : List (Str × NameKind)} (h : (names.all fun y => !(decide (y.2 = .free)) || (cells.lookup y.1).isSome) = true) : ∀ y ∈ names, y.2 = .free → ∃ c, cells.lookup y.1 = some c := fun y hy e => by
  have q := List.all_eq_true.mp h y hy
  rw [decide_eq_true e] at q
  exact Option.isSome_iff_exists.mp q
theorem tyx_ex {K : PySem.W.Frag} {H H' : Hp} {v : V} {t : String} (e : Ex H H') (ty : TyX K H v (.type t)) : TyX K H' v (.type t) := by
  cases ty with
  | base b =>
    cases b with
    | non => exact .base .non
    | bl x => exact .base (.bl x)
    | int i => exact .base (.int i)
    | str x => exact .base (.str x)
    | flt x => exact .base (.flt x)
    | lst h => exact .base (.lst (e _ _ h))
    | frz h => exact .base (.frz (e _ _ h))
    | tup h => exact .base (.tup (e _ _ h))
    | dK h => exact .base (.dK (e _ _ h))
    | dT h => exact .base (.dT (e _ _ h))
  | byt b => exact .byt b
  | set h => exact .set (e _ _ h)
  | kList h c => exact .kList h c
  | kTuple h c => exact .kTuple h c
  | kDict h c => exact .kDict h c
  | fTuple h => exact .fTuple (e _ _ h)
  | fDict h => exact .fDict (e _ _ h)
theorem ty_sqt {K : PySem.W.Frag} {H : Hp} {a : Addr} {xs : List V} (h : SqT K H a xs) : TyX K H (.ref a) (.type "tuple") := by
  rcases h with (h | ⟨o, h⟩) | ⟨o, its, n, hk, hc, _⟩
  · exact .base (.tup h)
  · exact .fTuple h
  · exact .kTuple hk hc
def risingL (ns : List Int) : Bool := (List.range (min ns.length (ns.drop 1).length)).all fun i => decide (ns.getD i 0 < (ns.drop 1).getD i 0)
def curve2 : V → V → Bool
  | .int m, .int d => decide (1 ≤ d) && decide (d ≤ 6) && (decide (d < m) && decide (m ≤ 9))
  | _, _ => false
def curveB : List V → Bool
  | [x, y] => curve2 x y
  | _ => false
def okC (m d : Int) : Prop := 1 ≤ d ∧ d ≤ 6 ∧ d < m ∧ m ≤ 9
theorem cut1 (xs : List V) : cutV xs (some 1) none = xs.drop 1 := by
  unfold cutV
  rw [show HT.sIx xs.length 0 (some 1) = min 1 xs.length from HT.sIx_nat xs.length 0 1, HT.sIx_none]
  cases xs with
  | nil => rfl
  | cons x r =>
    rw [show min 1 (x :: r).length = 1 by rw [List.length_cons]; omega]
    show List.take ((x :: r).length - 1) r = r
    rw [List.length_cons, Nat.add_sub_cancel, List.take_length]
section
variable {P : Program} {w : World} {K : PySem.W.Frag} {mg : Str → Option Value} {base : Heap}
/-- what a thing is handed in as: its type, its items' types where it is a tuple -/
def Typed (K : PySem.W.Frag) (H : Hp) (v : V) : Prop := ∃ t, t ∈ tyNames ∧ TyX K H v (.type t)
theorem Typed.ex {H H' : Hp} {v : V} (e : Ex H H') (h : Typed K H v) : Typed K H' v := by
  obtain ⟨t, ht, h⟩ := h
  exact ⟨t, ht, tyx_ex e h⟩
theorem typed_int {H : Hp} {i : Int} : Typed K H (.int i) := ⟨"int", by decide, .base (.int i)⟩
theorem ev_wholeT {σ : L2.St} {H : Hp} {te : TE} {v : V} {E : XK} (h : Ev te σ H v) (ht : Typed K H v) : ∃ b, (b = true ↔ ∃ i, v = .int i) ∧ Ev (tCall (spWhole K) [] E (tCons te tNil)) σ H (.bl b) := by
  obtain ⟨t, h1, h2⟩ := ht
  refine ⟨t == "int", ⟨fun e => ty_int_inv h2 (eq_of_beq e), fun e => ?_⟩, ev_whole h h1 fun H1 e => tyx_ex e h2⟩
  obtain ⟨i, rfl⟩ := e
  rw [ty_of_int h2]
  rfl
end
section
variable {P : Program} {w : World} {K : PySem.W.Frag} {mg : Str → Option Value} {base : Heap}
/-! is_curve -/
def ThC (K : PySem.W.Frag) (H : Hp) (v : V) (b : Bool) : Prop := (∃ t, t ∈ tyNames ∧ t ≠ "tuple" ∧ TyX K H v (.type t) ∧ b = false) ∨ ∃ a xs, v = .ref a ∧ SqT K H a xs ∧ (∀ y ∈ xs, Typed K H y) ∧ b = curveB xs
def spIsC (K : PySem.W.Frag) : Sp := fun vs H Q _ => ∃ (v : V) (b : Bool), vs = [v] ∧ ThC K H v b ∧ ∀ H2, Ex H H2 → Q (.bl b) H2
def tupGood : Bool := tyNames.all fun t => decide (kitB t "tuple" = some (t == "tuple"))
theorem tup_good : tupGood = true := by decide +kernel
theorem ty_tup {t : String} (h : t ∈ tyNames) : kitB t "tuple" = some (t == "tuple") := of_decide_eq_true (List.all_eq_true.mp tup_good t h)
theorem okk_is_curve {f fw : Addr} {fd fdw : FuncData} {k : Nat} {t1 t2 : Tok} (D : Df K mg "is_curve" s_is_curve ["thing"] f fd) (D_is_whole : Df K mg "is_whole" s_is_whole ["thing"] fw fdw) (B : Bt mg) (c_MOST_DEEP : mg "MOST_DEEP" = some (.int 6 t1)) (c_MOST_CORNERS : mg "MOST_CORNERS" = some (.int 9 t2)) : FnOk P w K mg base CX0 (k + 2) f fd ["thing"] (spIsC K) := by
  have G_is_whole : FnOk P w K mg base CX0 (k + 1) fw fdw ["thing"] (spWhole K) := okk_is_whole D_is_whole B
  refine D.F.ok sc_is_curve (fun vs H Q E h => ?_) (fun cdv A outer s H vs Q E hr h => ?_)
  · obtain ⟨a, ns, rfl, _⟩ := h
    rfl
  · obtain ⟨v, b, rfl, hv, q⟩ := h
    refine ⟨_, (pss_cons (ps_if (PW.pt (pw_or (pt_not (pt_val (pe_callB (show CallR _ _ (rIsi K) from call_isi) (by rfl) B.isinstance_ (by decide +kernel) (pa_cons (pv 0) (pa_cons (pe_bltn (v := .ty "tuple") (by rfl) B.tuple_ (by decide +kernel) rfl) pa_nil))))) (pw_or1 (pt_cmpR op_ne (pe_callB (show CallR _ _ (rLenS K) from call_len_seq) (by rfl) B.len_ (by decide +kernel) (pa_cons (pv 0) pa_nil)) pe_int (nomark _)))))   (pss_one (ps_ret pe_bl))   pss_nil)  (pss_cons (ps_asg (pv 0) (pg_tup (by rfl) (pgs_cons (pg_name (i := 1) sc_is_curve.nd rfl (.inl rfl)) (pgs_cons (pg_name (i := 2) sc_is_curve.nd rfl (.inl rfl)) pgs_nil))))  (pss_cons (ps_if (PW.pt (pw_or (pt_not (pt_val (pe_call G_is_whole (hr.mono (by omega)) (by rfl) D_is_whole.g D_is_whole.F.kp D_is_whole.b .nil pass0 (pa_cons (pv 1) pa_nil)))) (pw_or1 (pt_not (pt_val (pe_call G_is_whole (hr.mono (by omega)) (by rfl) D_is_whole.g D_is_whole.F.kp D_is_whole.b .nil pass0 (pa_cons (pv 2) pa_nil)))))))   (pss_one (ps_ret pe_bl))   pss_nil)  (pss_one (ps_ret (pe_and (pe_chain op_le op_le pe_int (pv 2) (pe_glob (v := .int 6) rfl c_MOST_DEEP ⟨_, rfl⟩)) (pe_one (pe_chain op_lt op_le (pv 2) (pv 1) (pe_glob (v := .int 9) rfl c_MOST_CORNERS ⟨_, rfl⟩))))))))), ?_⟩
    rcases hv with ⟨t, ht, hnt, ty, rfl⟩ | ⟨a, xs, rfl, hS, hty, rfl⟩
    · have e0 : (t == "tuple") = false := beq_eq_false_iff_ne.mpr hnt
      refine q_when (b := true) (fun H1 e1 Q' q' => ?_) (fun _ H1 e1 => s_ret ev_c fun H2 e2 => q H2 (e1.trans e2)) (fun hb => by cases hb)
      refine (et_not (et_B (ev_isi (K := K) (ev_var rfl) ev_c (fun H2 e2 => tyx_ex e2 ty) (ty_tup ht)))) H1 e1 _ fun H2 e2 => ?_
      rw [e0]
      exact iteT (q' H2 e2)
    · by_cases h2 : xs.length = 2
      · obtain ⟨x, y, rfl⟩ : ∃ x y, xs = [x, y] := by
          match xs, h2 with
          | [x, y], _ => exact ⟨x, y, rfl⟩
        refine q_when (b := false) (et_is (et_or (et_not (et_B (ev_isi (K := K) (ev_var rfl) ev_c (fun H2 e2 => tyx_ex e2 (ty_sqt hS)) (ty_tup (t := "tuple") (by decide))))) (fun _ => et_test (ev_op (fun H1 e1 Q' q' => ⟨_, rfl, a, [x, y], rfl, .inr (ex_t e1 hS), q' H1 (Ex.refl H1)⟩) ev_c (rv_ne rfl)))) rfl) (fun hb => by cases hb) (fun _ H1 e1 => ?_)
        refine ⟨_, rfl, a, [x, y], rfl, ex_t e1 hS, rfl, _, _, rfl, _, _, rfl, rfl, ?_⟩
        obtain ⟨b1, hb1, w1⟩ := ev_wholeT (K := K) (σ := [some (.ref a), some x, some y]) (te := tVar 1) (E := E0) (ev_var rfl) ((hty x (by simp)).ex e1)
        obtain ⟨b2, hb2, w2⟩ := ev_wholeT (K := K) (σ := [some (.ref a), some x, some y]) (te := tVar 2) (E := E0) (ev_var rfl) ((hty y (by simp)).ex e1)
        refine q_when (et_or (et_not (et_B w1)) (fun _ => et_not (et_B w2))) (fun hb H2 e2 => ?_) (fun hb H2 e2 => ?_)
        · refine s_ret ev_c fun H3 e3 => ?_
          have hc : curveB [x, y] = false := by
            show curve2 x y = false
            cases x with
            | int i =>
              cases y with
              | int j =>
                rw [hb1.mpr ⟨i, rfl⟩, hb2.mpr ⟨j, rfl⟩] at hb
                cases hb
              | _ => rfl
            | _ => rfl
          rw [hc] at q
          exact q H3 ((e1.trans e2).trans e3)
        · have hb3 : b1 = true ∧ b2 = true := by
            cases b1 <;> cases b2 <;> first | exact ⟨rfl, rfl⟩ | cases hb
          obtain ⟨i, rfl⟩ := hb1.mp hb3.1
          obtain ⟨j, rfl⟩ := hb2.mp hb3.2
          refine s_ret (ev_andV (ev_chain ev_c (ev_var rfl) ev_c rv_I0 rv_I0) (fun _ => ev_chain (ev_var rfl) (ev_var rfl) ev_c rv_I0 rv_I0)) fun H3 e3 => ?_
          exact q H3 ((e1.trans e2).trans e3)
      · have hc : curveB xs = false := by
          match xs with
          | [] => rfl
          | [_] => rfl
          | [_, _] => exact absurd rfl h2
          | _ :: _ :: _ :: _ => rfl
        rw [hc] at q
        refine q_when (b := true) (et_is (et_or (et_not (et_B (ev_isi (K := K) (ev_var rfl) ev_c (fun H2 e2 => tyx_ex e2 (ty_sqt hS)) (ty_tup (t := "tuple") (by decide))))) (fun _ => et_test (ev_op (fun H1 e1 Q' q' => ⟨_, rfl, a, xs, rfl, .inr (ex_t e1 hS), q' H1 (Ex.refl H1)⟩) ev_c (rv_ne rfl)))) ?_) (fun _ H1 e1 => s_ret ev_c fun H2 e2 => q H2 (e1.trans e2)) (fun hb => by cases hb)
        rw [dec_int, decide_eq_false (show ¬ ((xs.length : Int) = 2) by omega)]
        rfl
end
section
variable {P : Program} {w : World} {K : PySem.W.Frag} {mg : Str → Option Value} {base : Heap}
/-! need_curve, of curves -/
def spNeedC (K : PySem.W.Frag) : Sp := fun vs H Q _ => ∃ (m d : Int), DtAll K H vs [curveD m d] ∧ okC m d ∧ ∀ H2, Ex H H2 → Q .non H2
theorem dt_curve {H : Hp} {v : V} {m d : Int} (h : Dt K H v (curveD m d)) : ∃ a, v = .ref a ∧ SqT K H a [.int m, .int d] := by
  cases h with
  | tup hs hx =>
    cases hx with
    | cons h1 h2 =>
      cases h1
      cases h2 with
      | cons h3 h4 =>
        cases h3
        cases h4
        exact ⟨_, rfl, hs⟩
theorem curveB_ok {m d : Int} (h : okC m d) : curveB [.int m, .int d] = true := by
  obtain ⟨h1, h2, h3, h4⟩ := h
  show (decide (1 ≤ d) && decide (d ≤ 6) && (decide (d < m) && decide (m ≤ 9))) = true
  rw [decide_eq_true h1, decide_eq_true h2, decide_eq_true h3, decide_eq_true h4]
  rfl
theorem okk_need_curve {f fc fw : Addr} {fd fdc fdw : FuncData} {k : Nat} {t1 t2 : Tok} (D : Df K mg "need_curve" s_need_curve ["curve"] f fd) (D_is_curve : Df K mg "is_curve" s_is_curve ["thing"] fc fdc) (D_is_whole : Df K mg "is_whole" s_is_whole ["thing"] fw fdw) (B : Bt mg) (c_MOST_DEEP : mg "MOST_DEEP" = some (.int 6 t1)) (c_MOST_CORNERS : mg "MOST_CORNERS" = some (.int 9 t2)) : FnOk P w K mg base CX0 (k + 3) f fd ["curve"] (spNeedC K) := by
  have G_is_curve : FnOk P w K mg base CX0 (k + 2) fc fdc ["thing"] (spIsC K) := okk_is_curve D_is_curve D_is_whole B c_MOST_DEEP c_MOST_CORNERS
  refine D.F.ok sc_need_curve (fun vs H Q E h => ?_) (fun cdv A outer s H vs Q E hr h => ?_)
  · obtain ⟨m, d, h, _⟩ := h
    rw [dta_len h]
    rfl
  · obtain ⟨m, d, h, hc, q⟩ := h
    cases h with
    | cons h1 h2 =>
    cases h2
    obtain ⟨a, rfl, hS⟩ := dt_curve h1
    refine ⟨_, (pss_one (ps_if (pt_not (pt_val (pe_call G_is_curve (hr.mono (by omega)) (by rfl) D_is_curve.g D_is_curve.F.kp D_is_curve.b .nil pass0 (pa_cons (pv 0) pa_nil))))   (pss_one ps_never)   pss_nil)), ?_⟩
    refine s_when (b := false) (et_not (et_B (b := true) (fun H1 e1 Q' q' => ⟨_, rfl, _, _, rfl, .inr ⟨a, _, rfl, ex_t e1 hS, ?_, (curveB_ok hc).symm⟩, fun H2 e2 => q' H2 e2⟩))) (fun hb => by cases hb) (fun _ H1 e1 => q H1 e1)
    intro y hy
    rcases List.mem_cons.mp hy with rfl | hy
    · exact typed_int
    rcases List.mem_cons.mp hy with rfl | hy
    · exact typed_int
    · cases hy
theorem ev_needC {σ : L2.St} {H : Hp} {te : TE} {m d : Int} {E : XK} (h : EvD K te σ H (curveD m d)) (hc : okC m d) : Ev (tCall (spNeedC K) [] E (tCons te tNil)) σ H .non := fun H1 e Q q =>
  h H1 e _ fun v H2 e2 hv => ⟨m, d, .cons hv .nil, hc, fun H3 e3 => q H3 (e2.trans e3)⟩
end
/-! ### all curves -/
def curvesAll : List (Int × Int) := (List.range 6).flatMap fun i => (List.range (8 - i)).map fun (j : Nat) => ((i : Int) + 2 + (j : Int), (i : Int) + 1)
theorem curve_mem {m d : Int} (h : okC m d) : (m, d) ∈ curvesAll := by
  obtain ⟨h1, h2, h3, h4⟩ := h
  refine List.mem_flatMap.mpr ⟨(d - 1).toNat, List.mem_range.mpr (by omega), List.mem_map.mpr ⟨(m - d - 1).toNat, List.mem_range.mpr (by omega), ?_⟩⟩
  refine Prod.ext ?_ ?_
  · show ((d - 1).toNat : Int) + 2 + ((m - d - 1).toNat : Int) = m
    omega
  · show ((d - 1).toNat : Int) + 1 = d
    omega
theorem curve_all {f : Int × Int → Bool} (h : curvesAll.all f = true) {m d : Int} (hc : okC m d) : f (m, d) = true := List.all_eq_true.mp h _ (curve_mem hc)
/-! ### a comprehension of two clauses: a list's items, for each a range -/
section
variable {K : PySem.W.Frag} {σ : L2.St} {H : Hp} {te tl : TE} {ds : List PyData}
theorem tyes_go {F G : Hp → Prop} (h : F H) : tYes σ H fun b H3 => if b = true then F H3 else G H3 := by
  show (if true = true then F H else G H)
  exact iteT h
theorem ef_lc2 {a : Addr} {xs : List V} {ta : TA} {j j1 : Nat} {vs vs1 : List Nat} (lo : PyData → Int) (hi : Int) (g : PyData → Int → PyData) (h : Ev tl σ H (.ref a)) (hx : SqL K H a xs) (hd : DtAll K H xs ds) (hz : (ds.flatMap fun d => (upTo (lo d) hi).map (g d)).length < 50000)
    (hw : ∀ x, wipe ((wipe σ vs).set j (some x)) vs = wipe σ vs) (hw1 : ∀ x y, wipe ((wipe ((wipe σ vs).set j (some x)) vs1).set j1 (some y)) vs1 = wipe ((wipe σ vs).set j (some x)) vs1)
    (hb : ∀ d ∈ ds, -10000 ≤ lo d ∧ lo d ≤ 10000 ∧ -10000 ≤ hi ∧ hi ≤ 10000)
    (ha : ∀ (d : PyData) (x : V) H1, Ex H H1 → d ∈ ds → Dt K H1 x d → EvA ta ((wipe σ vs).set j (some x)) H1 [.int (lo d), .int hi])
    (he : ∀ (d : PyData) (x : V) (i : Int) H1, Ex H H1 → d ∈ ds → Dt K H1 x d → EvD K te ((wipe ((wipe σ vs).set j (some x)) vs1).set j1 (some (.int i))) H1 (g d i)) :
    EvF K (tLc2 (iList K tl) (gName j) tYes (iRng2 ta) (gName j1) tYes te vs vs1) σ H (ds.flatMap fun d => (upTo (lo d) hi).map (g d)) := fun H0 e Q q => h H0 e _ fun H1 e1 => by
  have e01 := e.trans e1
  refine ⟨a, rfl, ⟨xs, ex_l e01 hx⟩, fun Dl hD => ⟨fun i n H' => n = xs.length - i ∧ i ≤ xs.length ∧ Cd K H1 Dl ((ds.take i).flatMap fun d => (upTo (lo d) hi).map (g d)) H', ⟨xs.length, by simp, Nat.zero_le _, hD, Ex.new hD, [], upd_same, .nil⟩, ?_⟩⟩
  rintro i n H' ⟨rfl, hile, hC⟩
  have hq : SqL K H' a xs := ex_l (e01.trans hC.2.1) hx
  by_cases hlt : i < xs.length
  · refine .inr ⟨⟨xs, xs[i], hq, by simp [hlt]⟩, fun H'' => Cd K H1 Dl ((ds.take (i + 1)).flatMap fun d => (upTo (lo d) hi).map (g d)) H'', fun H'' p => ⟨xs.length - (i + 1), by omega, rfl, hlt, p⟩, fun x H'' y => ?_⟩
    obtain ⟨e2, y⟩ := y
    subst e2
    have hxi := y xs hq
    obtain ⟨d, hd1, hd2⟩ := dta_get (dta_ex (e01.trans hC.2.1) hd) hxi
    have hdm := List.mem_of_getElem? hd1
    have hbd := hb d hdm
    have hext : ((ds.take (i + 1)).flatMap fun d => (upTo (lo d) hi).map (g d)) = ((ds.take i).flatMap fun d => (upTo (lo d) hi).map (g d)) ++ (upTo (lo d) hi).map (g d) := flat_succ hd1
    have hbig : ((ds.take (i + 1)).flatMap fun d => (upTo (lo d) hi).map (g d)).length < 50000 := Nat.lt_of_le_of_lt (flat_take _ _ _) hz
    rw [hext] at hbig
    rw [hext]
    refine ⟨hw x, tyes_go ?_⟩
    refine (ha d x H'' (e01.trans hC.2.1) hdm hd2) H'' (Ex.refl _) _ fun H4 e4 => ⟨lo d, hi, rfl, ⟨by omega, by omega, by omega, by omega⟩, fun k n H5 => n = (hi - lo d).toNat - k ∧ k ≤ (hi - lo d).toNat ∧ Cd K H1 Dl (((ds.take i).flatMap fun d => (upTo (lo d) hi).map (g d)) ++ ((upTo (lo d) hi).take k).map (g d)) H5, ⟨_, rfl, Nat.zero_le _, ?_⟩, ?_⟩
    · obtain ⟨p1, p2, acc, p3, p4⟩ := hC
      exact ⟨p1, p2.trans e4, acc, e4 _ _ p3, by rw [List.take_zero, List.map_nil, List.append_nil]; exact dta_ex e4 p4⟩
    · rintro k n H5 ⟨rfl, hkle, hC5⟩
      by_cases hk : k < (hi - lo d).toNat
      · refine .inr ⟨hk, fun H6 => Cd K H1 Dl (((ds.take i).flatMap fun d => (upTo (lo d) hi).map (g d)) ++ ((upTo (lo d) hi).take (k + 1)).map (g d)) H6, fun H6 p => ⟨(hi - lo d).toNat - (k + 1), by omega, rfl, hk, p⟩, fun y H6 hy => ?_⟩
        obtain ⟨e6, hy⟩ := hy
        subst e6
        subst hy
        obtain ⟨p1, p2, acc, p3, p4⟩ := hC5
        have hd5 := (dta_get (dta_ex (e01.trans p2) hd) hxi)
        obtain ⟨d', hd1', hd2'⟩ := hd5
        rw [hd1] at hd1'
        cases hd1'
        refine ⟨hw1 x _, tyes_go ?_⟩
        refine (he d x _ H6 (e01.trans p2) hdm hd2') H6 (Ex.refl _) _ fun v H7 e7 hv => ⟨acc, e7 _ _ p3, sz_lt ?_, p1, Ex.mut (p2.trans e7) p1, _, upd_same, ?_⟩
        · rw [dta_len p4, List.length_append, List.length_map, List.length_take]
          rw [List.length_append, List.length_map] at hbig
          have := Nat.min_le_right k (upTo (lo d) hi).length
          omega
        · rw [List.take_add_one, upTo_get hk, List.map_append, ← List.append_assoc]
          exact dta_tx (tx_lst (e7 _ _ p3)) (dta_app (dta_ex e7 p4) (dta_one hv))
      · have ek : k = (hi - lo d).toNat := by omega
        subst ek
        refine .inl ⟨Nat.le_refl _, ?_⟩
        rw [List.take_of_length_le (l := upTo (lo d) hi) (by rw [upTo_len]; exact Nat.le_refl _)] at hC5
        exact hC5
  · have ei : i = xs.length := by omega
    subst ei
    obtain ⟨p1, p2, acc, p3, p4⟩ := hC
    rw [List.take_of_length_le (by rw [dta_len hd]; exact Nat.le_refl _)] at p4
    exact .inl ⟨⟨xs, hq, Nat.le_refl _⟩, q Dl acc H' (fresh_back e1 p1) (e1.trans p2) p3 p4⟩
end
section
variable {P : Program} {w : World} {K : PySem.W.Frag} {mg : Str → Option Value} {base : Heap}
/-! the law's curve -/
def spCurve (K : PySem.W.Frag) : Sp := fun vs H Q _ => ∃ b, vs = [.ref b] ∧ BoxAt H b ∧ ∀ v m d H2, okC m d → Dt K H2 v (curveD m d) → BoxAt H2 b → Bk b H H2 → Q v H2
theorem okk_curve {f ft fm : Addr} {fd fdt fdm : FuncData} {k : Nat} (D : Df K mg "_law_curve" s__law_curve ["_law_box_here"] f fd) (D__law_take : Df K mg "_law_take" s__law_take ["_law_box_here", "_law_wide"] ft fdt) (D__law_more : Df K mg "_law_more" s__law_more ["_law_box_here"] fm fdm) (B : Bt mg) : FnOk P w K mg base CX0 (k + 3) f fd ["_law_box_here"] (spCurve K) := by
  have G__law_take : FnOk P w K mg base CX0 (k + 2) ft fdt ["_law_box_here", "_law_wide"] spTake := okk_take D__law_take D__law_more B
  refine D.F.ok sc__law_curve (fun vs H Q E h => ?_) (fun cdv A outer s H vs Q E hr h => ?_)
  · obtain ⟨b, rfl, _⟩ := h
    rfl
  · obtain ⟨b, rfl, hb, q⟩ := h
    refine ⟨_, (pss_cons (ps_set (i := 1) sc__law_curve.nd rfl (.inl rfl) (pe_op op_add pe_int (pe_call G__law_take (hr.mono (by omega)) (by rfl) D__law_take.g D__law_take.F.kp D__law_take.b .nil pass0 (pa_cons (pv 0) (pa_cons pe_int pa_nil)))))  (pss_one (ps_ret (pe_tup (pa_cons (pe_op op_add (pe_op op_add (pv 1) pe_int) (pe_call G__law_take (hr.mono (by omega)) (by rfl) D__law_take.g D__law_take.F.kp D__law_take.b .nil pass0 (pa_cons (pv 0) (pa_cons (pe_op op_sub pe_int (pv 1)) pa_nil)))) (pa_cons (pv 1) pa_nil)))))), ?_⟩
    refine q_asgK (K := K) (b := b) (ek_opI (f := fun i j => i + j) ev_c fun H1 e1 => ek_take rfl (hb.ex e1) ev_c (by decide) (by decide)) fun v d H1 hp hv hb1 x1 => ?_
    obtain ⟨r, rfl, r0, r1⟩ := hp
    cases hv
    refine (ek_opI (K := K) (b := b) (f := fun i j => i + j) (σ := [some (.ref b), some (.int (1 + r))]) (H := H1) (ta := tOp (rI0 fun i j => .int (i + j)) (tVar 1) (tC (.int 1))) (ev_op (ev_var rfl) ev_c rv_I0) fun H2 e2 => ek_take (wd := 9 - (1 + r)) rfl (hb1.ex e2) (ev_op ev_c (ev_var rfl) rv_I0) (by omega) (by omega)) _ fun v d H2 hp hv hb2 x2 => ?_
    obtain ⟨r', rfl, r0', r1'⟩ := hp
    cases hv
    refine ⟨_, rfl, sz_of (by show 2 ≤ 100000; decide), fun p hp => ?_⟩
    have e3 : Ex H2 (upd H2 p (.tup [.int (1 + r + 1 + r'), .int (1 + r)])) := Ex.new hp
    exact q _ (1 + r + 1 + r') (1 + r) _ ⟨by omega, by omega, by omega, by omega⟩ (.tup (st_of upd_same) (.cons (.int _) (.cons (.int _) .nil))) (hb2.ex e3) ((x1.trans x2).trans (bk_ex e3))
theorem q_curve {D : Ends} {tz : TS} {σ : L2.St} {H : Hp} {i j : Nat} {b : Addr} {E : XK} (hj : σ[j]? = some (some (.ref b))) (hb : BoxAt H b) (k : ∀ v m d H2, okC m d → Dt K H2 v (curveD m d) → BoxAt H2 b → Bk b H H2 → tz D (σ.set i (some v)) H2) : tSeq (tAsg (tCall (spCurve K) [] E (tCons (tVar j) tNil)) (gName i)) tz D σ H :=
  ⟨_, hj, b, rfl, hb, k⟩
end
theorem ef_of_el {K : PySem.W.Frag} {σ : L2.St} {H : Hp} {te : TE} {xs : List V} {ds : List PyData} (h : EvL te σ H xs) (hd : DtAll K H xs ds) : EvF K te σ H ds := fun H1 e Q q => h H1 e Q fun p H2 np e2 hp => q p xs H2 np e2 hp (dta_ex (e.trans e2) hd)
theorem cut_last (xs : List V) (x : V) : cutV (xs ++ [x]) none (some (-1)) = xs := by
  unfold cutV
  rw [HT.sIx_none]
  have e : HT.sIx (xs ++ [x]).length (xs ++ [x]).length (some (-1)) = xs.length := by
    unfold HT.sIx
    simp
    omega
  rw [e]
  simp
theorem ints_lay : ∀ l : List Int, PyData.canLayAll0 (l.map PyData.int) = true
  | [] => rfl
  | i :: l => by
    show (PyData.canLay0 (.int i) && PyData.canLayAll0 (l.map PyData.int)) = true
    rw [ints_lay l]
    rfl
theorem lots_lay : ∀ ls : List (List Int), PyData.canLayAll0 (ls.map lotD) = true
  | [] => rfl
  | l :: ls => by
    show (PyData.canLayAll0 (l.map PyData.int) && PyData.canLayAll0 (ls.map lotD)) = true
    rw [ints_lay l, lots_lay ls]
    rfl
theorem ints_deep : ∀ l : List Int, PyData.depthAll (l.map PyData.int) = 0
  | [] => rfl
  | i :: l => by
    show max (PyData.depth (.int i)) (PyData.depthAll (l.map PyData.int)) = 0
    rw [ints_deep l]
    rfl
theorem lots_deep : ∀ ls : List (List Int), PyData.depthAll (ls.map lotD) ≤ 1
  | [] => Nat.zero_le _
  | l :: ls => by
    show max (PyData.depthAll (l.map PyData.int) + 1) (PyData.depthAll (ls.map lotD)) ≤ 1
    rw [ints_deep l]
    exact Nat.max_le.mpr ⟨Nat.le_refl _, lots_deep ls⟩
theorem lots_shaped (ls : List (List Int)) : SeqAt.shaped (.list (ls.map lotD)) = true := by
  show (PyData.canLayAll0 (ls.map lotD) && decide (PyData.depthAll (ls.map lotD) + 1 ≤ 64)) = true
  rw [lots_lay ls, decide_eq_true (by have := lots_deep ls; omega)]
  rfl
theorem eqv_ints : ∀ l : List Int, PyData.eqvAll (l.map PyData.int) (l.map PyData.int) = true
  | [] => rfl
  | i :: l => by
    show ((i == i) && PyData.eqvAll (l.map PyData.int) (l.map PyData.int)) = true
    rw [eqv_ints l, beq_self_eq_true]
    rfl
theorem eqv_lots : ∀ ls : List (List Int), PyData.eqvAll (ls.map lotD) (ls.map lotD) = true
  | [] => rfl
  | l :: ls => by
    show (PyData.eqvAll (l.map PyData.int) (l.map PyData.int) && PyData.eqvAll (ls.map lotD) (ls.map lotD)) = true
    rw [eqv_ints l, eqv_lots ls]
    rfl
theorem eqv_lotsL (ls : List (List Int)) : PyData.eqv (.list (ls.map lotD)) (.list (ls.map lotD)) = true := eqv_lots ls
theorem ints_shaped (l : List Int) : SeqAt.shaped (.list (l.map PyData.int)) = true := by
  show (PyData.canLayAll0 (l.map PyData.int) && decide (PyData.depthAll (l.map PyData.int) + 1 ≤ 64)) = true
  rw [ints_lay l, ints_deep l]
  rfl
theorem lot_shaped (l : List Int) : SeqAt.shaped (lotD l) = true := by
  show (PyData.canLayAll0 (l.map PyData.int) && decide (PyData.depthAll (l.map PyData.int) + 1 ≤ 64)) = true
  rw [ints_lay l, ints_deep l]
  rfl
theorem eqv_nil (ds : List PyData) : PyData.eqv (.list ds) (.list []) = ds.isEmpty := by
  cases ds <;> rfl
theorem eqv_ints2 : ∀ a b : List Int, PyData.eqvAll (a.map PyData.int) (b.map PyData.int) = decide (a = b)
  | [], [] => rfl
  | [], _ :: _ => rfl
  | _ :: _, [] => rfl
  | x :: a, y :: b => by
    show ((x == y) && PyData.eqvAll (a.map PyData.int) (b.map PyData.int)) = decide (x :: a = y :: b)
    rw [eqv_ints2 a b]
    by_cases h1 : x = y
    · subst h1
      by_cases h2 : a = b
      · subst h2
        simp
      · simp [h2]
    · simp [h1]
theorem eqv_lot (a b : List Int) : PyData.eqv (lotD a) (lotD b) = decide (a = b) := eqv_ints2 a b
theorem any_lot (ls : List (List Int)) (l : List Int) : (ls.map lotD).any (fun z => PyData.eqv z (lotD l)) = ls.any (fun z => decide (z = l)) := by
  rw [List.any_map]
  congr 1
  funext z
  exact eqv_lot z l
def hasL (p l : List Int) : Bool := (l.filter fun c => !p.contains c).isEmpty
/-! ### the defs of the text, by All -/
section
variable {P : Program} {w : World} {K : PySem.W.Frag} {mg : Str → Option Value} {base : Heap}
theorem ok_is_whole (L : All K mg) {k : Nat} : FnOk P w K mg base CX0 (k + 1) L.f_is_whole L.fd_is_whole ["thing"] (spWhole K) := okk_is_whole L.D_is_whole L.B
theorem ok_is_curve (L : All K mg) {k : Nat} : FnOk P w K mg base CX0 (k + 2) L.f_is_curve L.fd_is_curve ["thing"] (spIsC K) := okk_is_curve L.D_is_curve L.D_is_whole L.B L.c_MOST_DEEP L.c_MOST_CORNERS
theorem ok_need_curve (L : All K mg) {k : Nat} : FnOk P w K mg base CX0 (k + 3) L.f_need_curve L.fd_need_curve ["curve"] (spNeedC K) := okk_need_curve L.D_need_curve L.D_is_curve L.D_is_whole L.B L.c_MOST_DEEP L.c_MOST_CORNERS
theorem ev_need_curve {σ : L2.St} {H : Hp} {ta : TA} {m d : Int} {E : XK} (h : EvB K ta σ H [curveD m d]) (hc : okC m d) : Ev (tCall (spNeedC K) [] E ta) σ H .non := fun H1 e Q q =>
  h H1 e _ fun vs H2 e2 hv => ⟨m, d, (by show DtAll K H2 (vs ++ []) _; rw [List.append_nil]; exact hv), hc, fun H3 e3 => q H3 (e2.trans e3)⟩
/-- many, deep = curve -/
theorem q_unC {σ : L2.St} {H : Hp} {v : V} {m d : Int} {s i j : Nat} {D : Ends} {tz : TS} (hv : σ[s]? = some (some v)) (h : Dt K H v (curveD m d)) (k : tz D ((σ.set i (some (.int m))).set j (some (.int d))) H) : tSeq (tAsg (tVar s) (gTup K 2 (gCons (gName i) (gCons (gName j) gNil)))) tz D σ H := by
  obtain ⟨a, rfl, hS⟩ := dt_curve h
  exact ⟨_, hv, a, _, rfl, hS, rfl, _, _, rfl, _, _, rfl, rfl, k⟩
theorem ok__law_box (L : All K mg) {k : Nat} : FnOk P w K mg base CX0 (k + 1) L.f__law_box L.fd__law_box ["_law_script", "_law_k"] (spBox K) := okk_box L.D__law_box L.B
theorem ok__law_more (L : All K mg) {k : Nat} : FnOk P w K mg base CX0 (k + 1) L.f__law_more L.fd__law_more ["_law_box_here"] spMore := okk_more L.D__law_more L.B
theorem ok__law_take (L : All K mg) {k : Nat} : FnOk P w K mg base CX0 (k + 2) L.f__law_take L.fd__law_take ["_law_box_here", "_law_wide"] spTake := okk_take L.D__law_take L.D__law_more L.B
theorem ok__law_curve (L : All K mg) {k : Nat} : FnOk P w K mg base CX0 (k + 3) L.f__law_curve L.fd__law_curve ["_law_box_here"] (spCurve K) := okk_curve L.D__law_curve L.D__law_take L.D__law_more L.B
theorem ok__law_lots (L : All K mg) {k : Nat} : FnOk P w K mg base CX0 (k + 1) L.f__law_lots L.fd__law_lots ["_law_many", "_law_size"] (spLots K) := okk_lots L.D__law_lots L.B
theorem ev__law_lots {σ : L2.St} {H : Hp} {ta : TA} {m s : Int} {E : XK} (h : EvB K ta σ H [.int m, .int s]) (hp : 0 ≤ m ∧ m < 10 ∧ 0 ≤ s ∧ s < 10) : EvF K (tCall (spLots K) [] E ta) σ H ((lotsL m s.toNat).map lotD) := fun H1 e Q q =>
  h H1 e _ fun vs H2 e2 ha => by
    obtain ⟨v0, v1, rfl, h0, h1⟩ := dta2 ha
    obtain rfl := dt_int h0
    obtain rfl := dt_int h1
    exact ⟨m, s, rfl, hp.1, hp.2.1, hp.2.2.1, hp.2.2.2, fun p xs H3 np e3 hp hx => q p xs H3 (fresh_back e2 np) (e2.trans e3) hp hx⟩
theorem ok__law_panes (L : All K mg) {k : Nat} : FnOk P w K mg base CX0 (k + 2) L.f__law_panes L.fd__law_panes ["_law_curve_here"] (spPanes K) := okk_panes L.D__law_panes L.D__law_lots L.D__law_is_pane L.B
theorem ev__law_panes {σ : L2.St} {H : Hp} {ta : TA} {m d : Int} {E : XK} (h : EvB K ta σ H [curveD m d]) (hc : okC m d) : EvF K (tCall (spPanes K) [] E ta) σ H ((panesL m d).map lotD) := fun H1 e Q q =>
  h H1 e _ fun vs H2 e2 hv => by
    obtain ⟨_, _, _, _⟩ := id hc
    exact ⟨m, d, (by show DtAll K H2 (vs ++ []) _; rw [List.append_nil]; exact hv), by omega, by omega, by omega, by omega, fun p xs H3 np e3 hp hx => q p xs H3 (fresh_back e2 np) (e2.trans e3) hp hx⟩
end
/-! ### lots of things -/
def scanV (m : Int) : Int → List V → Bool
  | _, [] => true
  | z, .int i :: r => (decide (z ≤ i) && decide (i < m)) && scanV m (i + 1) r
  | _, _ :: _ => false
def lotV (m : Int) (xs : List V) : Bool := scanV m 0 xs
def lotL (m : Int) (l : List Int) : Bool := lotV m (l.map V.int)
section
variable {P : Program} {w : World} {K : PySem.W.Frag} {mg : Str → Option Value} {base : Heap}
theorem typed_ints {H : Hp} {l : List Int} : ∀ y ∈ l.map V.int, Typed K H y := fun y hy => by
  obtain ⟨i, _, rfl⟩ := List.mem_map.mp hy
  exact typed_int
/-- a thing: no lot of so many corners, or the lot l -/
def ThL (K : PySem.W.Frag) (H : Hp) (v : V) (m : Int) : Option (List Int) → Prop
  | none => (∃ t, t ∈ tyNames ∧ t ≠ "tuple" ∧ TyX K H v (.type t)) ∨ ∃ a xs, v = .ref a ∧ SqT K H a xs ∧ (∀ y ∈ xs, Typed K H y) ∧ lotV m xs = false
  | some l => Dt K H v (lotD l) ∧ lotL m l = true
theorem ThL.ex {H H' : Hp} {v : V} {m : Int} : ∀ {r : Option (List Int)}, Ex H H' → ThL K H v m r → ThL K H' v m r
  | none, e, .inl ⟨t, h1, h2, h3⟩ => .inl ⟨t, h1, h2, tyx_ex e h3⟩
  | none, e, .inr ⟨a, xs, h1, h2, h3, h4⟩ => .inr ⟨a, xs, h1, ex_t e h2, fun y hy => (h3 y hy).ex e, h4⟩
  | some _, e, h => ⟨dt_ex e h.1, h.2⟩
def spLotOf (K : PySem.W.Frag) : Sp := fun vs H Q _ => ∃ (v : V) (m : Int) (r : Option (List Int)), vs = [v, .int m] ∧ ThL K H v m r ∧ ∀ H2, Ex H H2 → Q (.bl r.isSome) H2
theorem ev_lotOf {σ : L2.St} {H : Hp} {ta tb : TE} {v : V} {m : Int} {r : Option (List Int)} {E : XK} (ha : Ev ta σ H v) (hb : Ev tb σ H (.int m)) (hv : ThL K H v m r) : Ev (tCall (spLotOf K) [] E (tCons ta (tCons tb tNil))) σ H (.bl r.isSome) := fun H1 e Q q =>
  ha H1 e _ fun H2 e2 => hb H2 (e.trans e2) _ fun H3 e3 => ⟨v, m, r, rfl, hv.ex ((e.trans e2).trans e3), fun H4 e4 => q H4 ((e2.trans e3).trans e4)⟩
theorem ok_is_lot_of (L : All K mg) {k : Nat} : FnOk P w K mg base CX0 (k + 2) L.f_is_lot_of L.fd_is_lot_of ["thing", "many"] (spLotOf K) := by
  have B := L.B
  have D_is_whole := L.D_is_whole
  have G_is_whole := ok_is_whole (P := P) (w := w) (base := base) L (k := 0)
  refine L.D_is_lot_of.F.ok sc_is_lot_of (fun vs H Q E h => ?_) (fun cdv A outer s H vs Q E hr h => ?_)
  · obtain ⟨v, m, r, rfl, _⟩ := h
    rfl
  · obtain ⟨v, m, r, rfl, hv, q⟩ := h
    have hcase : (∃ t, t ∈ tyNames ∧ t ≠ "tuple" ∧ TyX K H v (.type t) ∧ r.isSome = false) ∨ ∃ a xs, v = .ref a ∧ SqT K H a xs ∧ (∀ y ∈ xs, Typed K H y) ∧ lotV m xs = r.isSome := by
      cases r with
      | none =>
        rcases hv with ⟨t, h1, h2, h3⟩ | ⟨a, xs, h1, h2, h3, h4⟩
        · exact .inl ⟨t, h1, h2, h3, rfl⟩
        · exact .inr ⟨a, xs, h1, h2, h3, h4⟩
      | some l =>
        obtain ⟨a, rfl, hs⟩ := dt_lot hv.1
        exact .inr ⟨a, l.map V.int, rfl, hs, typed_ints, hv.2⟩
    generalize r.isSome = b at q hcase
    refine ⟨_, (pss_cons (ps_if (pt_not (pt_val (pe_callB (show CallR _ _ (rIsi K) from call_isi) (by rfl) B.isinstance_ (by decide +kernel) (pa_cons (pv 0) (pa_cons (pe_bltn (v := .ty "tuple") (by rfl) B.tuple_ (by decide +kernel) rfl) pa_nil)))))   (pss_one (ps_ret pe_bl))   pss_nil)  (pss_cons (ps_set (i := 2) sc_is_lot_of.nd rfl (.inl rfl) pe_int)  (pss_cons (ps_for PassesOwn.never rfl (pi_tup (pv 0)) (pg_name (i := 3) sc_is_lot_of.nd rfl (.inl rfl))   (pss_cons (ps_if (PW.pt (pw_or (pt_not (pt_val (pe_call G_is_whole (hr.mono (by omega)) (by rfl) D_is_whole.g D_is_whole.F.kp D_is_whole.b .nil pass0 (pa_cons (pv 3) pa_nil)))) (pw_or1 (pt_not (pt_chain op_le op_lt (pv 2) (pv 3) (pv 1))))))   (pss_one (ps_ret pe_bl))   pss_nil)  (pss_one (ps_set (i := 2) sc_is_lot_of.nd rfl (.inl rfl) (pe_op op_add (pv 3) pe_int)))))  (pss_one (ps_ret pe_bl))))), ?_⟩
    rcases hcase with ⟨t, ht, hnt, ty, rfl⟩ | ⟨a, xs, rfl, hS, hty, hb⟩
    · refine q_when (b := true) (et_is (et_not (et_B (ev_isi (K := K) (ev_var rfl) ev_c (fun H2 e2 => tyx_ex e2 ty) (ty_tup ht)))) ?_) (fun _ H1 e1 => s_ret ev_c fun H2 e2 => q H2 (e1.trans e2)) (fun hb => by cases hb)
      rw [beq_eq_false_iff_ne.mpr hnt]
      rfl
    · refine q_when (et_not (et_B (ev_isi (K := K) (ev_var rfl) ev_c (fun H2 e2 => tyx_ex e2 (ty_sqt hS)) (ty_tup (t := "tuple") (by decide))))) (fun hb => by cases hb) (fun _ H1 e1 => ?_)
      refine q_asg (v := .int 0) ev_c fun H2 e2 => ?_
      refine q_forT (xs := xs) (ev_var rfl) (ex_t (e1.trans e2) hS) (fun i σ' H' => ∃ (z : Int) (y3 : Option V), σ' = [some (.ref a), some (.int m), some (.int z), y3] ∧ Ex H H' ∧ scanV m z (xs.drop i) = b) (fun H3 e3 => ⟨0, _, rfl, (e1.trans e2).trans e3, hb⟩) (fun i σ' H' _ hw => ?_) (fun i x σ' H' hi hw => ?_) (fun σ' H' hw => ?_)
      · obtain ⟨z, y3, rfl, e', _⟩ := hw
        exact ex_t e' hS
      · obtain ⟨z, y3, rfl, e', hsc⟩ := hw
        have hxm := List.mem_of_getElem? hi
        have hdr : xs.drop i = x :: xs.drop (i + 1) := by
          obtain ⟨hlt, hx⟩ := List.getElem?_eq_some_iff.mp hi
          rw [List.drop_eq_getElem_cons hlt, hx]
        rw [hdr] at hsc
        obtain ⟨b1, hb1, w1⟩ := ev_wholeT (K := K) (σ := [some (.ref a), some (.int m), some (.int z), some x]) (te := tVar 3) (E := E0) (ev_var rfl) ((hty x hxm).ex e')
        cases b1 with
        | false =>
          have hf : b = false := by
            cases x with
            | int i => cases hb1.mpr ⟨i, rfl⟩
            | _ => exact hsc.symm
          subst hf
          exact q_when (b := true) (fun H1' e1' Q' q' => (et_not (et_B w1)) H1' e1' _ fun H2 e2 => iteT (q' H2 e2)) (fun _ H3 e3 => s_ret ev_c fun H4 e4 => q H4 ((e'.trans e3).trans e4)) (fun hb => by cases hb)
        | true =>
          obtain ⟨j, rfl⟩ := hb1.mp rfl
          refine q_when (et_or (et_not (et_B w1)) (fun _ => et_not (et_test (ev_chain (ev_var rfl) (ev_var rfl) (ev_var rfl) rv_I0 rv_I0)))) (fun hb H3 e3 => ?_) (fun hb H3 e3 => ?_)
          · refine s_ret ev_c fun H4 e4 => ?_
            have hf : b = false := by
              rw [← hsc]
              show ((decide (z ≤ j) && decide (j < m)) && _) = false
              have : (decide (z ≤ j) && decide (j < m)) = false := by cases h1 : decide (z ≤ j) <;> cases h2 : decide (j < m) <;> rw [h1, h2] at hb <;> first | rfl | cases hb
              rw [this]
              rfl
            rw [hf] at q
            exact q H4 ((e'.trans e3).trans e4)
          · refine s_asg (v := .int (j + 1)) (ev_op (ev_var rfl) ev_c rv_I0) fun H4 e4 => ⟨_, _, rfl, (e'.trans e3).trans e4, ?_⟩
            rw [← hsc]
            show _ = ((decide (z ≤ j) && decide (j < m)) && _)
            have : (decide (z ≤ j) && decide (j < m)) = true := by cases h1 : decide (z ≤ j) <;> cases h2 : decide (j < m) <;> rw [h1, h2] at hb <;> first | rfl | cases hb
            rw [this]
            rfl
      · obtain ⟨z, y3, rfl, e', hsc⟩ := hw
        rw [List.drop_length] at hsc
        have hf : b = true := hsc.symm
        rw [hf] at q
        exact s_ret ev_c fun H4 e4 => q H4 (e'.trans e4)
def spIsLot (K : PySem.W.Frag) : Sp := fun vs H Q _ => ∃ (v cv : V) (m d : Int) (r : Option (List Int)), vs = [v, cv] ∧ Dt K H cv (curveD m d) ∧ okC m d ∧ ThL K H v m r ∧ ∀ H2, Ex H H2 → Q (.bl r.isSome) H2
theorem ev_isLot {σ : L2.St} {H : Hp} {ta tb : TE} {v : V} {m d : Int} {r : Option (List Int)} {E : XK} (ha : Ev ta σ H v) (hb : EvD K tb σ H (curveD m d)) (hc : okC m d) (hv : ThL K H v m r) : Ev (tCall (spIsLot K) [] E (tCons ta (tCons tb tNil))) σ H (.bl r.isSome) := fun H1 e Q q =>
  ha H1 e _ fun H2 e2 => hb H2 (e.trans e2) _ fun cv H3 e3 hcv => ⟨v, cv, m, d, r, rfl, hcv, hc, hv.ex ((e.trans e2).trans e3), fun H4 e4 => q H4 ((e2.trans e3).trans e4)⟩
theorem ok_is_lot (L : All K mg) {k : Nat} : FnOk P w K mg base CX0 (k + 4) L.f_is_lot L.fd_is_lot ["thing", "curve"] (spIsLot K) := by
  have B := L.B
  have D_is_lot_of := L.D_is_lot_of
  have G_is_lot_of := ok_is_lot_of (P := P) (w := w) (base := base) L (k := 0)
  have D_need_curve := L.D_need_curve
  have G_need_curve := ok_need_curve (P := P) (w := w) (base := base) L (k := 0)
  refine L.D_is_lot.F.ok sc_is_lot (fun vs H Q E h => ?_) (fun cdv A outer s H vs Q E hr h => ?_)
  · obtain ⟨v, cv, m, d, r, rfl, _⟩ := h
    rfl
  · obtain ⟨v, cv, m, d, r, rfl, hcv, hc, hv, q⟩ := h
    refine ⟨_, (pss_cons (ps_expr (pe_call G_need_curve (hr.mono (by omega)) (by rfl) D_need_curve.g D_need_curve.F.kp D_need_curve.b .nil pass0 (pa_cons (pv 1) pa_nil)))  (pss_one (ps_ret (pe_call G_is_lot_of (hr.mono (by omega)) (by rfl) D_is_lot_of.g D_is_lot_of.F.kp D_is_lot_of.b .nil pass0 (pa_cons (pv 0) (pa_cons (pe_ix (show IxR _ (rIxT K) from ix_tup) (pv 1) pe_int (fun _ _ => rfl)) pa_nil)))))), ?_⟩
    refine q_drop (ev_need_curve (K := K) (eb_cons (ed_var rfl hcv) eb_nil) hc) fun H1 e1 => ?_
    exact s_ret (ev_lotOf (K := K) (ev_var rfl) (ev_int (K := K) (ed_ixT (ds := [.int m, .int d]) (ed_var rfl (dt_ex e1 hcv)) ev_c rfl)) (hv.ex e1)) fun H2 e2 => q H2 (e1.trans e2)
/-! ### odd blocks -/
def outA (l : List Int) : List Int := l.mapIdx fun i c => c - (i : Int)
def oddF (m : Int) (l : List Int) : Int := (((upTo 1 (m - (l.length : Int))).filter fun k => decide (((outA l).count k : Int) % 2 = 1)).length : Int)
theorem outA_data (l : List Int) : (l.map PyData.int).mapIdx (fun i d => PyData.int (unint d - (i : Int))) = (outA l).map PyData.int := by
  unfold outA
  rw [List.mapIdx_eq_zipIdx_map, List.mapIdx_eq_zipIdx_map, List.zipIdx_map, List.map_map, List.map_map]
  rfl
theorem ev_count {σ : L2.St} {H : Hp} {ta tb : TE} {p : Addr} {ns : List Int} {k : Int} (ha : Ev ta σ H (.ref p)) (hs : SqL K H p (ns.map V.int)) (hb : Ev tb σ H (.int k)) : Ev (tBM K "list" (rCntI K) ta (tCons tb tNil)) σ H (.int (ns.count k : Int)) := fun H1 e Q q =>
  ha H1 e _ fun H2 e2 => ⟨.inl ⟨rfl, _, ex_l (e.trans e2) hs⟩, hb H2 (e.trans e2) _ fun H3 e3 => ⟨p, ns, k, rfl, rfl, ex_l ((e.trans e2).trans e3) hs, q H3 (e2.trans e3)⟩⟩
def sp_odd_blocks (K : PySem.W.Frag) : Sp := fun vs H Q _ => ∃ (m : Int) (l : List Int), DtAll K H vs [.int m, lotD l] ∧ (l.length ≤ 1000 ∧ -1000 ≤ m ∧ m ≤ 1000) ∧ ∀ H2, Ex H H2 → Q (.int (oddF m l)) H2
theorem ev_odd_blocks {σ : L2.St} {H : Hp} {ta : TA} {E : XK} {m : Int} {l : List Int} (h : EvB K ta σ H [.int m, lotD l]) (hp : l.length ≤ 1000 ∧ -1000 ≤ m ∧ m ≤ 1000) : Ev (tCall (sp_odd_blocks K) [] E ta) σ H (.int (oddF m l)) := fun H1 e Q q => h H1 e _ fun vs H2 e2 ha => ⟨m, l, (by show DtAll K H2 (vs ++ []) _; rw [List.append_nil]; exact ha), hp, fun H3 e3 => q H3 (e2.trans e3)⟩
theorem ok_odd_blocks (L : All K mg) {k : Nat} : FnOk P w K mg base CX0 (k + 1) L.f_odd_blocks L.fd_odd_blocks ["many", "lot"] (sp_odd_blocks K) := by
  have B := L.B
  refine L.D_odd_blocks.F.ok sc_odd_blocks (fun vs H Q E h => ?_) (fun cdv A outer s H vs Q E hr h => ?_)
  · obtain ⟨m, l, h, _⟩ := h
    rw [dta_len h]
    rfl
  · obtain ⟨m, l, h, hp, q⟩ := h
    obtain ⟨v0, v1, rfl, h0, h1⟩ := dta2 h
    obtain rfl := dt_int h0
    refine ⟨_, (pss_cons (ps_set (i := 2) sc_odd_blocks.nd rfl (.inr rfl) (pe_lc (g := gTup K 2 (gCons (gName 3) (gCons (gName 4) gNil))) (own := [("at", 3), ("corner", 4)]) rfl sc_odd_blocks.nd (pi_enumT (by rfl) B.enumerate_ (pa_cons (pv 1) pa_nil)) (blkOk_by (own := [("at", 3), ("corner", 4)]) (N := N_odd_blocks) (sc := defScope s_odd_blocks) (by decide +kernel)) (fun _ _ _ _ _ => (pg_tup (by rfl) (pgs_cons (pg_name (i := 3) sc_odd_blocks.nd rfl (.inl rfl)) (pgs_cons (pg_name (i := 4) sc_odd_blocks.nd rfl (.inl rfl)) pgs_nil)))) (fun _ _ _ _ _ => pts_nil) (fun _ _ _ _ _ => (pe_op op_sub (pv 4) (pv 3)))))  (pss_one (ps_ret (pe_callB (show CallR _ _ (rLenS K) from call_len_seq) (by rfl) B.len_ (by decide +kernel) (pa_cons (pe_lc (own := [("k", 5)]) rfl sc_odd_blocks.nd (pi_range2 (by rfl) B.range_ (pa_cons pe_int (pa_cons (pe_op op_sub (pv 0) (pe_callB (show CallR _ _ (rLenS K) from call_len_seq) (by rfl) B.len_ (by decide +kernel) (pa_cons (pv 1) pa_nil))) pa_nil))) (blkOk_by (own := [("k", 5)]) (N := N_odd_blocks) (sc := defScope s_odd_blocks) (by decide +kernel)) (fun _ _ _ _ _ => (pg_name (i := 5) sc_odd_blocks.nd rfl (.inl rfl))) (fun _ _ _ _ _ => pts_one (pt_cmpR op_eq (pe_op op_mod (pe_bmK rfl PySem.F.plainAttrs_list PySem.F.slot_list_count PySem.F.type_list_count (show MtR _ _ (rCntI K) from mt_lcount) (pv 2) (pa_cons (pv 5) pa_nil)) pe_int) pe_int (nomark _))) (fun _ _ _ _ _ => (pv 5))) pa_nil))))), ?_⟩
    obtain ⟨hl, hm0, hm1⟩ := hp
    refine q_asgF (K := K) (ds := (outA l).map PyData.int) (ef_is (ef_lcET (ds := l.map PyData.int) (fun i d => PyData.int (unint d - (i : Int))) (ed_var rfl h1) (by rw [List.length_map]; omega) (fun _ _ => rfl) (fun i d x H1 e1 hi hd => ?_)) (outA_data l)) fun p xs H1 np e1 hp hx => ?_
    · obtain ⟨c, _, rfl⟩ := mem_ints (List.mem_of_getElem? hi)
      obtain rfl := dt_int hd
      exact ed_int (ev_op (ev_var rfl) (ev_var rfl) rv_I0)
    rw [dta_ints_inv hx] at hp
    refine s_ret (v := .int (oddF m l)) (ev_is (ev_lenF (K := K) (ef_lcR2 (fun k => decide (((outA l).count k : Int) % 2 = 1)) PyData.int (ea_cons ev_c (ea_cons (ev_op (ev_var rfl) (ev_lenT (K := K) (ds := l.map PyData.int) (ed_var rfl (dt_ex e1 h1))) rv_I0) ea_nil)) (by rw [List.length_map]; omega) (fun _ => rfl) (fun c H2 e2 _ _ => ?_) (fun c H2 e2 _ _ _ => ed_int (ev_var rfl)))) ?_) fun H2 e2 => q H2 (e1.trans e2)
    · exact et_test (ev_op (ev_op (ev_count (K := K) (ev_var rfl) (sq_of (e2 p _ hp)) (ev_var rfl)) ev_c (rv_I (by show (0 : Int) < 2; decide))) ev_c rv_eqI)
    · rw [List.length_map, List.length_map]
      rfl
def faceF (m d : Int) (l : List Int) : Bool := decide (oddF m l ≤ d - (l.length : Int))
def paneF (m d : Int) (l : List Int) : Bool := decide ((l.length : Int) = d) && decide (oddF m l = 0)
def spPane (K : PySem.W.Frag) : Sp := fun vs H Q _ => ∃ (v cv : V) (m d : Int) (r : Option (List Int)), vs = [v, cv] ∧ Dt K H cv (curveD m d) ∧ okC m d ∧ ThL K H v m r ∧ (∀ l, r = some l → l.length ≤ 1000) ∧ ∀ H2, Ex H H2 → Q (.bl ((r.map (paneF m d)).getD false)) H2
theorem ev_pane {σ : L2.St} {H : Hp} {ta tb : TE} {v : V} {m d : Int} {r : Option (List Int)} {E : XK} (ha : Ev ta σ H v) (hb : EvD K tb σ H (curveD m d)) (hc : okC m d) (hv : ThL K H v m r) (hl : ∀ l, r = some l → l.length ≤ 1000) : Ev (tCall (spPane K) [] E (tCons ta (tCons tb tNil))) σ H (.bl ((r.map (paneF m d)).getD false)) := fun H1 e Q q =>
  ha H1 e _ fun H2 e2 => hb H2 (e.trans e2) _ fun cv H3 e3 hcv => ⟨v, cv, m, d, r, rfl, hcv, hc, hv.ex ((e.trans e2).trans e3), hl, fun H4 e4 => q H4 ((e2.trans e3).trans e4)⟩
theorem ok_is_pane (L : All K mg) {k : Nat} : FnOk P w K mg base CX0 (k + 5) L.f_is_pane L.fd_is_pane ["thing", "curve"] (spPane K) := by
  have B := L.B
  have D_odd_blocks := L.D_odd_blocks
  have G_odd_blocks := ok_odd_blocks (P := P) (w := w) (base := base) L (k := 0)
  have D_is_lot := L.D_is_lot
  have G_is_lot := ok_is_lot (P := P) (w := w) (base := base) L (k := 0)
  refine L.D_is_pane.F.ok sc_is_pane (fun vs H Q E h => ?_) (fun cdv A outer s H vs Q E hr h => ?_)
  · obtain ⟨v, cv, m, d, r, rfl, _⟩ := h
    rfl
  · obtain ⟨v, cv, m, d, r, rfl, hcv, hc, hv, hlen, q⟩ := h
    obtain ⟨c1, c2, c3, c4⟩ := id hc
    refine ⟨_, (pss_one (ps_ret (pe_and (pe_call G_is_lot (hr.mono (by omega)) (by rfl) D_is_lot.g D_is_lot.F.kp D_is_lot.b .nil pass0 (pa_cons (pv 0) (pa_cons (pv 1) pa_nil))) (pe_and (pe_cmpR op_eq (pe_callB (show CallR _ _ (rLenS K) from call_len_seq) (by rfl) B.len_ (by decide +kernel) (pa_cons (pv 0) pa_nil)) (pe_ix (show IxR _ (rIxT K) from ix_tup) (pv 1) pe_int (fun _ _ => rfl)) (nomark _)) (pe_one (pe_cmpR op_eq (pe_call G_odd_blocks (hr.mono (by omega)) (by rfl) D_odd_blocks.g D_odd_blocks.F.kp D_odd_blocks.b .nil pass0 (pa_cons (pe_ix (show IxR _ (rIxT K) from ix_tup) (pv 1) pe_int (fun _ _ => rfl)) (pa_cons (pv 0) pa_nil))) pe_int (nomark _))))))), ?_⟩
    refine s_ret (v := .bl ((r.map (paneF m d)).getD false)) ?_ fun H1 e1 => q H1 e1
    cases r with
    | none => exact ev_is (ev_andV (b := false) (ev_isLot (K := K) (r := none) (ev_var rfl) (ed_var rfl hcv) hc hv) (fun hb => by cases hb)) rfl
    | some l =>
      have hll := hlen l rfl
      refine ev_is (ev_andV (ev_isLot (K := K) (r := some l) (ev_var rfl) (ed_var rfl hcv) hc hv) (fun _ => (ev_andV (ev_op (ev_lenT (K := K) (ds := l.map PyData.int) (ed_var rfl hv.1)) (ev_int (K := K) (ed_ixT (ds := [.int m, .int d]) (ed_var rfl hcv) ev_c rfl)) rv_eqI) (fun _ => (ev_op (ev_odd_blocks (K := K) (eb_cons (ed_int (ev_int (K := K) (ed_ixT (ds := [.int m, .int d]) (ed_var rfl hcv) ev_c rfl))) (eb_cons (ed_var rfl hv.1) eb_nil)) (by first | assumption | omega | (refine ⟨?_, ?_⟩ <;> first | assumption | omega) | (refine ⟨?_, ?_, ?_⟩ <;> first | assumption | omega) | (refine ⟨?_, ?_, ?_, ?_⟩ <;> first | assumption | omega) | (repeat' apply And.intro) <;> first | assumption | omega)) ev_c rv_eqI))))) ?_
      rw [List.length_map]
      rfl
end
/-! ### low and high -/
def outL (m : Int) (l : List Int) : List Int := (upTo 0 m).filter fun c => !l.contains c
def lastOut (m : Int) (l : List Int) : Int := (outL m l).getLast?.getD 0
def lowB (m : Int) (l : List Int) : Bool := decide (((l.filter fun c => decide (c > lastOut m l)).length : Int) % 2 = 0)
def lowOk (m : Int) (l : List Int) : Bool := (outL m l).contains (lastOut m l) && ((outL m l).all fun y => decide (y ≤ lastOut m l)) && decide (l.length ≤ 100) && decide ((outL m l).getLast? = some (lastOut m l))
def lowOks : Bool := curvesAll.all fun p => (panesL p.1 p.2).all (lowOk p.1)
theorem low_oks : lowOks = true := by decide +kernel
structure LowFacts (m : Int) (l : List Int) : Prop where
  last_in : lastOut m l ∈ outL m l
  last_max : ∀ y ∈ outL m l, y ≤ lastOut m l
  len : l.length ≤ 100
  last : (outL m l).getLast? = some (lastOut m l)
theorem low_facts {m d : Int} (hc : okC m d) {l : List Int} (hl : l ∈ panesL m d) : LowFacts m l := by
  have h := List.all_eq_true.mp (curve_all low_oks hc) l hl
  unfold lowOk at h
  simp only [Bool.and_eq_true, decide_eq_true_eq, List.all_eq_true, List.contains_iff_mem] at h
  obtain ⟨⟨⟨h3, h4⟩, h5⟩, h6⟩ := h
  exact ⟨h3, h4, h5, h6⟩
section
variable {P : Program} {w : World} {K : PySem.W.Frag} {mg : Str → Option Value} {base : Heap}
theorem ev_maxF {σ : L2.St} {H : Hp} {te : TE} {ns : List Int} {mx : Int} (h : EvF K te σ H (ns.map PyData.int)) (hm : mx ∈ ns) (ha : ∀ y ∈ ns, y ≤ mx) : Ev (tCB (rMax K) (tCons te tNil)) σ H (.int mx) := fun H1 e Q q =>
  h H1 e _ fun p xs H2 _ e2 hp hx => ⟨p, ns, rfl, by rw [dta_ints_inv hx] at hp; exact sq_of hp, List.length_pos_of_mem hm, fun m' h1 h2 => by
    have e1 := h2 mx hm
    have e3 := ha m' h1
    have : m' = mx := by omega
    subst this
    exact q H2 e2⟩
theorem ef_out {σ : L2.St} {H : Hp} {ta : TA} {tb : TE} {j : Nat} {vs : List Nat} {m : Int} {l : List Int} (h : EvA ta σ H [.int m]) (m0 : 0 ≤ m) (m1 : m < 1000) (hw : ∀ x, wipe ((wipe σ vs).set j (some x)) vs = wipe σ vs) (hj : ∀ x, ((wipe σ vs).set j (some x))[j]? = some (some x)) (hb : ∀ i H1, Ex H H1 → EvD K tb ((wipe σ vs).set j (some (.int i))) H1 (lotD l)) :
    EvF K (tLc (iRng1 ta) (gName j) (tTest (tOp (rIn K true) (tVar j) tb)) (tVar j) vs) σ H ((outL m l).map PyData.int) :=
  ef_lcR1 (fun c => !l.contains c) PyData.int h ⟨by omega, by omega⟩ hw (fun i H1 e1 _ _ => et_test (ev_niI (K := K) (ev_var (hj _)) (hb i H1 e1))) (fun i H1 e1 _ _ _ => ed_int (ev_var (hj _)))
/-- len([c for c in lot if c > last]) -/
theorem ev_above {σ : L2.St} {H : Hp} {tl tx : TE} {j : Nat} {vs : List Nat} {l : List Int} {z : Int} (h : EvD K tl σ H (lotD l)) (hl : l.length ≤ 1000) (hw : ∀ x, wipe ((wipe σ vs).set j (some x)) vs = wipe σ vs) (hj : ∀ x, ((wipe σ vs).set j (some x))[j]? = some (some x)) (hz : ∀ i H1, Ev tx ((wipe σ vs).set j (some (.int i))) H1 (.int z)) :
    Ev (tCB (rLenS K) (tCons (tLc (iTup K tl) (gName j) (tTest (tOp (rI0 fun i j => .bl (decide (i > j))) (tVar j) tx)) (tVar j) vs) tNil)) σ H (.int ((l.filter fun c => decide (c > z)).length : Int)) := by
  refine ev_is (ev_lenF (K := K) (ef_lcT (ds := l.map PyData.int) (fun d => decide (unint d > z)) (fun d => d) h (by rw [List.length_map]; omega) hw (fun d x H1 e1 hm hd => ?_) (fun d x H1 e1 hm hd _ => ed_var (hj _) hd))) ?_
  · obtain ⟨c, _, rfl⟩ := mem_ints hm
    obtain rfl := dt_int hd
    exact et_test (ev_op (ev_var (hj _)) (hz c H1) rv_I0)
  · rw [filt_len (g := fun c => decide (c > z)) (fun _ => rfl)]
end
def paneOk (m d : Int) (l : List Int) : Bool := paneF m d l && lotL m l
def paneOks : Bool := curvesAll.all fun p => (panesL p.1 p.2).all (paneOk p.1 p.2)
theorem pane_oks : paneOks = true := by decide +kernel
structure PaneFacts (m d : Int) (l : List Int) : Prop extends LowFacts m l where
  pane : paneF m d l = true
  lot : lotL m l = true
theorem pane_facts {m d : Int} (hc : okC m d) {l : List Int} (hl : l ∈ panesL m d) : PaneFacts m d l := by
  have h := List.all_eq_true.mp (curve_all pane_oks hc) l hl
  unfold paneOk at h
  simp only [Bool.and_eq_true] at h
  exact ⟨low_facts hc hl, h.1, h.2⟩
section
variable {P : Program} {w : World} {K : PySem.W.Frag} {mg : Str → Option Value} {base : Heap}
def sp_need_pane (K : PySem.W.Frag) : Sp := fun vs H Q _ => ∃ (m d : Int) (l : List Int), DtAll K H vs [curveD m d, lotD l] ∧ (okC m d ∧ PaneFacts m d l) ∧ ∀ H2, Ex H H2 → Q (.non) H2
theorem ev_need_pane {σ : L2.St} {H : Hp} {ta : TA} {E : XK} {m d : Int} {l : List Int} (h : EvB K ta σ H [curveD m d, lotD l]) (hp : okC m d ∧ PaneFacts m d l) : Ev (tCall (sp_need_pane K) [] E ta) σ H (.non) := fun H1 e Q q => h H1 e _ fun vs H2 e2 ha => ⟨m, d, l, (by show DtAll K H2 (vs ++ []) _; rw [List.append_nil]; exact ha), hp, fun H3 e3 => q H3 (e2.trans e3)⟩
theorem ok_need_pane (L : All K mg) {k : Nat} : FnOk P w K mg base CX0 (k + 6) L.f_need_pane L.fd_need_pane ["curve", "pane"] (sp_need_pane K) := by
  have B := L.B
  have D_is_pane := L.D_is_pane
  have G_is_pane := ok_is_pane (P := P) (w := w) (base := base) L (k := 0)
  refine L.D_need_pane.F.ok sc_need_pane (fun vs H Q E h => ?_) (fun cdv A outer s H vs Q E hr h => ?_)
  · obtain ⟨m, d, l, h, _⟩ := h
    rw [dta_len h]
    rfl
  · obtain ⟨m, d, l, h, hp, q⟩ := h
    obtain ⟨v0, v1, rfl, h0, h1⟩ := dta2 h
    refine ⟨_, (pss_one (ps_if (pt_not (pt_val (pe_call G_is_pane (hr.mono (by omega)) (by rfl) D_is_pane.g D_is_pane.F.kp D_is_pane.b .nil pass0 (pa_cons (pv 1) (pa_cons (pv 0) pa_nil)))))   (pss_one ps_never)   pss_nil)), ?_⟩
    obtain ⟨hc, hf⟩ := hp
    refine s_when (b := false) (et_is (et_not (et_B (ev_pane (K := K) (r := some l) (ev_var rfl) (ed_var rfl h0) hc ⟨h1, hf.lot⟩ (fun l' e => by cases e; have := hf.len; omega)))) ?_) (fun hb => by cases hb) (fun _ H2 e2 => q H2 e2)
    show (!paneF m d l) = false
    rw [hf.pane]
    rfl
end
def rTupS (K : PySem.W.Frag) : List V → Hp → VK → Prop := fun xs H Q => ∃ p ys, xs = [.ref p] ∧ ((SqL K H p ys ∧ ∀ l, H l = none → Q (.ref l) (upd H l (.tup ys))) ∨ (SqT K H p ys ∧ Q (.ref p) H))
section
variable {K : PySem.W.Frag}
theorem ed_tupF {σ : L2.St} {H : Hp} {te : TE} {ds : List PyData} (h : EvF K te σ H ds) : EvD K (tCB (rTupS K) (tCons te tNil)) σ H (.tuple ds) := fun H1 e Q q =>
  h H1 e _ fun p xs H2 np e2 hp hx => ⟨p, xs, rfl, .inl ⟨sq_of hp, fun l hl => q _ _ (e2.trans (Ex.new hl)) (.tup (st_of upd_same) (dta_ex (Ex.new hl) hx))⟩⟩
theorem ed_tupL {σ : L2.St} {H : Hp} {te : TE} {p : Addr} {xs : List V} {ds : List PyData} (h : Ev te σ H (.ref p)) (hp : SqL K H p xs) (hx : DtAll K H xs ds) : EvD K (tCB (rTupS K) (tCons te tNil)) σ H (.tuple ds) := fun H1 e Q q =>
  h H1 e _ fun H2 e2 => ⟨p, xs, rfl, .inl ⟨ex_l (e.trans e2) hp, fun l hl => q _ _ (e2.trans (Ex.new hl)) (.tup (st_of upd_same) (dta_ex ((e.trans e2).trans (Ex.new hl)) hx))⟩⟩
end
/-! ### the pane beyond a corner -/
def insI (x : Int) : List Int → List Int
  | [] => [x]
  | y :: r => if x ≤ y then x :: y :: r else y :: insI x r
def srtI (l : List Int) : List Int := l.foldr insI []
theorem insI_perm (x : Int) : ∀ l : List Int, (insI x l).Perm (x :: l)
  | [] => .refl _
  | y :: r => by
    unfold insI
    split
    · exact .refl _
    · exact ((insI_perm x r).cons y).trans (.swap _ _ _)
theorem srtI_perm : ∀ l : List Int, (srtI l).Perm l
  | [] => .refl _
  | x :: r => (insI_perm x (srtI r)).trans ((srtI_perm r).cons x)
theorem insI_sorted {x : Int} : ∀ {l : List Int}, l.Pairwise (· ≤ ·) → (insI x l).Pairwise (· ≤ ·)
  | [], _ => List.pairwise_singleton _ _
  | y :: r, h => by
    have h' := List.pairwise_cons.mp h
    unfold insI
    split
    · rename_i hxy
      refine List.Pairwise.cons (fun z hz => ?_) h
      rcases List.mem_cons.mp hz with rfl | hz
      · exact hxy
      · exact Int.le_trans hxy (h'.1 z hz)
    · rename_i hxy
      refine List.Pairwise.cons (fun z hz => ?_) (insI_sorted h'.2)
      rcases List.mem_cons.mp ((insI_perm x r).mem_iff.mp hz) with rfl | hz
      · omega
      · exact h'.1 z hz
theorem srtI_sorted : ∀ l : List Int, (srtI l).Pairwise (· ≤ ·)
  | [] => .nil
  | _ :: r => insI_sorted (srtI_sorted r)
theorem sorted_uniq : ∀ {a b : List Int}, a.Pairwise (· ≤ ·) → b.Pairwise (· ≤ ·) → a.Perm b → a = b
  | [], b, _, _, h => h.nil_eq
  | x :: a, [], _, _, h => absurd h.length_eq (by simp)
  | x :: a, y :: b, ha, hb, h => by
    have ha' := List.pairwise_cons.mp ha
    have hb' := List.pairwise_cons.mp hb
    have e : x = y := by
      have h1 : x ∈ y :: b := h.mem_iff.mp (by simp)
      have h2 : y ∈ x :: a := h.mem_iff.mpr (by simp)
      rcases List.mem_cons.mp h1 with e | e
      · exact e
      rcases List.mem_cons.mp h2 with e2 | e2
      · exact e2.symm
      have := ha'.1 y e2
      have := hb'.1 x e
      omega
    subst e
    rw [sorted_uniq ha'.2 hb'.2 (List.Perm.cons_inv h)]
def bey1 (l : List Int) (c nw : Int) : List Int := srtI ((l.filter fun x => !decide (x = c)) ++ [nw])
def beyF (m : Int) (l : List Int) (c : Int) : List (List Int) := ((outL m l).map (bey1 l c)).filter fun o => decide (oddF m o = 0)
theorem bey1_len (l : List Int) (c nw : Int) : (bey1 l c nw).length ≤ l.length + 1 := by
  unfold bey1
  rw [(srtI_perm _).length_eq, List.length_append]
  have := List.length_filter_le (fun x => !decide (x = c)) l
  simp only [List.length_cons, List.length_nil]
  omega
section
variable {P : Program} {w : World} {K : PySem.W.Frag} {mg : Str → Option Value} {base : Heap}
theorem ef_sortI {σ : L2.St} {H : Hp} {te : TE} {ns : List Int} (h : EvF K te σ H (ns.map PyData.int)) (hn : ns.length < 64) : EvF K (tCB (rSorted K) (tCons te tNil)) σ H ((srtI ns).map PyData.int) := fun H1 e Q q =>
  h H1 e _ fun p xs H2 np e2 hp hx => ⟨p, ns, rfl, by rw [dta_ints_inv hx] at hp; exact sq_of hp, hn, fun ns' p' hperm hsrt hp' => by
    have e3 : ns' = srtI ns := sorted_uniq hsrt (srtI_sorted ns) (hperm.trans (srtI_perm ns).symm)
    rw [e3]
    exact q p' _ _ (fresh_back e2 hp') (e2.trans (Ex.new hp')) upd_same (dta_ints _)⟩
end
section
variable {P : Program} {w : World} {K : PySem.W.Frag} {mg : Str → Option Value} {base : Heap}
def sp_beyondN (L : All K mg) : Sp := fun vs H Q E => ∃ (m d c : Int) (l : List Int), DtAll K H vs [curveD m d, lotD l, .int c] ∧ okC m d ∧ PaneFacts m d l ∧ (l.contains c = false → ∀ H2, Ex H H2 → E (.ref L.C_NoCorner) none H2) ∧ (l.contains c = true → ∃ z, (beyF m l c)[0]? = some z ∧ ∀ v H2, Ex H H2 → Dt K H2 v (lotD z) → Q v H2)
theorem okN_beyond (L : All K mg) {k : Nat} : FnOk P w K mg base (L2N.CX P w) (k + 7) L.f_beyond L.fd_beyond ["curve", "pane", "corner"] (sp_beyondN L) := by
  have B := L.B
  have D_is_whole := L.D_is_whole
  have G_is_whole := ok_is_whole (P := P) (w := w) (base := base) L (k := 0)
  have D_odd_blocks := L.D_odd_blocks
  have G_odd_blocks := ok_odd_blocks (P := P) (w := w) (base := base) L (k := 0)
  have D_need_pane := L.D_need_pane
  have G_need_pane := ok_need_pane (P := P) (w := w) (base := base) L (k := 0)
  refine fun_okN L.D_beyond.F sc_beyond (fun vs H Q E h => ?_) (fun cdv A outer s H vs Q E hr h => ?_)
  · obtain ⟨m, d, c, l, h, _⟩ := h
    rw [dta_len h]
    rfl
  · obtain ⟨m, d, c, l, h, hc, hf, qr, qn⟩ := h
    obtain ⟨v0, v1, v2, rfl, h0, h1, h2⟩ := dta3 h
    obtain rfl := dt_int h2
    refine ⟨_, (pss_cons (PS.nox (ps_expr (pe_call G_need_pane (hr.mono (by omega)) (by rfl) D_need_pane.g D_need_pane.F.kp D_need_pane.b .nil pass0 (pa_cons (pv 0) (pa_cons (pv 1) pa_nil))))) (pss_cons (ps_if (PT.nox (PW.pt (pw_or (pt_not (pt_val (pe_call G_is_whole (hr.mono (by omega)) (by rfl) D_is_whole.g D_is_whole.F.kp D_is_whole.b .nil pass0 (pa_cons (pv 2) pa_nil)))) (pw_or1 (pt_cmpR (show OpR _ _ (rIn K true) from op_notIn_seq) (pv 2) (pv 1) (by rfl)))))) (pss_one (L2N.ps_raise rfl (L2N.takes_of rfl rfl rfl rfl) (L2N.pmk_own PySem.F.excBase_ValueError L.R_NoCorner.x L.R_NoCorner.g L.R_NoCorner.kp (raises_own L.R_NoCorner.b L.R_NoCorner.t) rfl))) pss_nil) (PSs.nox (pss_cons (ps_set (i := 3) sc_beyond.nd rfl (.inr rfl) (pe_ix (show IxR _ (rIxT K) from ix_tup) (pv 0) pe_int (fun _ _ => rfl)))  (pss_cons (ps_set (i := 4) sc_beyond.nd rfl (.inr rfl) (pe_lc (own := [("one", 5)]) rfl sc_beyond.nd (pi_tup (pv 1)) (blkOk_by (own := [("one", 5)]) (N := N_beyond) (sc := defScope s_beyond) (by decide +kernel)) (fun _ _ _ _ _ => (pg_name (i := 5) sc_beyond.nd rfl (.inl rfl))) (fun _ _ _ _ _ => pts_one (pt_cmpR op_ne (pv 5) (pv 2) (nomark _))) (fun _ _ _ _ _ => (pv 5))))  (pss_cons (ps_setLc (i := 6) (own := [("new", 7)]) rfl sc_beyond.nd rfl rfl (sw_true rfl rfl rfl (by decide +kernel)) (pi_range1 (by rfl) B.range_ (pa_cons (pv 3) pa_nil)) (blkOk_by (own := [("new", 7)]) (N := N_beyond) (sc := defScope s_beyond) (by decide +kernel)) (fun _ _ _ _ _ => (pg_name (i := 7) sc_beyond.nd rfl (.inl rfl))) (fun _ _ _ _ _ => pts_one (pt_cmpR (show OpR _ _ (rIn K true) from op_notIn_seq) (pv 7) (pv 1) (by rfl))) (fun _ _ _ _ _ => (pe_callTy (show CallR _ _ (rTupS K) from call_tuple_of) (by rfl) B.tuple_ (by decide +kernel) (pa_cons (pe_callB (show CallR _ _ (rSorted K) from cr_sorted) (by rfl) B.sorted_ (by decide +kernel) (pa_cons (pe_op op_cat (pv 4) (pe_lst (pa_cons (pv 7) pa_nil))) pa_nil)) pa_nil))))  (pss_one (ps_ret (pe_ix (show IxR _ (rIxL K) from ix_list) (pe_lc (own := [("other", 8)]) rfl sc_beyond.nd (pi_list (pv 6)) (blkOk_by (own := [("other", 8)]) (N := N_beyond) (sc := defScope s_beyond) (by decide +kernel)) (fun _ _ _ _ _ => (pg_name (i := 8) sc_beyond.nd rfl (.inl rfl))) (fun _ _ _ _ _ => pts_one (pt_cmpR op_eq (pe_call G_odd_blocks (hr.mono (by omega)) (by rfl) D_odd_blocks.g D_odd_blocks.F.kp D_odd_blocks.b .nil pass0 (pa_cons (pv 3) (pa_cons (pv 8) pa_nil))) pe_int (nomark _))) (fun _ _ _ _ _ => (pv 8))) pe_int (fun _ _ => rfl)))))))))), ?_⟩
    obtain ⟨c1, c2, c3, c4⟩ := id hc
    have hlen := hf.len
    refine q_drop (ev_need_pane (K := K) (eb_cons (ed_var rfl h0) (eb_cons (ed_var rfl h1) eb_nil)) (by first | assumption | omega | (refine ⟨?_, ?_⟩ <;> first | assumption | omega) | (refine ⟨?_, ?_, ?_⟩ <;> first | assumption | omega) | (refine ⟨?_, ?_, ?_, ?_⟩ <;> first | assumption | omega) | (repeat' apply And.intro) <;> first | assumption | omega)) fun H1 e1 => ?_
    refine q_when (b := !l.contains c) (et_is (et_or (et_not (et_B (ev_wholeI (ev_var rfl)))) (fun _ => (et_test (ev_niI (K := K) (ev_var rfl) (ed_var rfl (dt_ex e1 h1)))))) (by rfl)) (fun hb H2 e2 => qr (by simpa using hb) H2 (e1.trans e2)) (fun hb H2 e2 => ?_)
    have hcm : l.contains c = true := by simpa using hb
    obtain ⟨z, hz, q⟩ := qn hcm
    have e12 := e1.trans e2
    refine q_asg (v := .int m) (ev_int (K := K) (ed_ixT (ds := [.int m, .int d]) (ed_var rfl (dt_ex e12 h0)) ev_c rfl)) fun H3 e3 => ?_
    have e13 := e12.trans e3
    refine q_asgF (K := K) (ds := (l.filter fun x => !decide (x = c)).map PyData.int) (ef_is (ef_lcT (ds := l.map PyData.int) (fun x => !decide (unint x = c)) (fun x => x) (ed_var rfl (dt_ex e13 h1)) (by rw [List.length_map]; omega) (fun _ => rfl) (fun x v H4 e4 hm hx => ?_) (fun x v H4 e4 hm hx _ => ed_var rfl hx)) (filt_ints fun _ => rfl)) fun p6 xs6 H4 np6 e4 hp6 hx6 => ?_
    · obtain ⟨y, _, rfl⟩ := mem_ints hm
      obtain rfl := dt_int hx
      exact et_test (ev_op (ev_var rfl) (ev_var rfl) rv_neI)
    have e14 := e13.trans e4
    refine q_asgF (K := K) (ds := ((outL m l).map (bey1 l c)).map lotD) (ef_is (ef_lcR1 (fun x => !l.contains x) (fun x => lotD (bey1 l c x)) (ea_cons (ev_var rfl) ea_nil) ⟨by omega, by omega⟩ (fun _ => rfl) (fun x H5 e5 _ _ => et_test (ev_niI (K := K) (ev_var rfl) (ed_var rfl (dt_ex (e14.trans e5) h1)))) (fun x H5 e5 _ _ _ => ?_)) (by rw [List.map_map]; rfl)) fun p7 xs7 H5 np7 e5 hp7 hx7 => ?_
    · refine ed_tupF (ef_sortI (K := K) (ns := (l.filter fun x => !decide (x = c)) ++ [x]) (ef_is (ef_catLF (K := K) (ev_var rfl) (e5 _ _ hp6) (dta_ex e5 hx6) (ef_lst (eb_cons (ed_int (ev_var rfl)) eb_nil) (by show 1 ≤ 100000; decide)) ?_) (by rw [List.map_append]; rfl)) ?_)
      · rw [List.length_map]
        have := List.length_filter_le (fun x => !decide (x = c)) l
        show _ + 1 ≤ 100000
        omega
      · rw [List.length_append]
        have := List.length_filter_le (fun x => !decide (x = c)) l
        show _ + 1 < 64
        have := hf.pane
        unfold paneF at this
        simp only [Bool.and_eq_true, decide_eq_true_eq] at this
        omega
    refine s_retD (K := K) (ed_ixF (ds := (beyF m l c).map lotD) (ef_is (ef_lcL (ds := ((outL m l).map (bey1 l c)).map lotD) (fun x => decide (oddF m (unlot x) = 0)) (fun x => x) (ev_var rfl) (sq_of hp7) hx7 ?_ (fun _ => rfl) (fun x v H6 e6 hm hx => ?_) (fun x v H6 e6 hm hx _ => ed_var rfl hx)) (filt_lots fun l => by rw [unlot_lot])) ev_c (i := 0) ?_) fun v H6 e6 hv => q v H6 ((e14.trans e5).trans e6) hv
    · rw [List.length_map, List.length_map]
      have := List.length_filter_le (fun c => !l.contains c) (upTo 0 m)
      rw [upTo_len] at this
      show ((upTo 0 m).filter _).length < 50000
      omega
    · obtain ⟨o, ho, rfl⟩ := mem_lots hm
      rw [unlot_lot]
      obtain ⟨nw, _, rfl⟩ := List.mem_map.mp ho
      have hbl := bey1_len l c nw
      exact (et_test (ev_op (ev_odd_blocks (K := K) (eb_cons (ed_int (ev_var rfl)) (eb_cons (ed_var rfl hx) eb_nil)) (by first | assumption | omega | (refine ⟨?_, ?_⟩ <;> first | assumption | omega) | (refine ⟨?_, ?_, ?_⟩ <;> first | assumption | omega) | (refine ⟨?_, ?_, ?_, ?_⟩ <;> first | assumption | omega) | (repeat' apply And.intro) <;> first | assumption | omega)) ev_c rv_eqI))
    · exact atI_nat (j := 0) (by rw [List.getElem?_map, hz]; rfl)
end
/-! ### defs that are called where no text is under way -/
structure FnG (P : Program) (w : World) (K : PySem.W.Frag) (mg : Str → Option Value) (base : Heap) (k : Nat) (f : Addr) (fd : FuncData) (ps : List Str) (sp : Sp) : Prop where
  ln : ∀ vs H Q E, sp vs H Q E → vs.length = ps.length
  go : ∀ (A : Around) (outer : List Env) (s : Shared) (H : Hp) (args : Args) (us : List Value) (vs : List V) (Q : VK) (E : XK), A.guards = some [] → Room k A → Env0 P w K mg base A outer s H → BindsTo s fd args (ps.zip us) → Vals vs us → sp vs H Q E → codeAny (model P w) A (.call (.ref f) args) (CR CX0 outer P w H s Q E) s
section
variable {P : Program} {w : World} {K : PySem.W.Frag} {mg : Str → Option Value} {base : Heap}
theorem FnG.of {k : Nat} {f : Addr} {fd : FuncData} {ps : List Str} {sp : Sp} (F : FnOk P w K mg base CX0 k f fd ps sp) : FnG P w K mg base k f fd ps sp := ⟨F.len, fun A outer s H args us vs Q E _ => F.run A outer s H args us vs Q E⟩
theorem fnG_of {k : Nat} {f : Addr} {name x : Str} {params : Arguments} {body : List Stmt} {scope : Scope} {dV kV doc pm cdv ct oc : Value} {an od : Option Addr} {osl : Array (Option Value)} {N ps : List Str} {sp : Sp} (lk : K.lookup f = some ⟨oc, od, .func (PySem.W.fnOf name x params body scope dV kV doc pm an cdv ct), osl⟩) (hcd : PySem.W.codeIn K cdv x = true) (S : FnScope N ps scope) (ln : ∀ vs H Q E, sp vs H Q E → vs.length = ps.length)
    (bd : ∀ (A : Around) (outer : List Env) (s : Shared) (H : Hp) (vs : List V) (Q : VK) (E : XK), A.guards = some [] → Room k (A.deeper (envOfC x scope s.heap.objs.size f cdv)) → sp vs H Q E → ∃ t, PSs (cxOf CX0 P w K mg base N x scope f cdv A outer s H E).nox body t ∧ t { nx := fun _ H' => Q .non H', rt := Q } (start N vs) H) :
    FnG P w K mg base (k + 1) f (PySem.W.fnOf name x params body scope dV kV doc pm an cdv ct) ps sp := by
  refine ⟨ln, fun A outer s H args us vs Q E gd hr e0 hb r hsp => ?_⟩
  have up : ∀ b o, base.get? b = some o → s.heap.get? b = some o := fun b o z => (e0.bs b o z).1
  have KX : K.In s.heap := e0.mod.kin.keeps up
  have par : ∀ y ∈ ps.zip us, scope.names.lookup y.1 = some .local ∨ (scope.names.lookup y.1 = some .cell ∧ ((cellsFrom (s.heap.objs.size + 1) scope.names []).lookup y.1).isSome = true) := fun y hy =>
    (S.par y.1 (List.of_mem_zip (show (y.1, y.2) ∈ ps.zip us from hy)).1).imp id fun q => ⟨q, PySem.W.cellsFrom_some _ _ _ (.inl q)⟩
  refine codeAny_call_function hr.depth (KX _ _ lk) rfl S.co S.gen rfl (PySem.W.codeRec_of KX hcd) (hb _ _ _ _ (wpAny_newFunctionEnv_cells S.kind par fun env he s1 z => ?_))
  subst he
  obtain ⟨t, ht, hq⟩ := bd A outer s H vs Q E gd (hr.deeper _) hsp
  have I := inv_start (CX := CX0) (E := E) S hr.hd e0 (ln _ _ _ _ hsp) r z
  refine ⟨(e0.mod.nolimit.keeps up).keeps z.toInCall.keep, codeAny_func (wpAny_mono (ht.nox.run [] s1 (start N vs) H _ I hq) (fun fl s' hs => ?_) fun e s' hs => hs)⟩
  match fl, hs with
  | .ret u, ⟨v, σ', H', J, rv, q⟩ => exact ⟨v, H', J.os, J.bare, J.base, J.hok, rv, q⟩
  | .next, ⟨σ', H', J, q⟩ => exact ⟨.non, H', J.os, J.bare, J.base, J.hok, rfl, q⟩
  | .brk, ⟨_, _, _, q⟩ => exact q.elim
  | .cont, ⟨_, _, _, q⟩ => exact q.elim
theorem okG {x : Str} {st : Stmt} {f : Addr} {fd : FuncData} {N ps : List Str} {k : Nat} {sp : Sp} (F : Fun K x x st f fd) (S : FnScope N ps (defScope st)) (ln : ∀ vs H Q E, sp vs H Q E → vs.length = ps.length)
    (bd : ∀ (cdv : Value) (A : Around) (outer : List Env) (s : Shared) (H : Hp) (vs : List V) (Q : VK) (E : XK), A.guards = some [] → Room k (A.deeper (envOfC x (defScope st) s.heap.objs.size f cdv)) → sp vs H Q E → ∃ t, PSs (cxOf CX0 P w K mg base N x (defScope st) f cdv A outer s H E).nox (defBody st) t ∧ t { nx := fun _ H' => Q .non H', rt := Q } (start N vs) H) :
    FnG P w K mg base (k + 1) f fd ps sp := by
  obtain ⟨oc, od, kV, doc, pm, an, cdv, ct, osl, rfl, lk, hcd⟩ := F.ex
  exact fnG_of lk hcd S ln fun A outer s H vs Q E gd hr hsp => bd cdv A outer s H vs Q E gd hr hsp
end
section
variable {X : Cx} {k : Nat} {f : Addr} {fd : FuncData} {ps : List Str} {sp : Sp} {E : XK} {x : Str} {p pos : Pos} {e : Expr} {es : List Expr} {t : TA}
theorem pe_callG (F : FnG X.prog X.w X.K X.mg X.base k f fd ps sp) (gd : X.A.guards = some []) (hr : Room k X.A) (hg : Gl X x) (hm : X.mg x = some (.ref f)) (hk : PySem.W.keepIn X.K (.ref f) = true) (hb : Binds X.K fd ps []) (ha : PA X (e :: es) t)
    (hdb : (x == ("__debug__" : Str)) = false := by decide) (he : starEach (e :: es) X.env = (false, eval e X.env) :: starEach es X.env := by rfl) (hpl : (backTo pos (starEach es X.env)).any (·.1) = false := by rfl) : PE X (.Call (.Name x p) (e :: es) [] pos) (tCall sp [] E t) := ⟨fun pins s σ H Q I h => by
  refine wpAny_Call_Name_kw (ld_glob I hg hm (PySem.W.callWith_K (h₀ := X.base) I.ok.mod.kin hk (thn (ha.run pos pins s σ H _ I h) fun us s1 ⟨vs, H1, I1, r, q⟩ => ⟨I1.kIn, ?_⟩) he hpl) hdb)
  have q : sp (vs ++ []) H1 Q E := q
  rw [List.append_nil] at q
  have hl : (us ++ []).length = ps.length := by rw [List.append_nil, ← r.length]; exact F.ln _ _ _ _ q
  have bt := hb s1 us I1.kIn hl
  rw [List.append_nil] at bt
  refine wpAny_call (codeAny_mono (F.go X.A X.stack s1 H1 ⟨us, []⟩ us vs Q E gd hr I1.env0 bt r q) fun r s' z => ?_)
  match r, z with
  | .ok (.ret u), z => exact I1.after z
  | .ok .next, z => exact z.elim
  | .ok .brk, z => exact z.elim
  | .ok .cont, z => exact z.elim
  | .error e, z => exact z.elim⟩
end
/-! ### the end of a law whose def is an FnG: its tables as things that stay tables (Ps), as the head leaves them (Ts) -/
def spLawY (K : PySem.W.Frag) (Ps Ts : List Addr) : Sp := fun vs H Q _ => ∃ (a : Addr) (ns : List Int), vs = [.ref a] ∧ SqL K H a (ns.map V.int) ∧ ns.length ≤ 63 ∧ (∀ p ∈ Ps, H p = some (TabO p)) ∧ (∀ p ∈ Ts, H p = some (.tbl #[])) ∧ ∀ H', (∀ p ∈ Ps, H' p = some (TabO p)) → Q (.bl true) H'
/-- what is tracked at the law's call -/
def hd0 (K : PySem.W.Frag) (Ps Ts : List Addr) (a : Addr) (o : Obj) (xs : List V) : Hp := fun b =>
  if b ∈ Ps then some (TabO b) else if b ∈ Ts then some (.tbl #[]) else if b = a ∧ (K.lookup a).isNone = true then some (.frz o (.lst xs)) else none
/-- a code object c of the module, its table at P, untouched as yet -/
structure CdK (K : PySem.W.Frag) (h : Heap) (P : Addr) : Prop where
  tab : h.get? P = some { cls := .none, data := .fields #[] }
  free : K.lookup P = none
  cd : ∃ c, PySem.W.codeHdIn K c P = true
theorem cdk_mk {K : PySem.W.Frag} {h : Heap} {f c P : Addr} {oc e : Value} {od dd : Option Addr} {fd : FuncData} {osl sl : Array (Option Value)} {vs : Array Value} (O : LamX.OwnTab K f h) (l : K.lookup f = some ⟨oc, od, .func fd, osl⟩) (hc : fd.code = .ref c) (lc : K.lookup c = some ⟨e, dd, .fields vs, sl⟩) (v : vs[11]? = some (.ref P)) (hh : PySem.W.codeHdIn K c P = true) (np : K.lookup P = none) : CdK K h P :=
  ⟨O c P _ fd e dd vs sl l rfl hc lc v, np, c, hh⟩
theorem law_callG {P : Program} {w : World} {K : PySem.W.Frag} {mg mb : Str → Option Value} {k : Nat} {fa a : Addr} {Ps Ts : List Addr} {fd : FuncData} {x : Str} {s₁ : Shared} {vs : List Value} {ns : List Int}
    (KX : K.In s₁.heap) (hns : s₁.heap.Ns mainGlobals mg) (hb : s₁.heap.Ns builtinsNs mb) (hbb : ∀ x : Str, x ≠ "__name__" → mb x = bootBuiltins x) (hlim : s₁.heap.NoLimit) (hg : s₁.gens = #[])
    (CP : ∀ p ∈ Ps, CdK K s₁.heap p) (CT : ∀ p ∈ Ts, CdK K s₁.heap p) (apart : ∀ p ∈ Ts, p ∉ Ps)
    (hbm : ∃ (bm : Addr) (ob : Obj), mg "__builtins__" = some (.ref bm) ∧ bm ≠ builtinsNs ∧ s₁.heap.get? bm = some ob ∧ ob.cls = .type "module" ∧ ob.dict = some builtinsNs ∧ ob.data = .plain)
    (ha : s₁.heap.get? a = some { cls := .type "list", data := .seq vs.toArray }) (hi : IntsAre vs ns) (hl : ns.length ≤ 63) (hr : Room k callerA)
    (F : ∀ base : Heap, K.In base → base.Ns mainGlobals mg → (∀ (c p : Addr), p ∈ Ps ++ Ts → PySem.W.codeHdIn K c p = true → GxR.TabB base mg c p) → FnG P w K mg base k fa fd [x] (spLawY K Ps Ts)) (hbind : ∀ (s : Shared) (u : Value), BindsTo s fd ⟨[u], []⟩ [(x, u)]) :
    codeAny (model P w) callerA (.call (.ref fa) ⟨[.ref a], []⟩) (fun r s' => r = .ok (.ret (.bool true)) ∧ OldK s₁.heap s'.heap ∧ s'.os = s₁.os ∧ AllBare s'.gens) s₁ := by
  have CA : ∀ p ∈ Ps ++ Ts, CdK K s₁.heap p := fun p hp => (List.mem_append.mp hp).elim (CP p) (CT p)
  have rv := vals_ints hi
  have aP : a ∉ Ps ++ Ts := fun z => by
    have q := (CA a z).tab
    rw [ha] at q
    exact absurd (congrArg Obj.data (Option.some.inj q)) (fun z => nomatch z)
  have aP1 : a ∉ Ps := fun z => aP (List.mem_append_left _ z)
  have aP2 : a ∉ Ts := fun z => aP (List.mem_append_right _ z)
  obtain ⟨H, hH⟩ : ∃ H, H = hd0 K Ps Ts a { cls := .type "list", data := .seq vs.toArray } (ns.map V.int) := ⟨_, rfl⟩
  have H1 : ∀ p ∈ Ps, H p = some (TabO p) := fun p hp => by rw [hH]; exact if_pos hp
  have H2 : ∀ p ∈ Ts, H p = some (.tbl #[]) := fun p hp => by rw [hH]; exact (if_neg (apart p hp)).trans (if_pos hp)
  have H3 : ∀ b, b ∉ Ps ++ Ts → b ≠ a → H b = none := fun b h1 h2 => by
    rw [hH]
    exact (if_neg fun z => h1 (List.mem_append_left _ z)).trans ((if_neg fun z => h1 (List.mem_append_right _ z)).trans (if_neg fun z => h2 z.1))
  have Ha : H a = if (K.lookup a).isNone = true then some (.frz { cls := .type "list", data := .seq vs.toArray } (.lst (ns.map V.int))) else none := by
    rw [hH]
    refine (if_neg aP1).trans ((if_neg aP2).trans ?_)
    by_cases hk : (K.lookup a).isNone = true
    · rw [if_pos hk]; exact if_pos ⟨rfl, hk⟩
    · rw [if_neg hk]; exact if_neg fun z => hk z.2
  have low : ∀ {b : Addr} {o : Obj}, s₁.heap.get? b = some o → (∀ u n, o.data ≠ .seq u n) → o.data ≠ .fields #[] → H b = none := fun {b o} e h1 h2 => by
    refine H3 b (fun z => ?_) fun z => ?_
    · rw [(CA b z).tab] at e
      cases e
      exact h2 rfl
    · rw [z, ha] at e
      cases e
      exact h1 _ _ rfl
  have dic : ∀ {b : Addr} {m : Str → Option Value}, s₁.heap.Ns b m → (hidT s₁.heap H).Ns b m := fun {b m} ⟨o, es, ep, e, d, r⟩ => ⟨o, es, ep, hidT_get e (low e (fun u n z => by rw [d] at z; cases z) fun z => by rw [d] at z; cases z), d, r⟩
  have KB : K.In (hidT s₁.heap H) := fun b o e => hidT_get (KX b o e) (by
    by_cases h1 : b ∈ Ps ++ Ts
    · rw [(CA b h1).free] at e; cases e
    · by_cases h2 : b = a
      · subst h2
        rw [Ha, e]
        rfl
      · exact H3 b h1 h2)
  have MO : Mod K mg (hidT s₁.heap H) := ⟨KB, dic hns, ⟨mb, dic hb, hbb⟩, let ⟨mc, l1, l2⟩ := hlim; ⟨mc, dic l1, l2⟩⟩
  have TB : ∀ (c p : Addr), p ∈ Ps ++ Ts → PySem.W.codeHdIn K c p = true → GxR.TabB (hidT s₁.heap H) mg c p := fun c p hp hc => by
    have ht := (CA p hp).tab
    obtain ⟨o, es, ep, eo, ed, _⟩ := hns
    refine ⟨PySem.W.codeHd_of_K KB hc, ?_, fun z => by rw [z, ht] at eo; cases eo; cases ed⟩
    obtain ⟨bm, ob, b1, b2, b3, b4, b5, b6⟩ := hbm
    exact ⟨bm, ob, b1, b2, fun z => (by rw [z, eo] at b3; cases b3; rw [ed] at b6; cases b6), fun z => (by rw [z, ht] at b3; cases b3; cases b6), hidT_get b3 (low b3 (fun u n z => by rw [b6] at z; cases z) fun z => by rw [b6] at z; cases z), b4, b5, b6⟩
  have OK : HOk P w H s₁.heap := fun b u e => by
    by_cases h1 : b ∈ Ps
    · rw [H1 b h1] at e
      cases e
      exact tab_obj ⟨#[], (CP b h1).tab, True.intro⟩
    · by_cases h2 : b ∈ Ts
      · rw [H2 b h2] at e
        cases e
        exact (CT b h2).tab
      · by_cases h3 : b = a
        · subst h3
          rw [Ha] at e
          by_cases hk : (K.lookup b).isNone = true
          · rw [if_pos hk] at e
            cases e
            exact ⟨ha, by rw [List.length_map]; exact Nat.le_trans hl (by decide), vs, _, rv, ha⟩
          · rw [if_neg hk] at e; cases e
        · rw [H3 b (fun z => (List.mem_append.mp z).elim h1 h2) h3] at e; cases e
  have hS : SqL K H a (ns.map V.int) := by
    cases hk : K.lookup a with
    | none => exact .inl (.inr ⟨_, by rw [Ha, hk]; rfl⟩)
    | some o =>
      have e := KX a o hk
      rw [ha] at e
      cases e
      exact .inr ⟨_, vs.toArray, _, hk, rfl, rfl, rfl, by rw [List.size_toArray, hi.length]; exact Nat.le_trans hl (by decide), by simpa using rv⟩
  have e0 : Env0 P w K mg (hidT s₁.heap H) callerA [] s₁ H := ⟨rfl, MO, fun b o e => of_hidT e, Nat.le_of_eq (hidT_size _ _), trivial, fun b hb => absurd (show b ∈ ([] : List Addr) from hb) (by simp), OK, .of_eq hg⟩
  refine codeAny_mono ((F _ KB (dic hns) TB).go callerA [] s₁ H ⟨[.ref a], []⟩ [.ref a] [.ref a] (fun v H' => v = .bl true ∧ ∀ p ∈ Ps, H' p = some (TabO p)) (fun _ _ _ => False) rfl hr e0 (hbind s₁ (.ref a)) (.cons rfl .nil) ⟨a, ns, rfl, hS, hl, H1, H2, fun H' h' => ⟨rfl, h'⟩⟩) fun r s' h => ?_
  match r, h with
  | .error e, h => exact h.elim
  | .ok .next, h => exact h.elim
  | .ok .brk, h => exact h.elim
  | .ok .cont, h => exact h.elim
  | .ok (.ret u), ⟨v, H', os, bare, un, hok', r', q, tb⟩ =>
    subst q
    obtain rfl : u = Value.bool true := r'
    have nf : ∀ b : Addr, b ∉ frs [] := fun b z => absurd (show b ∈ ([] : List Addr) from z) (by simp)
    have same : ∀ b o, b ∉ Ps ++ Ts → s₁.heap.get? b = some o → s'.heap.get? b = some o := fun b o h1 e => by
      by_cases h2 : b = a
      · subst h2
        by_cases hk : (K.lookup b).isNone = true
        · rw [if_pos hk] at Ha
          have z := hok' b _ (un.frzs b _ _ Ha)
          rw [ha] at e
          cases e
          exact z.1
        · rw [if_neg hk] at Ha
          exact un.keep b o e Ha (nf b) (by simp)
      · exact un.keep b o e (H3 b h1 h2) (nf b) (by simp)
    have grown : ∀ p ∈ Ps ++ Ts, ∃ more : Array Value, s'.heap.get? p = some { cls := .none, data := .fields more } := fun p hp => by
      rcases List.mem_append.mp hp with hp | hp
      · obtain ⟨⟨ps, e, _⟩, _⟩ := hok' p _ (tb p hp)
        exact ⟨ps, e⟩
      · obtain ⟨more, z⟩ := un.tbls p #[] (H2 p hp)
        exact ⟨_, hok' p _ z⟩
    refine ⟨rfl, ⟨fun b o e => ?_, fun b o e => ?_⟩, os, bare⟩
    · by_cases h1 : b ∈ Ps ++ Ts
      · obtain ⟨more, hm⟩ := grown b h1
        have ht := (CA b h1).tab
        obtain ⟨c, hc⟩ := (CA b h1).cd
        rw [ht] at e
        cases e
        exact .inr (.inl ⟨((PySem.W.codeHd_of_K KX hc).tab ht).isCodeTable, rfl, #[], more, rfl, by rw [Array.empty_append]; exact hm⟩)
      · exact .inl (same b o h1 e)
    · by_cases h1 : b ∈ Ps ++ Ts
      · obtain ⟨more, hm⟩ := grown b h1
        exact ⟨_, hm⟩
      · exact ⟨o, same b o h1 e⟩
/-- what is known of the law's def at the head's heap -/
def LawG (l : PySem.W.OpenLaw) (w : World) (K : PySem.W.Frag) (k : Nat) (x : Str) (mg : Str → Option Value) (fa : Addr) (h : Heap) : Prop :=
  ∃ (fd : FuncData) (Ps Ts : List Addr), (∀ p ∈ Ps, CdK K h p) ∧ (∀ p ∈ Ts, CdK K h p) ∧ (∀ p ∈ Ts, p ∉ Ps) ∧ (∀ (s : Shared) (u : Value), BindsTo s fd ⟨[u], []⟩ [(x, u)]) ∧
    ∀ base : Heap, K.In base → base.Ns mainGlobals mg → (∀ (c p : Addr), p ∈ Ps ++ Ts → PySem.W.codeHdIn K c p = true → GxR.TabB base mg c p) → FnG l.prog w K mg base k fa fd [x] (spLawY K Ps Ts)
theorem walk_G {l : PySem.W.OpenLaw} {k : Nat} {q : Program} {loose : List Str} {XP : (Str → Option Value) → Heap → Prop} {YP : World → Heap → Prop} {d : DefRec} {K : Params → PySem.W.Frag} {x : Str} (names : List Str)
    (hn : l.most = some 63) (hdf : d.params.defaults = []) (hr : Room k callerA) (hrec : (names.all fun nm => (recsOf q).any fun e => e.name == nm) = true) (hY : ∀ (w : World) (h : Heap), YP w h → (K w.params).In h)
    (F : ∀ (w : World) (mg : Str → Option Value) (fa : Addr) (h : Heap), (K w.params).In h → h.Ns mainGlobals mg → mg d.name = some (.ref fa) → (∀ nm ∈ names, ∀ f, mg nm = some (.ref f) → LamX.OwnTab (K w.params) f h) → LawG l w (K w.params) k x mg fa h) :
    PySem.W.WalkO q loose XP YP l.row.toRowW d [] (fun f vs => PySem.call f vs) := by
  refine Att.attach_callB hn hdf fun w s₀ s₁ mg mb fa o pm cd doc a vs ns G Y ho hd hcd hmg hobj hints hlen hbits hg => ?_
  have KX := hY w _ Y
  have own : ∀ nm ∈ names, ∀ f, mg nm = some (.ref f) → LamX.OwnTab (K w.params) f s₁.heap := fun nm hnm f hf c P o1 fd1 e dd vs1 sl k1 k2 k3 k4 k5 => by
    obtain ⟨r, hr1, hr2⟩ := List.any_eq_true.mp (List.all_eq_true.mp hrec nm hnm)
    have er : r.name = nm := beq_iff_eq.mp hr2
    obtain ⟨a', o', fd', c', P', h1, h2, h3, h4, _, h6⟩ := G.T.tab r hr1
    rw [er, hf] at h1
    cases h1
    rw [KX _ _ k1] at h2
    cases h2
    rw [k2] at h3
    cases h3
    rw [k3] at h4
    cases h4
    obtain ⟨⟨oc, vc, e1, _, e3, e4⟩, hP⟩ := h6
    rw [KX _ _ k4] at e1
    cases e1
    cases e3
    rw [k5] at e4
    cases e4
    exact hP
  obtain ⟨fd, Ps, Ts, c1, c2, c3, hb, hF⟩ := F w mg fa _ KX G.T.g hmg own
  exact law_callG KX G.T.g G.T.b G.T.builtins G.T.nolimit hg c1 c2 c3 G.T.bmain hobj hints hlen hr hF hb
/-! ### an iterator's end while an exception is handled -/
section
open HotX
variable {prog : Program} {w : World} {A : Around} {E : Value → Shared → Prop} {s : Shared} {x1 : Addr}
theorem hot_in1 {h : Heap} (t : HotAt A x1 h) : HotAt A.in1 x1 h := t
theorem hot_up {h h' : Heap} (t : HotAt A x1 h) (k : ∀ b o, h.get? b = some o → h'.get? b = some o) : HotAt A x1 h' := by
  obtain ⟨a, o, vs, b, c, d⟩ := t
  exact ⟨a, o, vs, k _ _ b, c, d⟩
theorem hot_but {h h' : Heap} {it : Addr} {o : Obj} (t : HotAt A x1 h) (n : x1 ≠ it) (k : Heap.SameBut it h h') : HotAt A x1 h' := by
  obtain ⟨a, o, vs, b, c, d⟩ := t
  exact ⟨a, o, vs, (k.2 _ n).trans b, c, d⟩
theorem stop_hot {α : Type} {Q : α → Shared → Prop} (t : HotAt A x1 s.heap) (k : ∀ h' e, (∀ b o, s.heap.get? b = some o → h'.get? b = some o) → (∃ o, h'.get? e = some o ∧ o.cls = .type "StopIteration") → E (.ref e) { s with heap := h' }) :
    wpAny (model prog w) A (newExc (.type "StopIteration") [] >>= fun e => (raiseNew e : Sem α)) Q E s := by
  obtain ⟨hh, o1, vs1, h1, d1, c1⟩ := t
  refine wpAny_bind ?_
  simp only [newExc, newTuple]
  refine wpAny_bind (wpAny_newObj_type (wpAny_bind (m := firstArgMember _ _) (wpAny_of_eq (a := Value.none) (by first | rfl | (simp only [firstArgMember]; rfl)) (wpAny_newObj_type ?_ (by size_fits)))) (by size_fits))
  have u1 := Heap.get?_push_of_some { cls := .type "tuple", data := .seq ([] : List Value).toArray } h1
  refine raiseNew_hot ⟨hh, o1, vs1, Heap.get?_push_of_some _ u1, d1, c1⟩ (Nat.ne_of_lt (Heap.lt_size u1)) (Heap.get?_push_size _ rfl) rfl (by first | (simp; done) | (simp; omega) | decide) ?_
  refine k _ _ (fun b o e => ?_) ⟨_, Heap.get?_update_self _ (Heap.get?_push_size _ rfl) rfl, rfl⟩
  rw [Heap.get?_update_other _ _ (Nat.ne_of_gt (Heap.lt_size (Heap.get?_push_of_some _ e)))]
  exact Heap.get?_push_of_some _ (Heap.get?_push_of_some _ e)
theorem list_end_hot {it l : Addr} {i : Nat} {items : Array Value} {Q : Value → Shared → Prop} (t : HotAt A x1 s.heap) (n : x1 ≠ it) (hit : s.heap.IsListIter it l i) (hl : s.heap.IsList l items) (hx : items[i]? = none)
    (hE : ∀ h' e, Heap.ExtBut it s.heap h' → (∃ o, h'.get? e = some o ∧ o.cls = .type "StopIteration") → E (.ref e) { s with heap := h' }) : wpAny (model prog w) A (Builtin.SmallTypes.nextOf (.ref it)) Q E s := by
  obtain ⟨o, ho, hc, hd⟩ := id hit
  obtain ⟨ol, hol, _, nl, hdl⟩ := hl
  unfold Builtin.SmallTypes.nextOf
  refine wpAny_bind (wpAny_callSpecial?_slot (name := Str.ofString "__next__") hit.typeIs slot_listiter_next (wpAny_call_entry slot_listiter_next hit.typeIs entry_listiter_next ?_ (args_listiter_next _)))
  show wpAny _ _ (field (.ref it) 0 >>= _) _ _ s; refine wpAny_bind (wpAny_field ho hd (x := .ref l) rfl ?_)
  show wpAny _ _ (if (Value.ref l == Value.none) = true then _ else _) _ _ s; rw [if_neg (show ¬ ((Value.ref l == Value.none) = true) from Bool.false_ne_true)]
  show wpAny _ _ (field (.ref it) 1 >>= _) _ _ s; refine wpAny_bind (wpAny_field ho hd (x := .int i 0) rfl ?_)
  show wpAny _ _ (seqItems? (.ref l) >>= _) _ _ s; refine wpAny_bind (wpAny_seqItems hol hdl ?_)
  simp only [Int.toNat_natCast, hx]
  refine wpAny_bind (wpAny_rule (wpAny_bind (wpAny_setField ho hd (by simp) ?_)))
  have sb := Heap.SameBut.update s.heap it (Obj.mapFields (·.setIfInBounds 0 Value.none))
  refine stop_hot (A := A.in1) (hot_but (o := o) t n sb) fun h' e k x => hE h' e (fun b ob hb q => k b ob ((sb.2 b hb).trans q)) x
theorem tuple_end_hot {it t : Addr} {i : Nat} {items : Array Value} {Q : Option Value → Shared → Prop} (t1 : HotAt A x1 s.heap) (n : x1 ≠ it) (hit : IsTupIter s.heap it t i) (ht : IsTup s.heap t items) (hx : items[i]? = none)
    (hQ : ∀ h', Heap.ExtBut it s.heap h' → Q none { s with heap := h' }) : wpAny (model prog w) A (pyNext (.ref it)) Q E s := by
  obtain ⟨o, ho, hc, hd⟩ := id hit
  obtain ⟨ol, hol, _, nl, hdl⟩ := ht
  unfold pyNext
  refine wpAny_bind (wpAny_attempt (wpAny_callSpecial?_slot (name := Str.ofString "__next__") hit.typeIs slot_tupleiter_next (wpAny_call_entry slot_tupleiter_next hit.typeIs entry_tupleiter_next ?_ (args_tupleiter_next _))))
  show wpAny _ _ (field (.ref it) 0 >>= _) _ _ s; refine wpAny_bind (wpAny_field ho hd (x := .ref t) rfl ?_)
  show wpAny _ _ (if (Value.ref t == Value.none) = true then _ else _) _ _ s; rw [if_neg (show ¬ ((Value.ref t == Value.none) = true) from Bool.false_ne_true)]
  show wpAny _ _ (field (.ref it) 1 >>= _) _ _ s; refine wpAny_bind (wpAny_field ho hd (x := .int i 0) rfl ?_)
  show wpAny _ _ (seqItems? (.ref t) >>= _) _ _ s; refine wpAny_bind (wpAny_seqItems hol hdl ?_)
  simp only [Int.toNat_natCast, hx]
  refine wpAny_bind (wpAny_rule (wpAny_bind (wpAny_setField ho hd (by simp) ?_)))
  have sb := Heap.SameBut.update s.heap it (Obj.mapFields (·.setIfInBounds 0 Value.none))
  refine stop_hot (A := A.in1) (hot_but (o := o) t1 n sb) fun h' e k x => ?_
  obtain ⟨oe, he, hce⟩ := x
  exact wpAny_bind (wpAny_isInstance (T := "StopIteration") (b := true) ⟨oe, he, hce⟩ isSubtype_stop (wpAny_pure (hQ _ fun b ob hb q => k b ob ((sb.2 b hb).trans q))))
theorem enum_end_hot {e it l : Addr} {i : Nat} {items : Array Value} {old : Value} {Q : Option Value → Shared → Prop} (t : HotAt A x1 s.heap) (n : x1 ≠ it) (he : IsEnum s.heap e it i old) (hit : s.heap.IsListIter it l i) (hl : s.heap.IsList l items) (hx : items[i]? = none)
    (hQ : ∀ h', Heap.ExtBut it s.heap h' → Q none { s with heap := h' }) : wpAny (model prog w) A (pyNext (.ref e)) Q E s := by
  have hT : s.TypeIs (.ref e) "enumerate" := ⟨_, he, rfl⟩
  unfold pyNext
  refine wpAny_bind (wpAny_attempt (wpAny_callSpecial?_slot (name := Str.ofString "__next__") hT F.slot_enumerate_next (wpAny_call_entry F.slot_enumerate_next hT F.entry_enumerate_next ?_ (F.args_enumerate_next_1 _))))
  show wpAny _ _ (field (.ref e) 2 >>= _) _ _ _; refine wpAny_bind (wpAny_field he rfl (x := .ref it) rfl (wpAny_bind (list_end_hot (hot_in1 t) n hit hl hx fun h' x he' hx' => ?_)))
  obtain ⟨o, ho, hc⟩ := hx'
  exact wpAny_bind (wpAny_isInstance (T := "StopIteration") (b := true) ⟨o, ho, hc⟩ isSubtype_stop (wpAny_pure (hQ _ he')))
/-- a, b = t -/
theorem assign_tuple_hot {env : Env} {elts : List Expr} {k1} {pos : Pos} {t : Addr} {items : Array Value} {Q : Unit → Shared → Prop} (t1 : HotAt A x1 s.heap) (ht : IsTup s.heap t items) (hn : (assignEach elts env).length = items.size) (hstar : (assignEach elts env).findIdx? (·.1) = none)
    (h : ∀ h', Heap.ExtBut s.heap.objs.size s.heap h' → wpAny (model prog w) A (assignInOrder ((assignEach elts env).map (·.2)) items.toList) Q E { s with heap := h' }) : wpAny (model prog w) A (assign (.Tuple elts k1 pos) env (.ref t)) Q E s := by
  have hlt : t ≠ s.heap.objs.size := by obtain ⟨o, ho, _⟩ := ht; exact Nat.ne_of_lt (Heap.lt_size ho)
  have nx : x1 ≠ s.heap.objs.size := by obtain ⟨_, o, vs, b, _⟩ := t1; exact Nat.ne_of_lt (Heap.lt_size b)
  rw [PyProof.Rows.assign_Tuple]
  refine wpAny_bind (wpAny_standAt ?_)
  unfold unpack
  rw [hn, hstar]
  refine wpAny_bind (wpAny_holding ?_)
  unfold unpackItems notIterableAtAll
  refine wpAny_bind (wpAny_bind (wpAny_specialOf ht.typeIs slot_tuple_iter.lookup (wpAny_pure ?_)))
  simp only [Bool.false_eq_true, if_false]
  refine wpAny_bind (wpAny_holding (iter_tuple ht (wpAny_bind (wpAny_holding (draw_tuple hlt items.size 0 _ _ ⟨_, Heap.get?_push_size _ rfl, rfl, rfl⟩ (ht.push _) (by omega) fun h₁ hit₁ hs₁ => ?_)))))
  rw [show List.take items.size (List.drop 0 items.toList) = items.toList by rw [List.drop_zero]; exact List.take_of_length_le (by simp), if_neg (by simp)]
  have t2 : HotAt A x1 h₁ := hot_but (o := default) (hot_up t1 fun b o e => Heap.get?_push_of_some _ e) nx hs₁
  refine wpAny_bind (wpAny_holding (tuple_end_hot t2 nx hit₁ ((ht.push _).extBut hs₁.extBut hlt) (by simp) fun h₂ he₂ => ?_))
  simp only [Option.isSome_none, Bool.false_eq_true, if_false]
  exact wpAny_pure (h h₂ fun b o hb e => he₂ b o hb (hs₁.extBut b o hb (Heap.get?_push_of_some _ e)))
end
/-! ### [.. for a, b in enumerate(l) if ..] while an exception is handled -/
section
open HotX
variable {X : Cx} {pins : List (Addr × Obj)} {σ : L2.St} {H : Hp} {s : Shared}
/-- a target, the handled exception standing as it is -/
structure PGQ (X : Cx) (tg : Expr) (g : TG) : Prop where
  go : ∀ (x1 : Addr) (pins : List (Addr × Obj)) (s : Shared) (σ : L2.St) (H : Hp) (v : V) (u : Value) (Q : L2.St → Hp → Prop), HotAt X.A x1 s.heap → Inv X pins σ H s → RelV v u → g v σ H Q → wpAny (model X.prog X.w) X.A (assign tg X.env u) (fun _ s' => ∃ σ' H', Inv X pins σ' H' s' ∧ Q σ' H') X.xe s
theorem pgq_tup {es : List Expr} {k n : Nat} {t : TGs} {pos : Pos} (h : PGs X es t) (hn : (assignEach es X.env).length = n := by rfl) (hst : (assignEach es X.env).findIdx? (·.1) = none := by rfl) : PGQ X (.Tuple es k pos) (gTup X.K n t) := ⟨fun x1 pins s σ H v u Q hot I r hw => by
  obtain ⟨a, xs, rfl, hq, hl, hw⟩ := hw
  cases r
  obtain ⟨its, rv, ht, hz⟩ := I.tuple hq
  refine assign_tuple_hot hot ht (by simp [hn, ← hl, rv.length]) hst fun h' hx => ?_
  exact h.run pins _ σ H xs _ Q (I.kept (h' := h') (t' := s.toks) fun b o e => hx b o (Nat.ne_of_lt (Heap.lt_size e)) e) (by simpa using rv) hw⟩
/-- how the walk stands at the i-th turn -/
def enumAt (a e it : Addr) (i : Nat) (h : Heap) : Prop := (∃ old, IsEnum h e it ((i : Nat) : Int) old) ∧ h.IsListIter it a i ∧ e ≠ it
theorem enumAt.keep {a e it : Addr} {i : Nat} {h h' : Heap} (t : enumAt a e it i h) (k : ∀ b ∈ [e, it], ∀ o, h.get? b = some o → h'.get? b = some o) : enumAt a e it i h' := by
  obtain ⟨⟨old, he⟩, hi, n⟩ := t
  exact ⟨⟨old, k e (by simp) _ he⟩, hi.at fun o q => k it (by simp) o q, n⟩
theorem enumAt.obj {a e it : Addr} {i : Nat} {h : Heap} (t : enumAt a e it i h) : ∀ b ∈ [e, it], ∃ o, h.get? b = some o ∧ ∀ v, o.data ≠ .cell v := fun b hb => by
  obtain ⟨⟨old, he⟩, ⟨o, ho, hc, hd⟩, _⟩ := t
  rcases (show b = e ∨ b = it by simpa using hb) with rfl | rfl
  · exact ⟨_, he, fun v q => nomatch q⟩
  · exact ⟨o, ho, fun v q => by rw [hd] at q; cases q⟩
theorem enum_next {a e it : Addr} {i : Nat} {xs : List V} {x : V} {elts : List Expr} {kk : Nat} {tpos : Pos} {E : Value → Shared → Prop} (I : Inv X pins σ H s) (hf : ∀ b ∈ [e, it], FpOk X pins H b) (st : enumAt a e it i s.heap) (hq : SqL X.K H a xs) (hx : xs[i]? = some x) :
    wpAny (model X.prog X.w) X.A (pyNext (.ref e)) (fun r s1 => ∃ u, r = some u ∧ wpAny (model X.prog X.w) X.A (letOwnedTupleGo (.Tuple elts kk tpos) (.ref e) u) (fun _ s2 => ∃ T, u = .ref T ∧ H T = none ∧ Inv X pins σ (upd H T (.tup [.int (i : Nat), x])) s2 ∧ enumAt a e it (i + 1) s2.heap ∧ ∀ b ∈ [e, it], upd H T (.tup [.int (i : Nat), x]) b = none) E s1) E s := by
  obtain ⟨⟨old, he⟩, hit, hne⟩ := st
  obtain ⟨its, rv, p, hz⟩ := I.list hq
  obtain ⟨u, hu, ru⟩ := rv.get hx
  have lt : ∀ b ∈ [e, it], b < s.heap.objs.size := fun b hb => by
    rcases (show b = e ∨ b = it by simpa using hb) with rfl | rfl
    · exact Heap.lt_size he
    · obtain ⟨_, q, _⟩ := hit; exact Heap.lt_size q
  refine wpAny_pyNext_enum_item he hit p.isList (x := u) (by simpa using hu) hne fun h' ho hit' hT hsz hk => ⟨_, rfl, wpAny_letOwnedTupleGo_enum (s := { s with heap := h', toks := s.toks + 1 }) ho fun h2 he' sb => ?_⟩
  have hT2 : h2.get? s.heap.objs.size = some { cls := .type "tuple", data := .seq #[.int i s.toks, u] } := (sb.2 _ (Nat.ne_of_gt (lt e (by simp)))).trans hT
  have I1 := I.turnedNew (t' := s.toks + 1) (ch := [e, it]) (h' := h2) (fun b ob hb q => (sb.2 b (fun z => hb (by simp [z]))).trans (hk b ob (fun z => hb (by simp [z])) (fun z => hb (by simp [z])) q)) hf (Nat.le_refl _) (ob := .tup [.int (i : Nat), x]) ⟨by show 2 ≤ sizeLine; decide, [.int i s.toks, u], .cons ⟨_, rfl⟩ (.cons ru .nil), ⟨_, hT2, rfl, _, rfl⟩⟩
  refine ⟨_, rfl, I.hok.fresh (Nat.le_refl _), I1, ⟨⟨u, ?_⟩, hit'.at fun o q => (sb.2 it (Ne.symm hne)).trans q, hne⟩, fun b hb => by rw [upd_ne (Nat.ne_of_lt (lt b hb))]; exact (hf b hb).1⟩
  rw [show ((i + 1 : Nat) : Int) = (i : Int) + 1 by omega]
  exact he'
theorem enum_last {a e it x1 : Addr} {i : Nat} {xs : List V} {E : Value → Shared → Prop} (hot : HotAt X.A x1 s.heap) (I : Inv X pins σ H s) (hf : ∀ b ∈ [e, it], FpOk X pins H b) (st : enumAt a e it i s.heap) (hq : SqL X.K H a xs) (hx : xs.length ≤ i) :
    wpAny (model X.prog X.w) X.A (pyNext (.ref e)) (fun r s1 => r = none ∧ Inv X pins σ H s1) E s := by
  obtain ⟨⟨old, he⟩, hit, hne⟩ := st
  obtain ⟨its, rv, p, hz⟩ := I.list hq
  obtain ⟨f0, f1, f2, f3, f4, f5⟩ := hf it (by simp)
  have hl := rv.length
  have n1 : x1 ≠ it := fun z => by
    obtain ⟨_, o1, v1, g1, g2, g3⟩ := hot
    obtain ⟨o2, k1, _, k3⟩ := hit
    rw [z, k1] at g1
    cases g1
    rw [k3] at g2
    cases g2
    simp at g3
  exact enum_end_hot hot n1 he hit p.isList (by simp; omega) fun h' eb => ⟨rfl, I.turned (t' := s.toks) (fun b o hb q => eb b o hb q) f0 f1 f3 f4 f5⟩
theorem lc_hot {Q : VK} {elt ce : Expr} {elts : List Expr} {kk : Nat} {tpos p1 p2 : Pos} {ifs : List Expr} {scope : Scope} {own : List (Str × Nat)} {pos pos' : Pos} {ta : TA} {g : TG} {tt : TT} {te : TE} {use : Option (Value → Sem Unit)} {Qf : Value → Shared → Prop}
    (hot : L2H.HotC X) (hN : X.N.Nodup) (I : Inv X pins σ H s) (hgl : Gl X "enumerate") (hm : X.mg "enumerate" = none) (ha : PA X [ce] ta) (ok : BlkOk X.N X.env.scope scope own)
    (hg : ∀ (s : Shared) (H : Hp) (C : Addr) (cl : List (Str × Addr)) (fp : List Addr), PGQ (X.blk s H scope (compEnvC scope cl C X.env) fp) (.Tuple elts kk tpos) g) (ht : ∀ (s : Shared) (H : Hp) (C : Addr) (cl : List (Str × Addr)) (fp : List Addr), PTs (X.blk s H scope (compEnvC scope cl C X.env) fp) ifs tt)
    (he : ∀ (s : Shared) (H : Hp) (C : Addr) (cl : List (Str × Addr)) (fp : List Addr), PE (X.blk s H scope (compEnvC scope cl C X.env) fp) elt te) (hs : ∀ x, foldedSetIterable (.Call (.Name "enumerate" p1) [ce] [] p2) X.env x = pure x) (hst : starEach [ce] X.env = [(false, eval ce X.env)])
    (h : tLc (iEnum X.K ta) g tt te (own.map (·.2)) σ H Q) (hRR : ∀ D C s' m H', Inv X pins σ H' s' → Q (.ref D) H' → s'.heap.Ns C m → FpOk X pins H' C → compPost (model X.prog X.w) X.A X.xe use Qf (.ref D) C (.ok .next) s') :
    wpAny (model X.prog X.w) X.A (comprehension (.ListComp elt [⟨.Tuple elts kk tpos, .Call (.Name "enumerate" p1) [ce] [] p2, ifs, 0⟩] scope pos) scope X.env pos' (newList []) false (eval (.Call (.Name "enumerate" p1) [ce] [] p2) X.env) use) Qf X.xe s := by
  have fr : ∀ y ∈ scope.names, y.2 = .free → ∃ c, X.env.cells.lookup y.1 = some c := fun y hy e => (ok.free y hy e).elim (fun k => I.ok.has _ (.inl k)) (fun k => I.ok.has _ (.inr k))
  refine wpAny_comprehension_free (use := use) rfl hs (closure_ok fr) ok.kind (fun y hy e => by rw [ok.uniq y hy, e]) ?_
  refine Call_ (ld_blt I hgl hm boot_enumerate (PyProof.Rows.callWith_type1 (thn (ha.run p2 pins s σ H _ I h) fun us s1 ⟨vs, H1, I1, r1, q1⟩ => ?_) hst rfl))
  obtain ⟨a, xs, rfl, hq, q⟩ := q1
  cases r1 with
  | cons r rr =>
  cases rr
  cases r
  obtain ⟨its, rv, pl, hz⟩ := I1.list hq
  refine call_enumerate_list pl.isList fun h' hen hit hsz hk => wpAny_pyIter_enum hen ?_
  have I2 : Inv X pins σ H1 { s1 with heap := h' } := I1.kept (t' := s1.toks) hk
  generalize hs2 : ({ s1 with heap := h' } : Shared) = s2 at I2
  generalize hE : s1.heap.objs.size + 1 = E0 at hen
  generalize hI : s1.heap.objs.size = J0 at hit hen
  have h2 : s2.heap = h' := by rw [← hs2]
  have st2 : enumAt a E0 J0 0 s2.heap := by rw [h2]; exact ⟨⟨.none, hen⟩, hit, by rw [← hE, ← hI]; exact Nat.succ_ne_self _⟩
  have f2 : ∀ b ∈ [E0, J0], FpOk X pins H1 b := fun b hb => by
    have le : s1.heap.objs.size ≤ b := by
      rcases (show b = E0 ∨ b = J0 by simpa using hb) with rfl | rfl
      · rw [← hE]; exact Nat.le_add_right _ _
      · rw [← hI]; exact Nat.le_refl _
    exact I1.fpOk le (I1.hok.fresh le)
  refine wpAny_newObj_type (newEnv_comp ?_) (by show 0 ≤ sizeLine; decide)
  generalize hD : s2.heap.objs.size = D
  have dn : H1 D = none := I2.hok.fresh (Nat.le_of_eq hD)
  obtain ⟨W, ⟨m0, w0⟩, turn⟩ := q D dn
  generalize hs3 : ({ s2 with heap := s2.heap.push { cls := .type "list", data := .seq ([] : List Value).toArray } } : Shared) = s3
  have h3 : s3.heap = s2.heap.push { cls := .type "list", data := .seq ([] : List Value).toArray } := by rw [← hs3]
  have up3 : ∀ b o, s2.heap.get? b = some o → s3.heap.get? b = some o := fun b o e => by rw [h3]; exact Heap.get?_push_of_some _ e
  have I3 : Inv X pins σ (upd H1 D (.lst [])) s3 := by
    have := I2.laid (t' := s2.toks) (h' := s2.heap.push { cls := .type "list", data := .seq ([] : List Value).toArray }) (a := D) (o := .lst []) (fun b o e => Heap.get?_push_of_some _ e) (Nat.le_of_eq hD) ⟨Nat.zero_le _, [], 0, .nil, by rw [← hD]; exact Heap.get?_push_size _ rfl⟩
    rw [← hs3]
    exact this
  have f3 : ∀ b ∈ [E0, J0], FpOk X pins (upd H1 D (.lst [])) b ∧ b < s3.heap.objs.size := fun b hb => by
    obtain ⟨o, e, _⟩ := st2.obj b hb
    have l := Heap.lt_size e
    exact ⟨⟨by rw [upd_ne (by rw [← hD]; exact Nat.ne_of_lt l)]; exact (f2 b hb).1, (f2 b hb).2⟩, by rw [h3, Heap.size_push]; exact Nat.lt_succ_of_lt l⟩
  have st3 : enumAt a E0 J0 0 s3.heap := st2.keep fun b _ o e => up3 b o e
  have I4 := block_start I3 ok hN f3
  have pg := hg s3 (upd H1 D (.lst [])) s3.heap.objs.size (cellsFrom (s3.heap.objs.size + 1) scope.names (cloFrom X.env.cells scope.names [])) [E0, J0]
  have pt := ht s3 (upd H1 D (.lst [])) s3.heap.objs.size (cellsFrom (s3.heap.objs.size + 1) scope.names (cloFrom X.env.cells scope.names [])) [E0, J0]
  have pe := he s3 (upd H1 D (.lst [])) s3.heap.objs.size (cellsFrom (s3.heap.objs.size + 1) scope.names (cloFrom X.env.cells scope.names [])) [E0, J0]
  show codeAny _ _ (.compStart (.ListComp elt [⟨.Tuple elts kk tpos, .Call (.Name "enumerate" p1) [ce] [] p2, ifs, 0⟩] scope pos) 0 (.ref E0) (.ref D) (compEnvC scope (cellsFrom (s3.heap.objs.size + 1) scope.names (cloFrom X.env.cells scope.names [])) s3.heap.objs.size X.env)) (compPost (model X.prog X.w) X.A X.xe use Qf (.ref D) s3.heap.objs.size) { s3 with heap := pushCells (s3.heap.push { cls := .type "dict", data := .dict #[] }) scope.names }
  generalize hcv : compEnvC scope (cellsFrom (s3.heap.objs.size + 1) scope.names (cloFrom X.env.cells scope.names [])) s3.heap.objs.size X.env = cv at I4 pg pt pe ⊢
  have cL : cv.locals = s3.heap.objs.size := by subst hcv; rfl
  generalize hH3 : upd H1 D (.lst []) = H3 at I3 I4 pg pt pe w0 f3
  generalize hs4 : ({ s3 with heap := pushCells (s3.heap.push { cls := .type "dict", data := .dict #[] }) scope.names } : Shared) = s4 at I4 ⊢
  have st4 : enumAt a E0 J0 0 s4.heap := st3.keep fun b _ o e => by rw [← hs4]; exact pushCells_keeps _ _ _ _ (Heap.get?_push_of_some _ e)
  -- the exception stands through the block
  obtain ⟨pp, ⟨hh, v1, e1, c1⟩, hp⟩ := hot
  have P1 := I3.pin pp (List.mem_append_left _ hp)
  have npf : pp.1 ∉ frs X.stack := fun hm => (List.mem_cons.mp (I3.stkSub pp.1 hm)).elim P1.2.2.1 P1.2.2.2.1
  have npe : pp.1 ∉ [E0, J0] := fun z => (f3 _ z).1.2.2.2.2.2 pp (List.mem_append_left _ hp) rfl
  have hotAt : ∀ {σ' : L2.St} {H' : Hp} {s' : Shared} {ps : List (Addr × Obj)}, Inv (X.blk s3 H3 scope cv [E0, J0]) ps σ' H' s' → HotAt X.A pp.1 s'.heap := fun {σ' H' s' ps} I' => ⟨hh, pp.2, v1, I'.base.keep pp.1 pp.2 P1.1 P1.2.1 npf npe, e1, c1⟩
  have stat : ∀ {σ' : L2.St} {H' : Hp} {s' : Shared}, Inv (X.blk s3 H3 scope cv [E0, J0]) [] σ' H' s' → (∀ b ∈ [E0, J0], H' b = none) → ∀ b ∈ [E0, J0], FpOk (X.blk s3 H3 scope cv [E0, J0]) [] H' b := fun {σ' H' s'} I' hn b hb =>
    ⟨hn b hb, (I'.ok.exf b hb).1, I'.ok.exfs b hb, .inl hb, fun x c e => (I'.ok.exf b hb).2 x c e, fun p hp => absurd (show p ∈ ([] : List (Addr × Obj)) ++ [] from hp) (by simp)⟩
  have loop : codeAny (model X.prog X.w) X.A (.compLoop (.ListComp elt [⟨.Tuple elts kk tpos, .Call (.Name "enumerate" p1) [ce] [] p2, ifs, 0⟩] scope pos) 0 (.ref E0) (.ref D) cv) (compPost (model X.prog X.w) X.A X.xe use Qf (.ref D) s3.heap.objs.size) s4 := by
    refine compLoop_any (fun n s' => ∃ i H', Inv (X.blk s3 H3 scope cv [E0, J0]) [] (wipe σ (own.map (·.2))) H' s' ∧ enumAt a E0 J0 i s'.heap ∧ (∀ b ∈ [E0, J0], H' b = none) ∧ W i n H') ?_ m0 ⟨0, H3, I4, st4, fun b hb => (f3 b hb).1.1, w0⟩
    rintro n s5 ⟨i, H5, I5, st5, n5, w5⟩
    rcases turn i n H5 w5 with ⟨⟨ys, hy, hyl⟩, qq⟩ | ⟨⟨ys, x, hy, hyx⟩, Nx, hNx, step⟩
    · refine thnF (enum_last (X := X.blk s3 H3 scope cv [E0, J0]) (E := fun _ _ => False) (hotAt I5) I5 (stat I5 n5) st5 hy hyl) fun r s6 ⟨hr, I6⟩ => ?_
      subst hr
      have I7 : Inv X pins σ H5 s6 := I3.call' (ch := [E0, J0]) I6.os I6.base I6.hok I6.bare fun b hb => ⟨(f3 b hb).1.2.2.2.1, (f3 b hb).1.2.1, (f3 b hb).1.2.2.2.2.1, (f3 b hb).1.2.2.2.2.2⟩
      have nC : H5 s3.heap.objs.size = none := by
        have z : H5 cv.locals = none := I6.free
        rw [cL] at z; exact z
      obtain ⟨m, hn, _⟩ := I6.loc
      have hn : s6.heap.Ns cv.locals m := hn
      rw [cL] at hn
      exact hRR D s3.heap.objs.size s6 m H5 I7 qq hn (I3.fpOk (Nat.le_refl _) nC)
    · refine thnF (enum_next (X := X.blk s3 H3 scope cv [E0, J0]) (elts := elts) (kk := kk) (tpos := tpos) (E := fun _ _ => False) I5 (stat I5 n5) st5 hy hyx) fun r s6 ⟨u, hr, h6⟩ => ?_
      subst hr
      refine thnF h6 fun _ s7 ⟨T, hT, hTn, I7, st7, n7⟩ => ?_
      subst hT
      have I7' := I7.pinned (stat I7 n7) st7.obj
      refine thnF (pg.go pp.1 _ s7 _ _ (.ref T) (.ref T) _ (hotAt I7') I7' rfl (step (.ref T) _ ⟨T, x, rfl, hTn, rfl, fun zs hzs => by rw [I5.list_inj hzs hy]; exact hyx⟩)) fun _ s8 ⟨σ8, H8, I8, hw8, q8⟩ => ?_
      refine thnF (pt.run _ s8 σ8 H8 _ I8 q8) fun bb s9 ⟨H9, I9, q9⟩ => ?_
      have fin : ∀ {s' : Shared} {H' : Hp}, Inv (X.blk s3 H3 scope cv [E0, J0]) ([] ++ pinsAt [E0, J0] s7.heap) σ8 H' s' → Nx H' → ∃ m, m < n ∧ ∃ i H', Inv (X.blk s3 H3 scope cv [E0, J0]) [] (wipe σ (own.map (·.2))) H' s' ∧ enumAt a E0 J0 i s'.heap ∧ (∀ b ∈ [E0, J0], H' b = none) ∧ W i m H' := fun {s' H'} I' nx => by
        obtain ⟨m', hlt, w'⟩ := hNx H' nx
        have pin' : ∀ b ∈ [E0, J0], ∀ o, s7.heap.get? b = some o → s'.heap.get? b = some o ∧ H' b = none := fun b hb o e => (fun z => ⟨z.1, z.2.1⟩) (I'.pin (b, o) (List.mem_append_right _ (List.mem_append_right _ (mem_pinsAt hb e))))
        refine ⟨m', hlt, i + 1, H', (I'.unpinned (pins := [])).weak (by rw [← hw8, wipe_length]) (fun j v e => by rw [← hw8] at e; exact (wipe_some e).1), st7.keep fun b hb o e => (pin' b hb o e).1, fun b hb => ?_, w'⟩
        obtain ⟨o, e, _⟩ := st7.obj b hb
        exact (pin' b hb o e).2
      cases bb with
      | false =>
        simp only [Bool.false_eq_true, if_false] at q9 ⊢
        exact fin I9 q9
      | true =>
        simp only [if_true] at q9 ⊢
        exact thnF (pe.run _ s9 σ8 H9 _ I9 q9) fun z s10 ⟨yv, H10, I10, r10, acc, hD10, hz10, nx⟩ => app_ok (X := X.blk s3 H3 scope cv [E0, J0]) I10 hD10 hz10 r10 fun s11 I11 => fin I11 nx
  obtain ⟨⟨o4, he4⟩, _⟩ := id st4
  exact codeAny_compStart_list loop (wpAny_pyIter_enum he4 loop)
theorem pe_lcEH {elt ce : Expr} {elts : List Expr} {kk : Nat} {tpos p1 p2 pos : Pos} {ifs : List Expr} {scope : Scope} {own : List (Str × Nat)} {ta : TA} {g : TG} {tt : TT} {te : TE} (hot : L2H.HotC X) (hN : X.N.Nodup) (hgl : Gl X "enumerate") (hm : X.mg "enumerate" = none) (ha : PA X [ce] ta) (ok : BlkOk X.N X.env.scope scope own)
    (hg : ∀ (s : Shared) (H : Hp) (C : Addr) (cl : List (Str × Addr)) (fp : List Addr), PGQ (X.blk s H scope (compEnvC scope cl C X.env) fp) (.Tuple elts kk tpos) g) (ht : ∀ (s : Shared) (H : Hp) (C : Addr) (cl : List (Str × Addr)) (fp : List Addr), PTs (X.blk s H scope (compEnvC scope cl C X.env) fp) ifs tt)
    (he : ∀ (s : Shared) (H : Hp) (C : Addr) (cl : List (Str × Addr)) (fp : List Addr), PE (X.blk s H scope (compEnvC scope cl C X.env) fp) elt te) (hs : ∀ x, foldedSetIterable (.Call (.Name "enumerate" p1) [ce] [] p2) X.env x = pure x := by intro _; rfl) (hst : starEach [ce] X.env = [(false, eval ce X.env)] := by rfl) :
    PE X (.ListComp elt [⟨.Tuple elts kk tpos, .Call (.Name "enumerate" p1) [ce] [] p2, ifs, 0⟩] scope pos) (tLc (iEnum X.K ta) g tt te (own.map (·.2))) := ⟨fun pins s σ H Q I h => by
  rw [eval_ListComp]
  refine lc_hot hot hN I hgl hm ha ok hg ht he hs hst h fun D C s' m H' I' q hn f => ⟨m, hn, fun h'' sb => ?_⟩
  obtain ⟨f0, f1, f2, f3, f4, f5⟩ := f
  exact ⟨.ref D, H', I'.turned (t' := s'.toks) (fun b o hb e => (sb.2 b hb).trans e) f0 f1 f3 f4 f5, rfl, q⟩⟩
end
/-! ### defs called with the exception that is handled -/
structure FnE (P : Program) (w : World) (K : PySem.W.Frag) (mg : Str → Option Value) (base : Heap) (k : Nat) (f : Addr) (fd : FuncData) (ps : List Str) (sp : Addr → Value → Sp) : Prop where
  ln : ∀ a cls vs H Q E, sp a cls vs H Q E → vs.length = ps.length
  go : ∀ (A : Around) (outer : List Env) (s : Shared) (H : Hp) (args : Args) (us : List Value) (vs : List V) (Q : VK) (E : XK) (a : Addr) (oe : Obj) (cls : Value), L2H.RoomH k A → L2N.Zn cls none oe → (∃ u, oe.data = .fields u) → L2H.PinOk outer H s (a, oe) → Env0 P w K mg base A outer s H → BindsTo s fd args (ps.zip us) → Vals vs us → sp a cls vs H Q E → codeAny (model P w) A (.call (.ref f) args) (CR CX0 outer P w H s Q E) s
section
variable {P : Program} {w : World} {K : PySem.W.Frag} {mg : Str → Option Value} {base : Heap}
theorem okE {x : Str} {st : Stmt} {f : Addr} {fd : FuncData} {N ps : List Str} {k : Nat} {sp : Addr → Value → Sp} (F : Fun K x x st f fd) (S : FnScope N ps (defScope st)) (ln : ∀ a cls vs H Q E, sp a cls vs H Q E → vs.length = ps.length)
    (bd : ∀ (cdv : Value) (A : Around) (outer : List Env) (s : Shared) (H : Hp) (vs : List V) (Q : VK) (E : XK) (a : Addr) (oe : Obj) (cls : Value), L2N.Zn cls none oe → (∃ u, oe.data = .fields u) → L2H.RoomH k (A.deeper (envOfC x (defScope st) s.heap.objs.size f cdv)) → sp a cls vs H Q E → ∃ t, PSs (L2H.cxH CX0 P w K mg base N x (defScope st) f cdv A outer s H E (a, oe)).nox (defBody st) t ∧ t { nx := fun _ H' => Q .non H', rt := Q } (start N vs) H) :
    FnE P w K mg base (k + 1) f fd ps sp := by
  obtain ⟨oc, od, kV, doc, pm, an, cdv, ct, osl, rfl, lk, hcd⟩ := F.ex
  refine ⟨ln, fun A outer s H args us vs Q E a oe cls hr hz hf hpin e0 hb r hsp => ?_⟩
  have up : ∀ b o, base.get? b = some o → s.heap.get? b = some o := fun b o z => (e0.bs b o z).1
  have KX : K.In s.heap := e0.mod.kin.keeps up
  have par : ∀ y ∈ ps.zip us, (defScope st).names.lookup y.1 = some .local ∨ ((defScope st).names.lookup y.1 = some .cell ∧ ((cellsFrom (s.heap.objs.size + 1) (defScope st).names []).lookup y.1).isSome = true) := fun y hy =>
    (S.par y.1 (List.of_mem_zip (show (y.1, y.2) ∈ ps.zip us from hy)).1).imp id fun q => ⟨q, PySem.W.cellsFrom_some _ _ _ (.inl q)⟩
  refine codeAny_call_function hr.depth (KX _ _ lk) rfl S.co S.gen rfl (PySem.W.codeRec_of KX hcd) (hb _ _ _ _ (wpAny_newFunctionEnv_cells S.kind par fun env he s1 z => ?_))
  subst he
  obtain ⟨t, ht, hq⟩ := bd cdv A outer s H vs Q E a oe cls hz hf (hr.deeper _) hsp
  have I := L2H.inv_startH (CX := CX0) (E := E) S hpin e0 (ln _ _ _ _ _ _ hsp) r z
  refine ⟨(e0.mod.nolimit.keeps up).keeps z.toInCall.keep, codeAny_func (wpAny_mono (ht.nox.run [] s1 (start N vs) H _ I hq) (fun fl s' hs => ?_) fun e s' hs => hs)⟩
  match fl, hs with
  | .ret u, ⟨v, σ', H', J, rv, q⟩ => exact ⟨v, H', J.os, J.bare, J.base, J.hok, rv, q⟩
  | .next, ⟨σ', H', J, q⟩ => exact ⟨.non, H', J.os, J.bare, J.base, J.hok, rfl, q⟩
  | .brk, ⟨_, _, _, q⟩ => exact q.elim
  | .cont, ⟨_, _, _, q⟩ => exact q.elim
/-- a def that may raise -/
theorem okN {x : Str} {st : Stmt} {f : Addr} {fd : FuncData} {N ps : List Str} {k : Nat} {sp : Sp} (F : Fun K x x st f fd) (S : FnScope N ps (defScope st)) (ln : ∀ vs H Q E, sp vs H Q E → vs.length = ps.length)
    (bd : ∀ (cdv : Value) (A : Around) (outer : List Env) (s : Shared) (H : Hp) (vs : List V) (Q : VK) (E : XK), Room k (A.deeper (envOfC x (defScope st) s.heap.objs.size f cdv)) → sp vs H Q E → ∃ t, PSs (cxOf (L2N.CX P w) P w K mg base N x (defScope st) f cdv A outer s H E) (defBody st) t ∧ t { nx := fun _ H' => Q .non H', rt := Q } (start N vs) H) :
    FnOk P w K mg base (L2N.CX P w) (k + 1) f fd ps sp := by
  obtain ⟨oc, od, kV, doc, pm, an, cdv, ct, osl, rfl, lk, hcd⟩ := F.ex
  exact fn_of lk hcd S ln fun A outer s H vs Q E hr hsp => bd cdv A outer s H vs Q E hr hsp
end
section
variable {X : Cx} {k : Nat} {f a : Addr} {oe : Obj} {cls : Value} {fd : FuncData} {ps : List Str} {sp : Addr → Value → Sp} {x : Str} {p pos : Pos} {e : Expr} {es : List Expr} {t : TA}
theorem pe_callE (F : FnE X.prog X.w X.K X.mg X.base k f fd ps sp) (hz : L2N.Zn cls none oe) (hf : ∃ u, oe.data = .fields u) (hp : (a, oe) ∈ X.pn) (hr : L2H.RoomH k X.A) (hg : Gl X x) (hm : X.mg x = some (.ref f)) (hk : PySem.W.keepIn X.K (.ref f) = true) (hb : Binds X.K fd ps []) (ha : PA X (e :: es) t)
    (hdb : (x == ("__debug__" : Str)) = false := by decide) (he : starEach (e :: es) X.env = (false, eval e X.env) :: starEach es X.env := by rfl) (hpl : (backTo pos (starEach es X.env)).any (·.1) = false := by rfl) : PE X (.Call (.Name x p) (e :: es) [] pos) (tCall (sp a cls) [] E0 t) := ⟨fun pins s σ H Q I h => by
  refine wpAny_Call_Name_kw (ld_glob I hg hm (PySem.W.callWith_K (h₀ := X.base) I.ok.mod.kin hk (thn (ha.run pos pins s σ H _ I h) fun us s1 ⟨vs, H1, I1, r, q⟩ => ⟨I1.kIn, ?_⟩) he hpl) hdb)
  have q : sp a cls (vs ++ []) H1 Q E0 := q
  rw [List.append_nil] at q
  have hl : (us ++ []).length = ps.length := by rw [List.append_nil, ← r.length]; exact F.ln _ _ _ _ _ _ q
  have bt := hb s1 us I1.kIn hl
  rw [List.append_nil] at bt
  have P1 := I1.pin (a, oe) (List.mem_append_left _ hp)
  refine wpAny_call (codeAny_mono (F.go X.A X.stack s1 H1 ⟨us, []⟩ us vs Q E0 a oe cls hr hz hf ⟨P1.1, P1.2.1, fun hm => (List.mem_cons.mp (I1.stkSub a hm)).elim P1.2.2.1 P1.2.2.2.1, P1.2.2.2.2⟩ I1.env0 bt r q) fun r s' z => ?_)
  match r, z with
  | .ok (.ret u), z => exact I1.after z
  | .ok .next, z => exact z.elim
  | .ok .brk, z => exact z.elim
  | .ok .cont, z => exact z.elim
  | .error e, z => exact z.elim⟩
/-- isinstance(e, c), e pinned -/
theorem call_isP {D : Addr} (hp : (a, oe) ∈ X.pn) (C : ExcC X.K D) (hz : L2N.Zn (.ref D) none oe) (hf : ∃ u, oe.data = .fields u) : CallR X (.builtin "isinstance") (rIsE X.K D a) := by
  intro pins s σ H xs us Q I r h
  obtain ⟨c, cv, b, rfl, hcv, e, q⟩ := h
  match us, r with
  | [_, _], .cons rx (.cons rt .nil) =>
    cases rx
    have ec := hcv _ rt
    subst ec
    obtain ⟨hget, _⟩ := I.pin (a, oe) (List.mem_append_left _ hp)
    obtain ⟨vs, hv⟩ := hf
    have J : PySem.W.InstAt s.heap a oe D none := by
      obtain ⟨oc, od, oda, osl⟩ := oe
      obtain ⟨h1, h2, _⟩ := hz
      dsimp only at h1 h2 hv
      subst h1 h2 hv
      exact ⟨hget, rfl, rfl, trivial⟩
    exact PySem.W.kia_one (PySem.W.handS_kitx_exc C.hg C.hk C.hs C.hd C.ha C.hn C.ht C.hm) I.kIn J e (fun z => nomatch z) fun tk => ⟨.bl b, H, I.kept (t' := tk) fun _ _ z => z, rfl, q⟩
end
theorem ev_isE {K : PySem.W.Frag} {D a : Addr} {σ : L2.St} {H : Hp} {ta tb : TE} {c : V} {cv : Value} {b : Bool} (ha : Ev ta σ H (.ref a)) (hb : Ev tb σ H c) (hc : ∀ u, RelV c u → u = cv) (hk : PySem.W.kitOne K (.ref D) cv = some b) : Ev (tCB (rIsE K D a) (tCons ta (tCons tb tNil))) σ H (.bl b) := fun H1 e Q q =>
  ha H1 e _ fun H2 e2 => hb H2 (e.trans e2) _ fun H3 e3 => ⟨c, cv, b, rfl, hc, hk, q H3 (e2.trans e3)⟩
/-! ### a lambda handed to a def that calls it; what it raises has no context -/
section
open LamX
/-- the context of the lambda's body -/
def lamCxN (X : Cx) (A : Around) (outer : List Env) (s : Shared) (H : Hp) (E : XK) (scope : Scope) (f c' : Addr) : Cx :=
  (lamCx X A outer s H E scope f c').wish fun e s' => wpAny (model X.prog X.w) (A.deeper (lamEnv X scope s.heap.objs.size f c')) (leaving (lamEnv X scope s.heap.objs.size f c') e) (fun _ s'' => L2N.CX X.prog X.w outer H s E e s'') (fun e' s'' => L2N.CX X.prog X.w outer H s E e' s'') s'
variable {X : Cx} {pins : List (Addr × Obj)} {σ : L2.St} {H : Hp} {s : Shared}
theorem pe_actN {Ng : List Str} {qg : Str} {sg : Scope} {g f c' : Addr} {cdg pm ctv : Value} {params : Arguments} {body : Expr} {scope : Scope} {k i : Nat} {a : Str} {pn : List (Addr × Obj)} {xe : Value → Shared → Prop} {W : WX} {E : XK} {tb : TE} {p1 p2 : Pos}
    (I : Inv X pins σ H s) (L : LamS X.env.scope scope) (hf : s.heap.get? f = some (PySem.W.kla_obj "<lambda>" (X.env.qual ++ "<lambda>") params body scope (cloFrom X.env.cells scope.names []) pm c' ctv)) (hfn : H f = none) (hfr : f ∉ frs X.stack)
    (bind0 : bindArgs (PySem.W.kla_fn "<lambda>" (X.env.qual ++ "<lambda>") params body scope (cloFrom X.env.cells scope.names []) pm (.ref c') ctv) ⟨[], []⟩ = pure [])
    (tk : L2N.Takes ((cxOf CX0 X.prog X.w X.K X.mg X.base Ng qg sg g cdg X.A X.stack s H E0).tr pn xe) W) (hW : ∀ cls d σ' H', E cls d H' → W cls d σ' H') (hr : Room (k + 1) (X.A.deeper (envOfC qg sg s.heap.objs.size g cdg)))
    (bodyOk : ∀ (A : Around) (outer : List Env) (s : Shared) (H : Hp), Room k (A.deeper (lamEnv X scope s.heap.objs.size f c')) → PE (lamCxN X A outer s H E scope f c') body tb)
    (hN : Ng[i]? = some a) (hv : Vis sg a) (hd : (a == ("__debug__" : Str)) = false := by decide) (hcd : (a == ("__classdict__" : Str)) = false := by decide) :
    PE ((cxOf CX0 X.prog X.w X.K X.mg X.base Ng qg sg g cdg X.A X.stack s H E0).tr pn xe) (.Call (.Name a p1) [] [] p2) (fun σZ HZ Q => σZ[i]? = some (some (.ref f)) ∧ HZ c' = some (CodeO c' (X.env.qual ++ "<lambda>")) ∧ tb σ HZ Q) := ⟨fun pinsZ sZ σZ HZ Q IZ h => by
  obtain ⟨hs, hc, ht⟩ := h
  refine wpAny_Call_Name_kw (thn ((pe_var (pos := p1) (i := i) hN hv hd hcd).run pinsZ sZ σZ HZ (fun v H1 => v = .ref f ∧ H1 = HZ) IZ ⟨.ref f, hs, rfl, rfl⟩) fun u s1 ⟨v, H1, I1, r1, q1, q2⟩ => ?_)
  subst q1
  rw [q2] at I1
  obtain rfl : u = Value.ref f := r1
  have of1 := I1.base.keep f _ hf hfn hfr (fun z => nomatch (show f ∈ ([] : List Addr) from z))
  have un : Un (frs X.stack) [] H HZ s.heap s1.heap := I1.base
  obtain ⟨⟨oc, vs, t, hoc, hdc, hvc⟩, _, _⟩ := I1.hok c' _ hc
  have rc : codeAny (model X.prog X.w) (X.A.deeper (envOfC qg sg s.heap.objs.size g cdg)) (.call (.ref f) ⟨[], []⟩) (CR (L2N.CX X.prog X.w) (envOfC qg sg s.heap.objs.size g cdg :: X.stack) X.prog X.w HZ s1 Q E) s1 := by
    refine PySem.W.kla_callFunE hr.depth of1 rfl L.co L.gen rfl ⟨c', oc, vs, t, rfl, hoc, hdc, hvc⟩ ?_
    rw [bind0]
    refine wpAny_pure (wpAny_newFunctionEnv (fun y hy => (L.own y hy).2) (fun y hy => absurd hy (by simp)) (fun h₁ hns hsb => ⟨I1.nolimit.fresh _ hsb, ?_⟩) L.kind)
    show codeAny _ _ (.expr body (lamEnv X scope s1.heap.objs.size f c')) _ _
    have J := (lam_start2 (E := E) (f := f) (c' := c') (tk := s1.toks + ([] : List (Str × Value)).length) I L I1.env0 hr.hd un hns fun b o e => hsb.extBut b o (Nat.ne_of_lt (Heap.lt_size e)) (Heap.get?_push_of_some _ e)).wish (lamCxN X (X.A.deeper (envOfC qg sg s.heap.objs.size g cdg)) (envOfC qg sg s.heap.objs.size g cdg :: X.stack) s1 HZ E scope f c').xe
    exact PySem.W.kla_codeExpr (wpAny_mono ((bodyOk _ _ s1 HZ (hr.deeper _)).run [] _ _ HZ Q J ht) (fun v s' ⟨w', H', J', rv, q⟩ => ⟨w', H', J'.os, J'.bare, J'.base, J'.hok, rv, q⟩) fun e s' hq => hq)
  refine PySem.W.callWith_F0 ⟨_, _, _, _, of1⟩ (wpAny_call (codeAny_mono rc fun r s' hq => ?_))
  match r, hq with
  | .error e, hq => exact L2N.passes_call tk hW pinsZ σZ HZ s1 e s' I1 hq
  | .ok (.ret u), hq => exact I1.after hq
  | .ok .next, hq => exact hq.elim
  | .ok .brk, hq => exact hq.elim
  | .ok .cont, hq => exact hq.elim⟩
/-- the def that calls what it got; TT: what it makes of the lambda's reading -/
def GivesN (X : Cx) (Ng : List Str) (x : Str) (sg : Scope) (g : Addr) (cdg : Value) (bg : List Stmt) (a : Str) (q : Str) (TT : (XK → Hp → VK → Prop) → Hp → VK → Prop) : Prop :=
  ∀ (f c' : Addr) (s : Shared) (H : Hp) (Q : VK) (tl : XK → Hp → VK → Prop),
    (∀ (W : WX) (pn : List (Addr × Obj)) (xe : Value → Shared → Prop) (E : XK) (p1 p2 : Pos), L2N.Takes ((cxOf CX0 X.prog X.w X.K X.mg X.base Ng x sg g cdg X.A X.stack s H E0).tr pn xe) W → (∀ cls d σ' H', E cls d H' → W cls d σ' H') →
      PE ((cxOf CX0 X.prog X.w X.K X.mg X.base Ng x sg g cdg X.A X.stack s H E0).tr pn xe) (.Call (.Name a p1) [] [] p2) (fun σZ HZ Q => σZ[0]? = some (some (.ref f)) ∧ HZ c' = some (CodeO c' q) ∧ tl E HZ Q)) →
    H c' = some (CodeO c' q) → TT tl H Q → ∃ t, PSs (cxOf CX0 X.prog X.w X.K X.mg X.base Ng x sg g cdg X.A X.stack s H E0).nox bg t ∧ t { nx := fun _ H' => Q .non H', rt := Q } (L2.start Ng [.ref f]) H
/-- x(lambda: body) -/
theorem pe_lamN {T : List (Addr × Str)} {TT : (XK → Hp → VK → Prop) → Hp → VK → Prop} {x a : Str} {st : Stmt} {g c P : Addr} {fd : FuncData} {k : Nat} {Ng : List Str} {params : Arguments} {body : Expr} {scope : Scope} {t : XK → TE} {p lpos pos : Pos}
    (D : Fun X.K x x st g fd) (hg : Gl X x) (hm : X.mg x = some (.ref g)) (hb : L2.Binds X.K fd [a] []) (Sg : FnScope Ng [a] (defScope st)) (hNg : Ng[0]? = some a) (hva : Vis (defScope st) a) (hG : ∀ cdv, GivesN X Ng x (defScope st) g cdv (defBody st) a (X.env.qual ++ "<lambda>") TT)
    (TB : TabB X.base X.mg c P) (hcode : X.env.code = .ref c) (hmT : (P, X.env.qual ++ "<lambda>") ∈ T) (hu : ∀ p ∈ T, p.1 = P → p.2 = X.env.qual ++ "<lambda>") (hr : Room (k + 2) X.A) (L : LamS X.env.scope scope) (hdef : defaultsOf params X.env = ([], []))
    (bind0 : ∀ (q : Str) (cl : List (Str × Addr)) (pm cv ctv : Value), bindArgs (PySem.W.kla_fn "<lambda>" q params body scope cl pm cv ctv) ⟨[], []⟩ = pure [])
    (bodyOk : ∀ (A : Around) (outer : List Env) (s : Shared) (H : Hp) (E : XK) (f c' : Addr), Room k (A.deeper (lamEnv X scope s.heap.objs.size f c')) → PE (lamCxN X A outer s H E scope f c') body (t E))
    (hdb : (x == ("__debug__" : Str)) = false := by decide) (hd : (a == ("__debug__" : Str)) = false := by decide) (hcd : (a == ("__classdict__" : Str)) = false := by decide) : PE X (.Call (.Name x p) [.Lambda params body scope lpos] [] pos) (tLam T TT t) := ⟨fun pins s σ H Q I h => by
  obtain ⟨hT, h⟩ := h
  obtain ⟨oc, od, kV, doc, pm, an, cdv, ct, osl, efd, lk, hcg⟩ := D.ex
  refine wpAny_Call_Name_kw (ld_glob I hg hm (PySem.W.callWith_K (h₀ := X.base) I.ok.mod.kin D.kp ?_ (by rfl) (by rfl)) hdb)
  show wpAny _ _ (spliced ((false, eval (.Lambda params body scope lpos) X.env) :: backTo pos (starEach [] X.env))) _ _ s
  refine Calls.spliced_cons (lam_make2 I TB hcode hmT hu hT hdef (L.has I.ok) fun f c' pm' ctv H1 s' I1 eN T1 hf hfn hfr hco => Calls.spliced_nil ⟨I1.kIn, ?_⟩)
  have rc : codeAny (model X.prog X.w) X.A (.call (.ref g) ⟨[.ref f], []⟩) (CR CX0 X.stack X.prog X.w H1 s' Q E0) s' := by
    subst efd
    refine run_ofS (N := Ng) (ps := [a]) (us := [.ref f]) (vs := [.ref f]) lk hcg Sg hr I1.env0 (hb s' [.ref f] I1.kIn rfl) (.cons rfl .nil) rfl fun hr' => ?_
    obtain ⟨t', ht', hq'⟩ := hG cdv f c' s' H1 Q (fun E H' Q' => t E σ H' Q') (fun W pn xe E p1 p2 tk hW => pe_actN (i := 0) I1 L hf hfn hfr (bind0 _ _ _ _ _) tk hW hr' (fun A outer s H hr2 => bodyOk A outer s H E f c' hr2) hNg hva hd hcd) hco (h H1 eN T1)
    exact ⟨t', ht'.nox, hq'⟩
  refine wpAny_call (codeAny_mono rc fun r s2 hq => ?_)
  match r, hq with
  | .error e, hq => exact (show False from hq).elim
  | .ok (.ret u), hq => exact I1.after hq
  | .ok .next, hq => exact hq.elim
  | .ok .brk, hq => exact hq.elim
  | .ok .cont, hq => exact hq.elim⟩
theorem takes0N {X : Cx} : L2N.Takes X (fun _ _ _ _ => False) := fun _ _ x => by
  obtain ⟨_, _, _, _, _, _, _, _, _, _, _, _, _, _, _, _, z⟩ := x
  exact z.elim
end
/-! ### the classes of a refusal -/
/-- what isinstance answers of D's instances at the classes Cs: the n-th alone -/
def OnlyAt (K : PySem.W.Frag) (D : Addr) (Cs : List Addr) (n : Nat) : Prop := ∀ i C, Cs[i]? = some C → PySem.W.kitOne K (.ref D) (.ref C) = some (decide (i = n))
def placeD (n : Nat) : List PyData := (List.range 15).map fun i => .bool (decide (i = n))
def spClasses (K : PySem.W.Frag) (Cs : List Addr) : Addr → Value → Sp := fun a cls vs H Q _ => vs = [.ref a] ∧ ∃ (D : Addr) (n : Nat), cls = .ref D ∧ ExcC K D ∧ OnlyAt K D Cs n ∧ ∀ p xs H2, H p = none → Ex H H2 → H2 p = some (.lst xs) → DtAll K H2 xs (placeD n) → Q (.ref p) H2
structure Cls15 (mg : Str → Option Value) (Cs : List Addr) : Prop where
  g : ∃ c_NoCurve c_NoLot c_NoPane c_NoFace c_NoCell c_NoCorner c_NoNumber c_NoCounts c_NoCover c_NoTurn c_NoCut c_NoOrder c_TooMany c_NoText c_NoLine : Addr, Cs = [c_NoCurve, c_NoLot, c_NoPane, c_NoFace, c_NoCell, c_NoCorner, c_NoNumber, c_NoCounts, c_NoCover, c_NoTurn, c_NoCut, c_NoOrder, c_TooMany, c_NoText, c_NoLine] ∧ mg "NoCurve" = some (.ref c_NoCurve) ∧ mg "NoLot" = some (.ref c_NoLot) ∧ mg "NoPane" = some (.ref c_NoPane) ∧ mg "NoFace" = some (.ref c_NoFace) ∧ mg "NoCell" = some (.ref c_NoCell) ∧ mg "NoCorner" = some (.ref c_NoCorner) ∧ mg "NoNumber" = some (.ref c_NoNumber) ∧ mg "NoCounts" = some (.ref c_NoCounts) ∧ mg "NoCover" = some (.ref c_NoCover) ∧ mg "NoTurn" = some (.ref c_NoTurn) ∧ mg "NoCut" = some (.ref c_NoCut) ∧ mg "NoOrder" = some (.ref c_NoOrder) ∧ mg "TooMany" = some (.ref c_TooMany) ∧ mg "NoText" = some (.ref c_NoText) ∧ mg "NoLine" = some (.ref c_NoLine)
section
variable {P : Program} {w : World} {K : PySem.W.Frag} {mg : Str → Option Value} {base : Heap}
theorem okk_classes {f : Addr} {fd : FuncData} {k : Nat} {Cs : List Addr} (D0 : Df K mg "_law_classes" s__law_classes ["_law_e"] f fd) (B : Bt mg) (C : Cls15 mg Cs) : FnE P w K mg base (k + 1) f fd ["_law_e"] (spClasses K Cs) := by
  obtain ⟨c_NoCurve, c_NoLot, c_NoPane, c_NoFace, c_NoCell, c_NoCorner, c_NoNumber, c_NoCounts, c_NoCover, c_NoTurn, c_NoCut, c_NoOrder, c_TooMany, c_NoText, c_NoLine, rfl, g_NoCurve, g_NoLot, g_NoPane, g_NoFace, g_NoCell, g_NoCorner, g_NoNumber, g_NoCounts, g_NoCover, g_NoTurn, g_NoCut, g_NoOrder, g_TooMany, g_NoText, g_NoLine⟩ := C.g
  refine okE D0.F sc__law_classes (fun a cls vs H Q E h => ?_) (fun cdv A outer s H vs Q E a oe cls hz hf hr h => ?_)
  · rw [h.1]
    rfl
  · obtain ⟨rfl, D, n, rfl, XC, hk, q⟩ := h
    refine ⟨_, (pss_cons (ps_set (i := 1) sc__law_classes.nd rfl (.inl rfl) (pe_lst (pa_cons (pe_callB (show CallR _ _ (rIsE K D a) from call_isP List.mem_cons_self XC hz hf) (by rfl) B.isinstance_ (by decide +kernel) (pa_cons (pv 0) (pa_cons (pe_glob (v := .ref c_NoCurve) rfl g_NoCurve rfl) pa_nil))) (pa_cons (pe_callB (show CallR _ _ (rIsE K D a) from call_isP List.mem_cons_self XC hz hf) (by rfl) B.isinstance_ (by decide +kernel) (pa_cons (pv 0) (pa_cons (pe_glob (v := .ref c_NoLot) rfl g_NoLot rfl) pa_nil))) (pa_cons (pe_callB (show CallR _ _ (rIsE K D a) from call_isP List.mem_cons_self XC hz hf) (by rfl) B.isinstance_ (by decide +kernel) (pa_cons (pv 0) (pa_cons (pe_glob (v := .ref c_NoPane) rfl g_NoPane rfl) pa_nil))) (pa_cons (pe_callB (show CallR _ _ (rIsE K D a) from call_isP List.mem_cons_self XC hz hf) (by rfl) B.isinstance_ (by decide +kernel) (pa_cons (pv 0) (pa_cons (pe_glob (v := .ref c_NoFace) rfl g_NoFace rfl) pa_nil))) pa_nil))))))  (pss_cons (ps_set (i := 1) sc__law_classes.nd rfl (.inl rfl) (pe_op op_cat (pv 1) (pe_lst (pa_cons (pe_callB (show CallR _ _ (rIsE K D a) from call_isP List.mem_cons_self XC hz hf) (by rfl) B.isinstance_ (by decide +kernel) (pa_cons (pv 0) (pa_cons (pe_glob (v := .ref c_NoCell) rfl g_NoCell rfl) pa_nil))) (pa_cons (pe_callB (show CallR _ _ (rIsE K D a) from call_isP List.mem_cons_self XC hz hf) (by rfl) B.isinstance_ (by decide +kernel) (pa_cons (pv 0) (pa_cons (pe_glob (v := .ref c_NoCorner) rfl g_NoCorner rfl) pa_nil))) (pa_cons (pe_callB (show CallR _ _ (rIsE K D a) from call_isP List.mem_cons_self XC hz hf) (by rfl) B.isinstance_ (by decide +kernel) (pa_cons (pv 0) (pa_cons (pe_glob (v := .ref c_NoNumber) rfl g_NoNumber rfl) pa_nil))) (pa_cons (pe_callB (show CallR _ _ (rIsE K D a) from call_isP List.mem_cons_self XC hz hf) (by rfl) B.isinstance_ (by decide +kernel) (pa_cons (pv 0) (pa_cons (pe_glob (v := .ref c_NoCounts) rfl g_NoCounts rfl) pa_nil))) pa_nil)))))))  (pss_cons (ps_set (i := 1) sc__law_classes.nd rfl (.inl rfl) (pe_op op_cat (pv 1) (pe_lst (pa_cons (pe_callB (show CallR _ _ (rIsE K D a) from call_isP List.mem_cons_self XC hz hf) (by rfl) B.isinstance_ (by decide +kernel) (pa_cons (pv 0) (pa_cons (pe_glob (v := .ref c_NoCover) rfl g_NoCover rfl) pa_nil))) (pa_cons (pe_callB (show CallR _ _ (rIsE K D a) from call_isP List.mem_cons_self XC hz hf) (by rfl) B.isinstance_ (by decide +kernel) (pa_cons (pv 0) (pa_cons (pe_glob (v := .ref c_NoTurn) rfl g_NoTurn rfl) pa_nil))) (pa_cons (pe_callB (show CallR _ _ (rIsE K D a) from call_isP List.mem_cons_self XC hz hf) (by rfl) B.isinstance_ (by decide +kernel) (pa_cons (pv 0) (pa_cons (pe_glob (v := .ref c_NoCut) rfl g_NoCut rfl) pa_nil))) (pa_cons (pe_callB (show CallR _ _ (rIsE K D a) from call_isP List.mem_cons_self XC hz hf) (by rfl) B.isinstance_ (by decide +kernel) (pa_cons (pv 0) (pa_cons (pe_glob (v := .ref c_NoOrder) rfl g_NoOrder rfl) pa_nil))) pa_nil)))))))  (pss_one (ps_ret (pe_op op_cat (pv 1) (pe_lst (pa_cons (pe_callB (show CallR _ _ (rIsE K D a) from call_isP List.mem_cons_self XC hz hf) (by rfl) B.isinstance_ (by decide +kernel) (pa_cons (pv 0) (pa_cons (pe_glob (v := .ref c_TooMany) rfl g_TooMany rfl) pa_nil))) (pa_cons (pe_callB (show CallR _ _ (rIsE K D a) from call_isP List.mem_cons_self XC hz hf) (by rfl) B.isinstance_ (by decide +kernel) (pa_cons (pv 0) (pa_cons (pe_glob (v := .ref c_NoText) rfl g_NoText rfl) pa_nil))) (pa_cons (pe_callB (show CallR _ _ (rIsE K D a) from call_isP List.mem_cons_self XC hz hf) (by rfl) B.isinstance_ (by decide +kernel) (pa_cons (pv 0) (pa_cons (pe_glob (v := .ref c_NoLine) rfl g_NoLine rfl) pa_nil))) pa_nil)))))))))), ?_⟩
    have hu : ∀ {c : Addr} (u : Value), RelV (.ref c) u → u = .ref c := fun u r => r
    refine q_asgF (K := K) (ef_lst (eb_cons (ed_bl (ev_isE (ev_var rfl) ev_c hu (hk 0 _ rfl))) (eb_cons (ed_bl (ev_isE (ev_var rfl) ev_c hu (hk 1 _ rfl))) (eb_cons (ed_bl (ev_isE (ev_var rfl) ev_c hu (hk 2 _ rfl))) (eb_cons (ed_bl (ev_isE (ev_var rfl) ev_c hu (hk 3 _ rfl))) eb_nil)))) (by show 4 ≤ 100000; decide)) fun p1 xs1 H1 n1 e1 h1 x1 => ?_
    refine q_asgF (K := K) (ef_catLF (ev_var rfl) h1 x1 (ef_lst (eb_cons (ed_bl (ev_isE (ev_var rfl) ev_c hu (hk 4 _ rfl))) (eb_cons (ed_bl (ev_isE (ev_var rfl) ev_c hu (hk 5 _ rfl))) (eb_cons (ed_bl (ev_isE (ev_var rfl) ev_c hu (hk 6 _ rfl))) (eb_cons (ed_bl (ev_isE (ev_var rfl) ev_c hu (hk 7 _ rfl))) eb_nil)))) (by show 4 ≤ 100000; decide)) (by show 8 ≤ 100000; decide)) fun p2 xs2 H2 n2 e2 h2 x2 => ?_
    refine q_asgF (K := K) (ef_catLF (ev_var rfl) h2 x2 (ef_lst (eb_cons (ed_bl (ev_isE (ev_var rfl) ev_c hu (hk 8 _ rfl))) (eb_cons (ed_bl (ev_isE (ev_var rfl) ev_c hu (hk 9 _ rfl))) (eb_cons (ed_bl (ev_isE (ev_var rfl) ev_c hu (hk 10 _ rfl))) (eb_cons (ed_bl (ev_isE (ev_var rfl) ev_c hu (hk 11 _ rfl))) eb_nil)))) (by show 4 ≤ 100000; decide)) (by show 12 ≤ 100000; decide)) fun p3 xs3 H3 n3 e3 h3 x3 => ?_
    refine s_retF (K := K) (ef_catLF (ev_var rfl) h3 x3 (ef_lst (eb_cons (ed_bl (ev_isE (ev_var rfl) ev_c hu (hk 12 _ rfl))) (eb_cons (ed_bl (ev_isE (ev_var rfl) ev_c hu (hk 13 _ rfl))) (eb_cons (ed_bl (ev_isE (ev_var rfl) ev_c hu (hk 14 _ rfl))) eb_nil))) (by show 3 ≤ 100000; decide)) (by show 15 ≤ 100000; decide)) fun p4 xs4 H4 n4 e4 h4 x4 => ?_
    have ee := (e1.trans e2).trans e3
    exact q p4 xs4 H4 (fresh_back ee n4) (ee.trans e4) h4 x4
/-- [place for place, own in enumerate(l) if own] -/
theorem ef_places {ta : TA} {y0 y1 y2 y3 : Option V} {H : Hp} {bs : List Bool} (h : ∀ H1, Ex H H1 → ∀ Q : List V → Hp → Prop, (∀ p xs H2, Ex H1 H2 → H2 p = some (.lst xs) → DtAll K H2 xs (bs.map PyData.bool) → Q [.ref p] H2) → ta [y0, y1, y2, y3] H1 Q) (hz : bs.length < 1000) :
    EvF K (tLc (iEnum K ta) (gTup K 2 (gCons (gName 2) (gCons (gName 3) gNil))) (tB (tVar 3)) (tVar 2) [2, 3]) [y0, y1, y2, y3] H (((List.range bs.length).filter fun i => bs.getD i false).map fun (i : Nat) => .int (i : Int)) := fun H0 e Q q => h H0 e _ fun p xs H1 e1 hp hx => ⟨p, xs, rfl, sq_of hp, fun Dl hD => by
  have hl : xs.length = bs.length := by rw [dta_len hx, List.length_map]
  refine lc_it (walk_enum (K := K) (a := p) (xs := xs)) (fun i H' => Cd K H1 Dl ((((List.range bs.length).take i).filter fun i => bs.getD i false).map fun (i : Nat) => .int (i : Int)) H') ⟨hD, Ex.new hD, [], upd_same, .nil⟩ (fun i H' _ p' => sq_of (p'.2.1 p _ hp)) (fun i v H' H2 hi pc hY => ?_) (fun H' p' => ?_)
  · obtain ⟨T, x, y, rfl, hT, rfl, ex, ey⟩ := hY
    cases ex
    have hib : i < bs.length := by omega
    obtain ⟨d, hd1, hd2⟩ := dta_get (dta_ex pc.2.1 hx) ey
    rw [List.getElem?_map, List.getElem?_eq_getElem hib] at hd1
    cases hd1
    have hy : y = .bl bs[i] := by
      cases hd2
      rfl
    subst hy
    have hgd : bs.getD i false = bs[i] := by
      rw [List.getD_eq_getElem?_getD, List.getElem?_eq_getElem hib]
      rfl
    have eT : Ex H' (upd H' T (.tup [.int (i : Nat), .bl bs[i]])) := Ex.new hT
    have pc2 : Cd K H1 Dl ((((List.range bs.length).take i).filter fun i => bs.getD i false).map fun (i : Nat) => .int (i : Int)) (upd H' T (.tup [.int (i : Nat), .bl bs[i]])) := by
      obtain ⟨c1, c2, acc, c3, c4⟩ := pc
      exact ⟨c1, c2.trans eT, acc, eT Dl _ c3, dta_ex eT c4⟩
    refine ⟨T, _, rfl, st_of upd_same, rfl, _, _, rfl, _, _, rfl, rfl, rfl, ?_⟩
    refine cd_step (f := fun i => bs.getD i false) (g := fun (i : Nat) => PyData.int (i : Int)) (l := List.range bs.length) pc2 (by rw [List.length_range]; omega) (List.getElem?_range hib) ?_ (fun _ => ed_int (ev_var rfl))
    exact et_is (et_B (b := bs[i]) (ev_var rfl)) hgd.symm
  · obtain ⟨p1, p2, acc, p3, p4⟩ := p'
    have e5 : (List.range bs.length).take xs.length = List.range bs.length := List.take_of_length_le (by rw [List.length_range, hl]; exact Nat.le_refl _)
    rw [e5] at p4
    exact q Dl acc H' (fresh_back e1 p1) (e1.trans p2) p3 p4⟩
theorem places_one : ((List.range 15).all fun n => decide (((List.range 15).filter fun i => (((List.range 15).map fun i => decide (i = n)).getD i false)) = [n])) = true := by decide +kernel
/-- the def that tells the places: of what a lambda raises, of what it doesn't -/
def Eref (K : PySem.W.Frag) (CE : Addr) (Cs : List Addr) (Q : VK) : XK := fun cls d H' => ∃ (D : Addr) (n : Nat), d = none ∧ cls = .ref D ∧ ExcC K D ∧ PySem.W.exmOne K (.ref D) (.ref CE) = some true ∧ PySem.W.kitOne K (.ref D) (.type "ValueError") = some true ∧ OnlyAt K D Cs n ∧ n < 15 ∧ ∀ p H2, H' p = none → Ex H' H2 → H2 p = some (.lst [.int (n : Int)]) → Q (.ref p) H2
def TTref (K : PySem.W.Frag) (CE : Addr) (Cs : List Addr) : (XK → Hp → VK → Prop) → Hp → VK → Prop := fun tl H Q =>
  tl (Eref K CE Cs Q) H (fun _ H' => ([] : List V).length ≤ sizeLine ∧ ∀ p, H' p = none → Q (.ref p) (upd H' p (.lst [])))
theorem refused_gives {X : Cx} {g fc CE : Addr} {fdc : FuncData} {cdg : Value} {q : Str} {Cs : List Addr} (B : Bt X.mg) (D__law_classes : Df X.K X.mg "_law_classes" s__law_classes ["_law_e"] fc fdc) (C : Cls15 X.mg Cs) (hCE : X.mg "CurveError" = some (.ref CE)) (hr : ∀ env, L2H.RoomH 1 (X.A.deeper env)) :
    GivesN X N__law_refused "_law_refused" (defScope s__law_refused) g cdg (defBody s__law_refused) "_law_call" q (TTref X.K CE Cs) := by
  intro f c' s H Q tl act hc h
  have G__law_classes : FnE X.prog X.w X.K X.mg X.base 1 fc fdc ["_law_e"] (spClasses X.K Cs) := okk_classes (k := 0) D__law_classes B C
  refine ⟨_, pss_cons (L2N.ps_try_as (i := 1) (c := .ref CE) (Wout := fun _ _ _ _ => False) (tb := fun W D σ H => ∃ Ech : XK, (∀ cls d σ' H', Ech cls d H' → W cls d σ' H') ∧ σ[0]? = some (some (.ref f)) ∧ H c' = some (LamX.CodeO c' q) ∧ tl Ech H (fun _ H' => D.nx σ H'))
      (ts := fun a cls d D' σ H => (∃ σ0 : L2.St, σ = σ0.set 1 (some (.ref a))) ∧ ∃ (D : Addr) (n : Nat), d = none ∧ cls = .ref D ∧ ExcC X.K D ∧ PySem.W.kitOne X.K (.ref D) (.type "ValueError") = some true ∧ OnlyAt X.K D Cs n ∧ n < 15 ∧ ∀ p H2, H p = none → Ex H H2 → H2 p = some (.lst [.int (n : Int)]) → D'.rt (.ref p) H2)
      rfl rfl sc__law_refused.nd rfl rfl ⟨rfl, by decide, .inl hCE⟩ takes0N (fun W pn xe tk _ => ?_) (fun a oe cls d pn hz hf => ?_)) (pss_one (ps_ret (pe_lst pa_nil))), ?_⟩
  · refine ⟨fun pins s' σ H' D I h' => ?_⟩
    obtain ⟨Ech, hW, h1, h2, h3⟩ := h'
    exact (pss_one (ps_expr (act W pn xe Ech _ _ tk hW))).run pins s' σ H' D I ⟨h1, h2, h3⟩
  · refine ⟨fun pins s' σ H' D' I h' => ?_⟩
    obtain ⟨⟨σ0, rfl⟩, D, n, rfl, rfl, XC, hv, hk, n15, k⟩ := h'
    obtain ⟨y0, y1, y2, y3, rfl⟩ : ∃ y0 y1 y2 y3, σ0 = [y0, y1, y2, y3] := by
      have l : (σ0.set 1 (some (V.ref a))).length = 4 := I.len
      rw [List.length_set] at l
      match σ0, l with
      | [y0, y1, y2, y3], _ => exact ⟨y0, y1, y2, y3, rfl⟩
    have hot : L2H.HotC ((cxOf CX0 X.prog X.w X.K X.mg X.base N__law_refused "_law_refused" (defScope s__law_refused) g cdg X.A X.stack s H E0).nox.suite a ((a, oe) :: pn)) := by
      obtain ⟨u, hu⟩ := hf
      exact ⟨(a, oe), ⟨rfl, u, hu, hz.2.2 u hu⟩, List.mem_cons_self⟩
    have hr1 : L2H.RoomH 1 ((cxOf CX0 X.prog X.w X.K X.mg X.base N__law_refused "_law_refused" (defScope s__law_refused) g cdg X.A X.stack s H E0).nox.suite a ((a, oe) :: pn)).A := ⟨(hr (envOfC "_law_refused" (defScope s__law_refused) s.heap.objs.size g cdg)).dp, (hr (envOfC "_law_refused" (defScope s__law_refused) s.heap.objs.size g cdg)).un⟩
    suffices hh : ∃ t, PSs ((cxOf CX0 X.prog X.w X.K X.mg X.base N__law_refused "_law_refused" (defScope s__law_refused) g cdg X.A X.stack s H E0).nox.suite a ((a, oe) :: pn)) _ t ∧ t D' ([y0, some (.ref a), y2, y3] : L2.St) H' by
      obtain ⟨t, h1, h2⟩ := hh
      exact h1.run pins s' _ H' D' I h2
    refine ⟨_, (pss_cons (ps_if (pt_not (pt_val (pe_callB (show CallR _ _ (rIsE X.K D a) from call_isP List.mem_cons_self XC hz hf) (by rfl) B.isinstance_ (by decide +kernel) (pa_cons (pv 1) (pa_cons (pe_bltn (v := .ty "ValueError") (by rfl) B.ValueError_ (by decide +kernel) rfl) pa_nil))))) (pss_one (ps_ret (pe_lst (pa_cons pe_int pa_nil)))) pss_nil)
      (pss_one (ps_ret (pe_lcEH (own := [("_law_place", 2), ("_law_own", 3)]) (g := gTup X.K 2 (gCons (gName 2) (gCons (gName 3) gNil))) hot sc__law_refused.nd (by rfl) B.enumerate_ (pa_cons (pe_callE G__law_classes hz hf List.mem_cons_self hr1 (by rfl) D__law_classes.g D__law_classes.F.kp D__law_classes.b (pa_cons (pv 1) pa_nil)) pa_nil)
        (blkOk_by (own := [("_law_place", 2), ("_law_own", 3)]) (N := N__law_refused) (sc := defScope s__law_refused) (by decide +kernel)) (fun _ _ _ _ _ => pgq_tup (pgs_cons (pg_name (i := 2) sc__law_refused.nd rfl (.inl rfl)) (pgs_cons (pg_name (i := 3) sc__law_refused.nd rfl (.inl rfl)) pgs_nil))) (fun _ _ _ _ _ => pts_one (pt_val (pv 3))) (fun _ _ _ _ _ => pv 2))))), ?_⟩
    refine q_when (b := false) (et_not (et_B (ev_isE (c := .ty "ValueError") (cv := .type "ValueError") (ev_var rfl) ev_c (fun u r => r) hv))) (fun hb => by cases hb) (fun _ H1 e1 => ?_)
    refine s_retF (K := X.K) (ef_places (bs := (List.range 15).map fun i => decide (i = n)) (fun H2 e2 Q' q' => ⟨_, rfl, rfl, D, n, rfl, XC, hk, fun p xs H3 np e3 hp hx => q' p xs H3 e3 hp (by rw [List.map_map]; exact hx)⟩) (by rw [List.length_map, List.length_range]; decide)) fun p xs H2 np e2 hp hx => ?_
    have h1 := of_decide_eq_true (List.all_eq_true.mp places_one n (List.mem_range.mpr n15))
    rw [List.length_map, List.length_range, h1] at hx
    have hxs : xs = [.int (n : Int)] := dta_ints_inv (l := [(n : Int)]) hx
    subst hxs
    exact k p H2 (fresh_back e1 np) (e1.trans e2) hp
  · refine ⟨Eref X.K CE Cs Q, fun cls d σ' H' ⟨D, n, k1, k2, k3, k4, k5, k6, k7, k8⟩ => ?_, rfl, hc, h⟩
    subst k2
    exact ⟨true, k4, fun _ a ha => ⟨⟨σ', rfl⟩, D, n, k1, rfl, k3, k5, k6, k7, k8⟩, fun z => nomatch z⟩
end
/-! ### where the tables of code objects grow: all else stays -/
theorem Dc.okG {P : Program} {w : World} {K : PySem.W.Frag} {mg : Str → Option Value} {base : Heap} {x : Str} {st : Stmt} {f c : Addr} {fd : FuncData} {N ps : List Str} {k : Nat} {sp : Sp} (D : Dc K mg x st ps f fd c) (S : FnScope N ps (defScope st)) (ln : ∀ vs H Q E, sp vs H Q E → vs.length = ps.length)
    (bd : ∀ (A : Around) (outer : List Env) (s : Shared) (H : Hp) (vs : List V) (Q : VK) (E : XK), A.guards = some [] → Room k (A.deeper (envOfC x (defScope st) s.heap.objs.size f (.ref c))) → sp vs H Q E → ∃ t, PSs (cxOf CX0 P w K mg base N x (defScope st) f (.ref c) A outer s H E).nox (defBody st) t ∧ t { nx := fun _ H' => Q .non H', rt := Q } (start N vs) H) :
    FnG P w K mg base (k + 1) f fd ps sp := by
  obtain ⟨oc, od, kV, doc, pm, an, ct, osl, rfl, lk, hcd⟩ := D.cd
  exact fnG_of lk hcd S ln bd
section
open LamX
variable {K : PySem.W.Frag} {H H' : Hp}
theorem nx_ex (e : Ex H H') : ExtN H H' := fun b o h _ => e b o h
theorem tx_n (e : ExtN H H') : Tx H H' := fun a u h => h.elim (fun h => .inl (e _ _ h fun _ z => nomatch z)) fun ⟨o, h⟩ => .inr ⟨o, e _ _ h fun _ z => nomatch z⟩
theorem dt_n (e : ExtN H H') {v : V} {d : PyData} (h : Dt K H v d) : Dt K H' v d := dt_tx (tx_n e) h
theorem dta_n (e : ExtN H H') {vs : List V} {ds : List PyData} (h : DtAll K H vs ds) : DtAll K H' vs ds := dta_tx (tx_n e) h
theorem lst_n (e : ExtN H H') {a : Addr} {xs : List V} (h : H a = some (.lst xs)) : H' a = some (.lst xs) := e _ _ h fun _ z => nomatch z
theorem sql_n (e : ExtN H H') {a : Addr} {xs : List V} (h : SqL K H a xs) : SqL K H' a xs := h.elim (fun h => .inl (h.elim (fun h => .inl (e _ _ h fun _ z => nomatch z)) fun ⟨o, h⟩ => .inr ⟨o, e _ _ h fun _ z => nomatch z⟩)) .inr
theorem box_n (e : ExtN H H') {b : Addr} (h : BoxAt H b) : BoxAt H' b := by
  obtain ⟨x, y, h⟩ := h
  exact ⟨x, y, lst_n e h⟩
theorem tab_n (e : ExtN H H') {p : Addr} (h : H p = some (TabO p)) : H' p = some (TabO p) := e _ _ h fun _ z => nomatch z
theorem none_n (e : ExtN H H') {p : Addr} (h : H' p = none) (hT : ∀ ps, H p ≠ some (.tbl ps)) : H p = none := by
  cases q : H p with
  | none => rfl
  | some o =>
    rw [e p o q fun ps z => hT ps (by rw [q, z])] at h
    cases h
/-- the code objects' tables hold, all else stays -/
structure Nx (T : List (Addr × Str)) (H H' : Hp) : Prop where
  x : ExtN H H'
  t : Tabs T H'
theorem Nx.refl {T : List (Addr × Str)} (t : Tabs T H) : Nx T H H := ⟨ExtN.refl H, t⟩
theorem Nx.trans {T : List (Addr × Str)} {H1 H2 : Hp} (a : Nx T H H1) (b : Nx T H1 H2) : Nx T H H2 := ⟨a.x.trans b.x, b.t⟩
theorem Nx.ex {T : List (Addr × Str)} {H1 H2 : Hp} (a : Nx T H H1) (e : Ex H1 H2) : Nx T H H2 := ⟨a.x.trans (nx_ex e), a.t.ext e⟩
theorem nx_of {T : List (Addr × Str)} (t : Tabs T H) (e : Ex H H') : Nx T H H' := ⟨nx_ex e, t.ext e⟩
end
section
variable {K : PySem.W.Frag} {σ : L2.St} {H : Hp} {T : List (Addr × Str)} {tl te : TE} {t : TT} {ds : List PyData} {D : Ends} {tz tu tv : TS}
theorem s_forFN {g : TG} (h : EvF K tl σ H ds) (hT : LamX.Tabs T H) (Pv : Nat → L2.St → Hp → Prop) (h0 : ∀ H1, Ex H H1 → Pv 0 σ H1)
    (hs : ∀ H1 i x d σ' H', Ex H H1 → Nx T H1 H' → ds[i]? = some d → Dt K H' x d → Pv i σ' H' → g x σ' H' fun σ2 H2 => tu { D with nx := fun σ3 H3 => Nx T H1 H3 ∧ Pv (i + 1) σ3 H3, ct := fun σ3 H3 => Nx T H1 H3 ∧ Pv (i + 1) σ3 H3, bk := D.nx } σ2 H2)
    (hd : ∀ σ' H', Nx T H H' → Pv ds.length σ' H' → D.nx σ' H') : tFor (iList K tl) g tu D σ H :=
  h H (Ex.refl H) _ fun p xs H1 np e1 hp hx => ⟨p, rfl, ⟨xs, sq_of hp⟩, for_list (xs := xs) (fun i σ' H' => Nx T H1 H' ∧ Pv i σ' H') ⟨Nx.refl (hT.ext e1), h0 H1 e1⟩ (fun i σ' H' _ hw => sq_of (lst_n hw.1.x hp)) (fun i x σ' H' hi hw => by
      obtain ⟨d, h1, h2⟩ := dta_get (dta_n hw.1.x hx) hi
      exact hs H1 i x d σ' H' e1 hw.1 h1 h2 hw.2) (fun σ' H' hw => hd σ' H' ⟨(nx_ex e1).trans hw.1.x, hw.1.t⟩ (by rw [← dta_len hx]; exact hw.2))⟩
theorem q_forFN {g : TG} (h : EvF K tl σ H ds) (hT : LamX.Tabs T H) (Pv : Nat → L2.St → Hp → Prop) (h0 : ∀ H1, Ex H H1 → Pv 0 σ H1)
    (hs : ∀ H1 i x d σ' H', Ex H H1 → Nx T H1 H' → ds[i]? = some d → Dt K H' x d → Pv i σ' H' → g x σ' H' fun σ2 H2 => tu { D with nx := fun σ3 H3 => Nx T H1 H3 ∧ Pv (i + 1) σ3 H3, ct := fun σ3 H3 => Nx T H1 H3 ∧ Pv (i + 1) σ3 H3, bk := tz D } σ2 H2)
    (hd : ∀ σ' H', Nx T H H' → Pv ds.length σ' H' → tz D σ' H') : tSeq (tFor (iList K tl) g tu) tz D σ H := s_forFN (D := { D with nx := tz D }) h hT Pv h0 hs hd
/-- a test that comes out as b, the tables growing -/
def EvTN (T : List (Addr × Str)) (t : TT) (σ : L2.St) (H : Hp) (b : Bool) : Prop := ∀ H1, Nx T H H1 → ∀ Q : Bool → Hp → Prop, (∀ H2, Nx T H1 H2 → Q b H2) → t σ H1 Q
theorem q_whenN {b : Bool} (hT : LamX.Tabs T H) (h : EvTN T t σ H b) (h1 : b = true → ∀ H1, Nx T H H1 → tu { D with nx := tz D } σ H1) (h2 : b = false → ∀ H1, Nx T H H1 → tz D σ H1) : tSeq (tIfS t tu tNext) tz D σ H := h H (Nx.refl hT) _ fun H1 n => by
  cases b with
  | true => exact iteT (h1 rfl H1 n)
  | false => exact iteF (h2 rfl H1 n)
theorem s_whenN {b : Bool} (hT : LamX.Tabs T H) (h : EvTN T t σ H b) (h1 : b = true → ∀ H1, Nx T H H1 → tu D σ H1) (h2 : b = false → ∀ H1, Nx T H H1 → D.nx σ H1) : tIfS t tu tNext D σ H := h H (Nx.refl hT) _ fun H1 n => by
  cases b with
  | true => exact iteT (h1 rfl H1 n)
  | false => exact iteF (h2 rfl H1 n)
/-- a lambda's body that raises D -/
def RaisesN (tb : XK → TE) (σ : L2.St) (H : Hp) (D : Addr) : Prop := ∀ H1, LamX.ExtN H H1 → ∀ (E : XK) (Q : VK), (∀ H2, Ex H1 H2 → E (.ref D) none H2) → tb E σ H1 Q
/-- a class of refusals -/
structure ExD (K : PySem.W.Frag) (CE : Addr) (Cs : List Addr) (D : Addr) (n : Nat) : Prop where
  c : ExcC K D
  m : PySem.W.exmOne K (.ref D) (.ref CE) = some true
  v : PySem.W.kitOne K (.ref D) (.type "ValueError") = some true
  o : OnlyAt K D Cs n
  l : n < 15
/-- refused(lambda: ..) != [k] -/
theorem et_refused {CE : Addr} {Cs : List Addr} {tb : XK → TE} {DD : Addr} {n : Nat} {k : Int} (h : RaisesN tb σ H DD) (X : ExD K CE Cs DD n) : EvTN T (tTest (tOp (rNeD K) (LamX.tLam T (TTref K CE Cs) tb) (tLst (tCons (tC (.int k)) tNil)))) σ H (!decide ((n : Int) = k)) := fun H1 n1 Q q =>
  ⟨n1.t, fun H2 x2 t2 => h H2 (n1.x.trans x2) _ _ fun H3 e3 => ⟨DD, n, rfl, rfl, X.c, X.m, X.v, X.o, X.l, fun p H4 np e4 hp => ⟨sz_of (by show 1 ≤ 100000; decide), fun r hr =>
    ⟨.list [.int (n : Int)], .list [.int k], .lst (sq_of (Ex.new hr p _ hp)) (.cons (.int _) .nil), .lst (sq_of upd_same) (.cons (.int _) .nil), ints_shaped [(n : Int)], ints_shaped [k], _, rfl, by
      have e5 : PyData.eqv (.list [.int (n : Int)]) (.list [.int k]) = decide ((n : Int) = k) := by
        have e6 : PyData.eqv (.list [.int (n : Int)]) (.list [.int k]) = (((n : Int) == k) && true) := by simp only [PyData.eqv, PyData.eqvAll]
        rw [e6, Bool.and_true]
        rfl
      rw [e5]
      exact q _ ⟨x2.trans (nx_ex ((e3.trans e4).trans (Ex.new hr))), (t2.ext ((e3.trans e4).trans (Ex.new hr)))⟩⟩⟩⟩⟩
theorem passN0 {X : Cx} : Passes (L2N.CX X.prog X.w) X E0 := fun _ _ _ _ _ _ _ h => by
  obtain ⟨_, _, _, _, _, _, _, _, _, _, _, _, z⟩ := h
  exact z.elim
end
/-! ### a drawn lot -/
theorem bk_mut {b D : Addr} {H H' : Hp} {o : HO} (x : Bk b H H') (n : H D = none) : Bk b H (upd H' D o) := ⟨fun c u hc h => by rw [upd_ne (ne_of_none h n)]; exact x.bx c u hc h, fun c u r => by
  have nc : c ≠ D := fun z => by
    subst z
    rcases r with r | ⟨o, r⟩ <;> (rw [n] at r; cases r)
  rcases x.tx c u r with r | ⟨o, r⟩
  · exact .inl (by rw [upd_ne nc]; exact r)
  · exact .inr ⟨o, by rw [upd_ne nc]; exact r⟩⟩
def subs : List Int → List (List Int)
  | [] => [[]]
  | x :: r => (subs r).map (x :: ·) ++ subs r
theorem subs_of {l r : List Int} (h : l.Sublist r) : l ∈ subs r := by
  induction h with
  | slnil => exact List.mem_singleton.mpr rfl
  | cons a _ ih => exact List.mem_append_right _ ih
  | cons_cons a _ ih => exact List.mem_append_left _ (List.mem_map.mpr ⟨_, ih, rfl⟩)
section
variable {P : Program} {w : World} {K : PySem.W.Frag} {mg : Str → Option Value} {base : Heap}
/-! displays some of whose items change the box -/
def EvKA (K : PySem.W.Frag) (b : Addr) (ta : TA) (σ : L2.St) (H : Hp) (p : List PyData → Prop) : Prop := ∀ Q : List V → Hp → Prop, (∀ vs ds H2, p ds → DtAll K H2 vs ds → BoxAt H2 b → Bk b H H2 → Q vs H2) → ta σ H Q
theorem ka_nil {σ : L2.St} {H : Hp} {b : Addr} (hb : BoxAt H b) : EvKA K b tNil σ H (fun ds => ds = []) := fun Q q => q [] [] H rfl .nil hb (Bk.refl b H)
theorem ka_cons {σ : L2.St} {H : Hp} {b : Addr} {te : TE} {tr : TA} {p1 : PyData → Prop} {p2 : List PyData → Prop} (h : EvK K b te σ H p1) (hr : ∀ H', Bk b H H' → BoxAt H' b → EvKA K b tr σ H' p2) : EvKA K b (tCons te tr) σ H (fun ds => ∃ d r, ds = d :: r ∧ p1 d ∧ p2 r) := fun Q q =>
  h _ fun v d H2 h1 hv hb2 x2 => hr H2 x2 hb2 _ fun vs ds H3 h2 hvs hb3 x3 => q (v :: vs) (d :: ds) H3 ⟨d, ds, rfl, h1, h2⟩ (.cons (dt_tx x3.tx hv) hvs) hb3 (x2.trans x3)
theorem ka_pure {σ : L2.St} {H : Hp} {b : Addr} {ta : TA} {ds : List PyData} (h : EvB K ta σ H ds) (hb : BoxAt H b) : EvKA K b ta σ H (fun es => es = ds) := fun Q q => h H (Ex.refl H) _ fun vs H2 e2 hvs => q vs ds H2 rfl hvs (hb.ex e2) (bk_ex e2)
def EvG (K : PySem.W.Frag) (b : Addr) (te : TE) (σ : L2.St) (H : Hp) (p : List PyData → Prop) : Prop := ∀ Q : VK, (∀ q xs ds H2, p ds → H q = none → H2 q = some (.lst xs) → DtAll K H2 xs ds → BoxAt H2 b → Bk b H H2 → Q (.ref q) H2) → te σ H Q
theorem bk_free {b q : Addr} {H H' : Hp} (x : Bk b H H') (hb : BoxAt H' b) (n : H' q = none) : H q = none := by
  cases e : H q with
  | none => rfl
  | some o =>
    have nq : q ≠ b := box_ne hb n
    rw [x.bx q o nq e] at n
    cases n
theorem eg_lst {σ : L2.St} {H : Hp} {b : Addr} {ta : TA} {p : List PyData → Prop} (h : EvKA K b ta σ H p) (hp : ∀ ds, p ds → ds.length ≤ 1000) : EvG K b (tLst ta) σ H p := fun Q q =>
  h _ fun vs ds H2 h1 hvs hb2 x2 => ⟨sz_of (by rw [dta_len hvs]; have := hp ds h1; omega), fun r hr => q r vs ds _ h1 (bk_free x2 hb2 hr) upd_same (dta_ex (Ex.new hr) hvs) (hb2.ex (Ex.new hr)) (x2.trans (bk_ex (Ex.new hr)))⟩
theorem ka_imp {σ : L2.St} {H : Hp} {b : Addr} {ta : TA} {p p' : List PyData → Prop} (h : EvKA K b ta σ H p) (hi : ∀ ds, p ds → p' ds) : EvKA K b ta σ H p' := fun Q q => h Q fun vs ds H2 hp => q vs ds H2 (hi ds hp)
theorem eg_imp {σ : L2.St} {H : Hp} {b : Addr} {te : TE} {p p' : List PyData → Prop} (h : EvG K b te σ H p) (hi : ∀ ds, p ds → p' ds) : EvG K b te σ H p' := fun Q q => h Q fun r xs ds H2 hp => q r xs ds H2 (hi ds hp)
theorem q_forG {σ : L2.St} {H : Hp} {b : Addr} {D : Ends} {tl : TE} {g : TG} {tu tz : TS} {p : List PyData → Prop} (h : EvG K b tl σ H p)
    (k : ∀ ds H1, p ds → BoxAt H1 b → Bk b H H1 → ∃ Pv : Nat → L2.St → Hp → Prop, Pv 0 σ H1 ∧ (∀ i x d σ' H', Ex H1 H' → ds[i]? = some d → Dt K H' x d → Pv i σ' H' → g x σ' H' fun σ2 H2 => tu { D with nx := fun σ3 H3 => Ex H1 H3 ∧ Pv (i + 1) σ3 H3, ct := fun σ3 H3 => Ex H1 H3 ∧ Pv (i + 1) σ3 H3, bk := tz D } σ2 H2) ∧ (∀ σ' H', Ex H1 H' → Pv ds.length σ' H' → tz D σ' H')) : tSeq (tFor (iList K tl) g tu) tz D σ H :=
  h _ fun r xs ds H1 h1 nr hr hx hb1 x1 => by
    obtain ⟨Pv, h0, hs, hd⟩ := k ds H1 h1 hb1 x1
    exact ⟨r, rfl, ⟨xs, sq_of hr⟩, for_list (xs := xs) (fun i σ' H' => Ex H1 H' ∧ Pv i σ' H') ⟨Ex.refl _, h0⟩ (fun i σ' H' _ hw => sq_of (hw.1 r _ hr)) (fun i x σ' H' hi hw => by
      obtain ⟨d, h1, h2⟩ := dta_get (dta_ex hw.1 hx) hi
      exact hs i x d σ' H' hw.1 h1 h2 hw.2) (fun σ' H' hw => hd σ' H' hw.1 (by rw [← dta_len hx]; exact hw.2))⟩
theorem ed_tupRg {σ : L2.St} {H : Hp} {te : TE} {m : Int} (h : Ev te σ H (.int m)) (m0 : 0 ≤ m) (m1 : m < 1000) : EvD K (tTupRg (tRg1 te)) σ H (lotD (upTo 0 m)) := fun H1 e Q q =>
  h H1 e _ fun H2 e2 => ⟨m, rfl, RgOk.of_le (by decide) (by omega) (by decide) m0, fun t ht => q _ _ (e2.trans (Ex.new ht)) (lot_dt (st_of (by
    rw [upd_same]
    congr 2
    unfold rgV upTo
    rw [List.map_map]
    rfl)))⟩
end
/-! ### picks, slices, lists of drawn things -/
section
variable {K : PySem.W.Frag} {b : Addr} {σ : L2.St} {H H' : Hp} {ta tb te tl tn : TE} {p : PyData → Prop} {d : PyData} {ds : List PyData} {D : Ends} {tz : TS}
/-- l[take], l a list that stands -/
theorem ek_pick {q : Addr} {xs : List V} (hl : Ev tl σ H (.ref q)) (hq : H q = some (.lst xs)) (hx : DtAll K H xs ds) (nq : q ≠ b) (hi : ∀ H', Ex H H' → EvK K b ta σ H' (fun d => ∃ r : Int, d = .int r ∧ 0 ≤ r ∧ r < (ds.length : Int))) : EvK K b (tOp (rIxL K) tl ta) σ H (fun d => d ∈ ds) := fun Q k =>
  hl H (Ex.refl H) _ fun H1 e1 => hi H1 e1 _ fun v d H2 hr hv hb2 x2 => by
    obtain ⟨r, rfl, r0, r1⟩ := hr
    cases hv
    obtain ⟨m, rfl⟩ : ∃ m : Nat, r = (m : Int) := ⟨r.toNat, by omega⟩
    have hm : m < ds.length := by omega
    obtain ⟨w, hw, hd⟩ := dta_get' (dta_tx x2.tx (dta_ex e1 hx)) (List.getElem?_eq_getElem hm)
    exact ⟨q, xs, (m : Int), w, rfl, rfl, sq_of (x2.bx q _ nq (e1 q _ hq)), atI_nat hw, k w _ H2 (List.getElem_mem hm) hd hb2 ((bk_ex e1).trans x2)⟩
theorem cutV_to (xs : List V) (n : Nat) : cutV xs none (some (n : Int)) = xs.take n := by
  unfold cutV
  rw [HT.sIx_none, show HT.sIx xs.length xs.length (some (n : Int)) = min n xs.length from HT.sIx_nat xs.length xs.length n]
  show (xs.drop 0).take (min n xs.length - 0) = xs.take n
  rw [List.drop_zero, Nat.sub_zero, List.take_eq_take_iff]
  simp
theorem cutV_from (xs : List V) (n : Nat) : cutV xs (some (n : Int)) none = xs.drop n := by
  unfold cutV
  rw [HT.sIx_none, show HT.sIx xs.length 0 (some (n : Int)) = min n xs.length from HT.sIx_nat xs.length 0 n]
  show (xs.drop (min n xs.length)).take (xs.length - min n xs.length) = xs.drop n
  rw [List.take_of_length_le (by rw [List.length_drop]; exact Nat.le_refl _)]
  by_cases h : n ≤ xs.length
  · rw [Nat.min_eq_left h]
  · rw [Nat.min_eq_right (by omega), List.drop_length, List.drop_eq_nil_of_le (by omega)]
/-- t[:n] -/
theorem ed_cutTo {n : Nat} (h : EvD K te σ H (.tuple ds)) (hn : Ev tn σ H (.int (n : Int))) : EvD K (tSl (rSlA K) te tNoPart (tPart tn)) σ H (.tuple (ds.take n)) := fun H1 e Q q =>
  h H1 e _ fun v H2 e2 hv => hn H2 (e.trans e2) _ fun H3 e3 => by
    have hv := dt_ex e3 hv
    cases hv with
    | tup hs hx =>
      rename_i a xs
      refine ⟨_, rfl, _, _, rfl, hs, fun hw => ?_, fun hw p hp => ?_⟩
      · have h2 := hw.2
        rw [show HT.sIx xs.length xs.length (some (n : Int)) = min n xs.length from HT.sIx_nat xs.length xs.length n] at h2
        have : ds.take n = ds := List.take_of_length_le (by rw [← dta_len hx]; omega)
        rw [this] at q
        exact q _ _ (e2.trans e3) (.tup hs hx)
      · refine q _ _ ((e2.trans e3).trans (Ex.new hp)) (.tup (.inl (.inl (by rw [upd_same, cutV_to]))) (dta_ex (Ex.new hp) (dta_take n hx)))
/-- t[n:] -/
theorem ed_cutFrom {n : Nat} (h : EvD K te σ H (.tuple ds)) (hn : Ev tn σ H (.int (n : Int))) : EvD K (tSl (rSlA K) te (tPart tn) tNoPart) σ H (.tuple (ds.drop n)) := fun H1 e Q q =>
  h H1 e _ fun v H2 e2 hv => hn H2 (e.trans e2) _ fun H3 e3 => by
    have hv := dt_ex e3 hv
    cases hv with
    | tup hs hx =>
      rename_i a xs
      refine ⟨_, rfl, _, _, rfl, hs, fun hw => ?_, fun hw p hp => ?_⟩
      · have h2 := hw.1
        rw [show HT.sIx xs.length 0 (some (n : Int)) = min n xs.length from HT.sIx_nat xs.length 0 n] at h2
        have : ds.drop n = ds := by
          by_cases h0 : n = 0
          · rw [h0]; rfl
          · have hl : xs.length = 0 := by omega
            rw [dta_len hx] at hl
            rw [List.length_eq_zero_iff.mp hl]
            exact List.drop_nil
        rw [this] at q
        exact q _ _ (e2.trans e3) (.tup hs hx)
      · refine q _ _ ((e2.trans e3).trans (Ex.new hp)) (.tup (.inl (.inl (by rw [upd_same, cutV_from]))) (dta_ex (Ex.new hp) (dta_drop n hx)))
/-- [take.. for x in range(n)] -/
theorem eg_lcR {ta : TA} {j : Nat} {vs : List Nat} {hi : Int} (h : EvA ta σ H [.int hi]) (hb : BoxAt H b) (hn : 0 ≤ hi ∧ hi ≤ 1000) (hw : ∀ x, wipe ((wipe σ vs).set j (some x)) vs = wipe σ vs)
    (he : ∀ (i : Int) H1, Bk b H H1 → BoxAt H1 b → EvK K b te ((wipe σ vs).set j (some (.int i))) H1 p) : EvG K b (tLc (iRng1 ta) (gName j) tYes te vs) σ H (fun ds => (ds.length : Int) = hi ∧ ∀ d ∈ ds, p d) := fun Q q =>
  h H (Ex.refl H) _ fun H1 e1 => ⟨hi, rfl, by omega, by omega, fun Dl hD => by
    have nD : Dl ≠ b := box_ne (hb.ex e1) hD
    refine lc_range (lo := 0) (n := hi.toNat) (fun i H' => BoxAt H' b ∧ Bk b H1 H' ∧ ∃ (acc : List V) (ds : List PyData), H' Dl = some (.lst acc) ∧ DtAll K H' acc ds ∧ ds.length = i ∧ ∀ d ∈ ds, p d) ⟨(hb.ex e1).ex (Ex.new hD), bk_ex (Ex.new hD), [], [], upd_same, .nil, rfl, fun d hd => nomatch hd⟩ (fun i H' hi' pv => ⟨hw _, ?_⟩) (fun H' pv => ?_)
    · obtain ⟨hb2, x2, acc, ds, ha, hd, hl, hp⟩ := pv
      refine (he _ H' ((bk_ex e1).trans x2) hb2) _ fun v d H3 hpd hv hb3 x3 => ?_
      have ha3 := x3.bx Dl _ nD ha
      refine ⟨acc, ha3, sz_lt (by rw [dta_len hd]; omega), ?_, bk_mut (x2.trans x3) hD, acc ++ [v], ds ++ [d], upd_same, dta_tx (tx_lst ha3) (dta_app (dta_tx x3.tx hd) (dta_one hv)), by rw [List.length_append, hl]; rfl, fun d' hd' => ?_⟩
      · obtain ⟨n1, n2, hb4⟩ := hb3
        exact ⟨n1, n2, by rw [upd_ne nD.symm]; exact hb4⟩
      · rcases List.mem_append.mp hd' with z | z
        · exact hp d' z
        · rw [List.mem_singleton.mp z]; exact hpd
    · obtain ⟨hb2, x2, acc, ds, ha, hd, hl, hp⟩ := pv
      exact q Dl acc ds H' ⟨by omega, hp⟩ (fresh_back e1 hD) ha hd hb2 ((bk_ex e1).trans x2)⟩
theorem q_asgG {pl : List PyData → Prop} {i : Nat} (h : EvG K b te σ H pl) (k : ∀ q xs ds H2, pl ds → H q = none → H2 q = some (.lst xs) → DtAll K H2 xs ds → BoxAt H2 b → Bk b H H2 → tz D (σ.set i (some (.ref q))) H2) : tSeq (tAsg te (gName i)) tz D σ H := h _ k
end
theorem take_sub {l u : List Int} (h : l.Sublist u) (n : Nat) : (l.take n).Sublist u := (List.take_sublist n l).trans h
theorem drop_sub {l u : List Int} (h : l.Sublist u) (n : Nat) : (l.drop n).Sublist u := (List.drop_sublist n l).trans h
theorem cut_sub {l u : List Int} (h : l.Sublist u) (n : Nat) : (l.take n ++ l.drop (n + 1)).Sublist u := by
  refine List.Sublist.trans ?_ h
  have e : l.take n ++ l.drop n = l := List.take_append_drop n l
  have h2 : (l.drop (n + 1)).Sublist (l.drop n) := by
    rw [show n + 1 = n + 1 from rfl, ← List.drop_drop]
    exact List.drop_sublist _ _
  have h3 := (List.Sublist.refl (l.take n)).append h2
  rw [e] at h3
  exact h3
theorem one_sub {c m : Int} (h0 : 0 ≤ c) (h1 : c < m) : [c].Sublist (upTo 0 m) := by
  rw [List.singleton_sublist]
  unfold upTo
  exact List.mem_map.mpr ⟨c.toNat, List.mem_range.mpr (by omega), by omega⟩
/-! ### slices of lists -/
section
variable {K : PySem.W.Frag} {σ : L2.St} {H H' : Hp} {ta tb te tl tn : TE} {ds : List PyData}
/-- l[n:], l a list that stands -/
theorem ef_cutFromL {q : Addr} {xs : List V} {n : Nat} (h : Ev te σ H (.ref q)) (hq : SqL K H q xs) (hx : DtAll K H xs ds) (hn : Ev tn σ H (.int (n : Int))) : EvF K (tSl (rSlL K) te (tPart tn) tNoPart) σ H (ds.drop n) := fun H1 e Q k =>
  h H1 e _ fun H2 e2 => hn H2 (e.trans e2) _ fun H3 e3 => ⟨_, rfl, _, _, rfl, ex_l ((e.trans e2).trans e3) hq, fun p hp => k p _ _ (fresh_back (e2.trans e3) hp) ((e2.trans e3).trans (Ex.new hp)) (by rw [upd_same, cutV_from]) (dta_ex ((e.trans e2).trans (e3.trans (Ex.new hp))) (dta_drop n hx))⟩
/-- l[:n] -/
theorem ef_cutToL {q : Addr} {xs : List V} {n : Nat} (h : Ev te σ H (.ref q)) (hq : SqL K H q xs) (hx : DtAll K H xs ds) (hn : Ev tn σ H (.int (n : Int))) : EvF K (tSl (rSlL K) te tNoPart (tPart tn)) σ H (ds.take n) := fun H1 e Q k =>
  h H1 e _ fun H2 e2 => hn H2 (e.trans e2) _ fun H3 e3 => ⟨_, rfl, _, _, rfl, ex_l ((e.trans e2).trans e3) hq, fun p hp => k p _ _ (fresh_back (e2.trans e3) hp) ((e2.trans e3).trans (Ex.new hp)) (by rw [upd_same, cutV_to]) (dta_ex ((e.trans e2).trans (e3.trans (Ex.new hp))) (dta_take n hx))⟩
theorem ef_cutToF {n : Nat} (h : EvF K te σ H ds) (hn : Ev tn σ H (.int (n : Int))) : EvF K (tSl (rSlL K) te tNoPart (tPart tn)) σ H (ds.take n) := fun H1 e Q k =>
  h H1 e _ fun q xs H2 _ e2 hq hx => hn H2 (e.trans e2) _ fun H3 e3 => ⟨_, rfl, _, _, rfl, sq_of (e3 q _ hq), fun p hp => k p _ _ (fresh_back (e2.trans e3) hp) ((e2.trans e3).trans (Ex.new hp)) (by rw [upd_same, cutV_to]) (dta_ex (e3.trans (Ex.new hp)) (dta_take n hx))⟩
end
section
variable {P : Program} {w : World} {K : PySem.W.Frag} {mg : Str → Option Value} {base : Heap}
def spHasI (K : PySem.W.Frag) : Sp := fun vs H Q _ => ∃ (v : V) (a : Addr) (p l : List Int), vs = [v, .ref a] ∧ Dt K H v (lotD p) ∧ SqL K H a (l.map V.int) ∧ l.length ≤ 1000 ∧ ∀ H2, Ex H H2 → Q (.bl (hasL p l)) H2
theorem okk_hasI {f : Addr} {fd : FuncData} {k : Nat} (D : Df K mg "_law_has" s__law_has ["_law_pane", "_law_lot"] f fd) (B : Bt mg) : FnOk P w K mg base CX0 (k + 1) f fd ["_law_pane", "_law_lot"] (spHasI K) := by
  refine D.F.ok sc__law_has (fun vs H Q E h => ?_) (fun cdv A outer s H vs Q E hr h => ?_)
  · obtain ⟨v, a, p, l, rfl, _⟩ := h
    rfl
  · obtain ⟨v, a, p, l, rfl, h1, hS, hl, q⟩ := h
    obtain ⟨pa, rfl, hpa⟩ := dt_lot h1
    refine ⟨_, (pss_one (ps_ret (pe_cmpR (show OpR _ _ (rEqD K) from op_eqD hr.units) (pe_lc (own := [("_law_corner", 2)]) rfl sc__law_has.nd (pi_list (pv 1)) (blkOk_by (own := [("_law_corner", 2)]) (N := N__law_has) (sc := defScope s__law_has) (by decide +kernel)) (fun _ _ _ _ _ => (pg_name (i := 2) sc__law_has.nd rfl (.inl rfl))) (fun _ _ _ _ _ => pts_one (pt_cmpR (show OpR _ _ (rIn K true) from op_notIn_seq) (pv 2) (pv 0) (by rfl))) (fun _ _ _ _ _ => (pv 2))) (pe_lst pa_nil) (nomark _)))), ?_⟩
    refine s_ret (v := .bl (hasL p l)) (ev_is (ev_eqFF (K := K) (ds := (l.filter fun c => !p.contains c).map PyData.int) (es := []) (ef_is (ef_lcL (ds := l.map PyData.int) (fun d => !p.contains (unint d)) (fun d => d) (ev_var rfl) hS (dta_ints l) (by rw [List.length_map]; omega) (fun _ => rfl) (fun d x H1 e1 hm hd => ?_) (fun d x H1 e1 hm hd _ => ed_var rfl hd)) (filt_ints fun _ => rfl)) (ef_lst eb_nil (by decide)) (ints_shaped _) (by decide +kernel)) ?_) fun H1 e1 => q H1 e1
    · obtain ⟨c, _, rfl⟩ := mem_ints hm
      cases hd
      refine et_is (et_test (ev_op (ev_var rfl) (ev_var rfl) (rv_niT (ex_t e1 hpa) rfl (flat_ints p)))) ?_
      rw [inV_ints]
      rfl
    · rw [eqv_nil]
      unfold hasL
      cases (l.filter fun c => !p.contains c) <;> rfl
theorem ev_hasI {σ : L2.St} {H : Hp} {ta tb : TE} {p l : List Int} {a : Addr} {E : XK} (ha : EvD K ta σ H (lotD p)) (hb : Ev tb σ H (.ref a)) (hS : SqL K H a (l.map V.int)) (hl : l.length ≤ 1000) : Ev (tCall (spHasI K) [] E (tCons ta (tCons tb tNil))) σ H (.bl (hasL p l)) := fun H1 e Q q =>
  ha H1 e _ fun v H2 e2 hv => hb H2 (e.trans e2) _ fun H3 e3 => ⟨v, a, p, l, rfl, dt_ex e3 hv, ex_l ((e.trans e2).trans e3) hS, hl, fun H4 e4 => q H4 ((e2.trans e3).trans e4)⟩
end
def restP (l : List Int) (c : Int) : List Int := l.filter fun z => z != c
/-! ### the facts -/
def step10 (m d : Int) (ps : List (List Int)) (p : List Int) (c : Int) : Bool := match beyF m p c with
  | [q] => decide (ps.filter (fun z => !decide (z = p) && hasL z (restP p c)) = [q]) && ps.contains q && (match q.filter (fun z => !p.contains z) with
    | [c'] => q.contains c' && decide (beyF m q c' = [p])
    | _ => false)
  | _ => false
def good10 (m d : Int) (ps : List (List Int)) : Bool := !ps.isEmpty && decide (ps.length ≤ 300) && ps.all fun p => lotL m p && decide (p.length ≤ 9) && paneF m d p && p.all (step10 m d ps p)
def all10 : Bool := curvesAll.all fun c => good10 c.1 c.2 (panesL c.1 c.2)
theorem all_10 : all10 = true := by decide +kernel
structure F10 (m d : Int) : Prop where
  ne : panesL m d ≠ []
  few : (panesL m d).length ≤ 300
  pane : ∀ p ∈ panesL m d, lotL m p = true ∧ p.length ≤ 9 ∧ paneF m d p = true
  cor : ∀ p ∈ panesL m d, ∀ c, p.contains c = true → ∃ q c', beyF m p c = [q] ∧ (panesL m d).filter (fun z => !decide (z = p) && hasL z (restP p c)) = [q] ∧ q ∈ panesL m d ∧ q.filter (fun z => !p.contains z) = [c'] ∧ q.contains c' = true ∧ beyF m q c' = [p]
theorem facts10 {m d : Int} (hc : okC m d) : F10 m d := by
  have h : good10 m d (panesL m d) = true := curve_all all_10 hc
  unfold good10 at h
  simp only [Bool.and_eq_true, decide_eq_true_eq] at h
  obtain ⟨⟨h1, h2⟩, h3⟩ := h
  have h3 := List.all_eq_true.mp h3
  refine ⟨fun z => ?_, h2, fun p hp => ?_, fun p hp c hc => ?_⟩
  · rw [z] at h1; cases h1
  · have := h3 p hp
    simp only [Bool.and_eq_true, decide_eq_true_eq] at this
    exact ⟨this.1.1.1, this.1.1.2, this.1.2⟩
  · have := h3 p hp
    simp only [Bool.and_eq_true, decide_eq_true_eq] at this
    have k := List.all_eq_true.mp this.2 c (by simpa using hc)
    unfold step10 at k
    split at k
    · rename_i q hq
      simp only [Bool.and_eq_true, decide_eq_true_eq] at k
      obtain ⟨⟨k2, k3⟩, k4⟩ := k
      split at k4
      · rename_i c' hc'
        simp only [Bool.and_eq_true, decide_eq_true_eq] at k4
        exact ⟨q, c', hq, k2, by simpa using k3, hc', k4.1, k4.2⟩
      · cases k4
    · cases k
/-- the name of a lambda in the law -/
abbrev lamQ : Str := (("law" : Str) ++ ".<locals>.") ++ "<lambda>"
abbrev tabL (PL : Addr) : List (Addr × Str) := [(PL, lamQ)]
section
variable {P : Program} {w : World} {K : PySem.W.Frag} {mg : Str → Option Value} {base : Heap}
theorem rz_beyond (L : All K mg) {σ : L2.St} {H : Hp} {i j n : Nat} {v1 v2 : V} {m d c : Int} {l : List Int} (h1 : σ[i]? = some (some v1)) (h2 : σ[j]? = some (some v2)) (h3 : σ[n]? = some (some (.int c))) (d1 : Dt K H v1 (curveD m d)) (d2 : Dt K H v2 (lotD l)) (hc : okC m d) (hf : PaneFacts m d l) (hcm : l.contains c = false) :
    RaisesN (fun E => tCall (sp_beyondN L) [] E (tCons (tVar i) (tCons (tVar j) (tCons (tVar n) tNil)))) σ H L.C_NoCorner := fun H1 x E Q k =>
  ⟨v1, h1, v2, h2, _, h3, m, d, c, l, .cons (dt_n x d1) (.cons (dt_n x d2) (.cons (.int c) .nil)), hc, hf, fun _ => k, fun z => (by rw [hcm] at z; cases z)⟩
theorem ed_beyond (L : All K mg) {σ : L2.St} {H : Hp} {ta tb tc : TE} {m d c : Int} {l p : List Int} (ha : EvD K ta σ H (curveD m d)) (hb : EvD K tb σ H (lotD l)) (hcc : EvD K tc σ H (.int c)) (hc : okC m d) (hf : PaneFacts m d l) (hcm : l.contains c = true) (hp : beyF m l c = [p]) : EvD K (tCall (sp_beyondN L) [] E0 (tCons ta (tCons tb (tCons tc tNil)))) σ H (lotD p) := fun H1 e Q q =>
  (eb_cons ha (eb_cons hb (eb_cons hcc eb_nil))) H1 e _ fun vs H2 e2 hvs => ⟨m, d, c, l, (by show DtAll K H2 (vs ++ []) _; rw [List.append_nil]; exact hvs), hc, hf, fun z => (by rw [hcm] at z; cases z), fun _ => ⟨p, by rw [hp]; rfl, fun v H3 e3 hv => q v H3 (e2.trans e3) hv⟩⟩
theorem ok_law (L : All K mg) {f c PL CE : Addr} {Cs : List Addr} {fd : FuncData} (D : Dc K mg "law" s_law ["_law_script"] f fd c) (TBG : GxR.TabB base mg c PL) (CC : Cls15 mg Cs) (hCE : mg "CurveError" = some (.ref CE)) (X_NoCorner : ExD K CE Cs L.C_NoCorner 5) : FnG P w K mg base 11 f fd ["_law_script"] (spLawY K [] [PL]) := by
  have B := L.B
  have D_beyond := L.D_beyond
  have G_beyond := okN_beyond (P := P) (w := w) (base := base) L (k := 0)
  have D__law_box := L.D__law_box
  have G__law_box := ok__law_box (P := P) (w := w) (base := base) L (k := 0)
  have D__law_take := L.D__law_take
  have G__law_take := ok__law_take (P := P) (w := w) (base := base) L (k := 0)
  have D__law_curve := L.D__law_curve
  have G__law_curve := ok__law_curve (P := P) (w := w) (base := base) L (k := 0)
  have D__law_panes := L.D__law_panes
  have G__law_panes := ok__law_panes (P := P) (w := w) (base := base) L (k := 0)
  have D__law_has := L.D__law_has
  have G__law_has := okk_hasI (P := P) (w := w) (base := base) (k := 0) L.D__law_has L.B
  have D__law_refused := L.D__law_refused
  have D__law_classes := L.D__law_classes
  have TBL : LamX.TabB base mg c PL := ⟨TBG.code, TBG.bm, TBG.gP⟩
  refine D.okG sc_law (fun vs H Q E h => ?_) (fun A outer s H vs Q E gd hr h => ?_)
  · obtain ⟨a, ns, rfl, _⟩ := h
    rfl
  · obtain ⟨a, ns, rfl, hS, hlen, hPs, htbl, q⟩ := h
    have hT0 : LamX.Tabs (tabL PL) H := fun p hp => by
      rw [List.mem_singleton.mp hp]
      exact LamX.TabS.nil (htbl PL (by simp))
    refine ⟨_, (pss_cons (ps_for PassesOwn.never rfl (pi_range1 (by rfl) B.range_ (pa_cons (pe_callB (call_max2 rfl) (by rfl) B.max_ (by decide +kernel) (pa_cons pe_int (pa_cons (pe_callB (call_min2 rfl) (by rfl) B.min_ (by decide +kernel) (pa_cons (pe_callB (show CallR _ _ (rLenS K) from call_len_seq) (by rfl) B.len_ (by decide +kernel) (pa_cons (pv 0) pa_nil)) (pa_cons pe_int pa_nil))) pa_nil))) pa_nil)) (pg_name (i := 1) sc_law.nd rfl (.inl rfl))  (pss_cons (ps_set (i := 2) sc_law.nd rfl (.inl rfl) (pe_call G__law_box (hr.mono (by omega)) (by rfl) D__law_box.g D__law_box.F.kp D__law_box.b .nil pass0 (pa_cons (pv 0) (pa_cons (pv 1) pa_nil)))) (pss_cons (ps_set (i := 3) sc_law.nd rfl (.inr rfl) (pe_call G__law_curve (hr.mono (by omega)) (by rfl) D__law_curve.g D__law_curve.F.kp D__law_curve.b .nil pass0 (pa_cons (pv 2) pa_nil))) (pss_cons (ps_set (i := 4) sc_law.nd rfl (.inl rfl) (pe_call G__law_panes (hr.mono (by omega)) (by rfl) D__law_panes.g D__law_panes.F.kp D__law_panes.b .nil pass0 (pa_cons (pv 3) pa_nil))) (pss_cons (ps_set (i := 5) sc_law.nd rfl (.inl rfl) (pe_call G__law_take (hr.mono (by omega)) (by rfl) D__law_take.g D__law_take.F.kp D__law_take.b .nil pass0 (pa_cons (pv 2) (pa_cons (pe_callB (show CallR _ _ (rLenS K) from call_len_seq) (by rfl) B.len_ (by decide +kernel) (pa_cons (pv 4) pa_nil)) pa_nil)))) (pss_one (ps_for PassesOwn.never rfl (pi_list (pe_slice (show SlR _ (rSlL K) from sl_list) (pe_op op_cat (pe_slice (show SlR _ (rSlL K) from sl_list) (pv 4) (po_some (pv 5)) po_none) (pe_slice (show SlR _ (rSlL K) from sl_list) (pv 4) po_none (po_some (pv 5)))) po_none (po_some pe_int))) (pg_name (i := 6) sc_law.nd rfl (.inr rfl))  (pss_one (ps_for PassesOwn.never rfl (pi_range1 (by rfl) B.range_ (pa_cons (pe_ix (show IxR _ (rIxT K) from ix_tup) (pv 3) pe_int (fun _ _ => rfl)) pa_nil)) (pg_name (i := 7) sc_law.nd rfl (.inr rfl))  (pss_cons (ps_if (pt_cmpR (show OpR _ _ (rIn K true) from op_notIn_seq) (pv 7) (pv 6) (by rfl))  (pss_cons (ps_if (pt_cmpR (show OpR _ _ (rNeD K) from op_neD hr.units) (pe_lamN (T := tabL PL) (k := 8) D__law_refused.F (by rfl) D__law_refused.g D__law_refused.b sc__law_refused rfl (.inl rfl) (fun cdv => refused_gives B D__law_classes CC hCE (fun env => L2H.RoomH.deeper (L2H.RoomH.mono (L2H.roomH_of hr) (by omega)) env)) TBL rfl (List.mem_singleton.mpr rfl) (fun p hp _ => by rw [List.mem_singleton.mp hp]; rfl) (hr.mono (by omega)) (LamX.lamS_by (sc := defScope s_law) (by decide +kernel)) rfl (fun _ _ _ _ _ => rfl) (fun A outer s H E f c' hr2 => (pe_call (E := E) G_beyond (hr2.mono (by omega)) (by rfl) D_beyond.g D_beyond.F.kp D_beyond.b .nil (L2N.passes_call (L2N.takes_of rfl rfl rfl rfl) (fun _ _ _ _ h => h)) (pa_cons (pv 3) (pa_cons (pv 6) (pa_cons (pv 7) pa_nil)))))) (pe_lst (pa_cons pe_int pa_nil)) (nomark _))  (pss_one (ps_ret pe_bl))  pss_nil) (pss_one ps_continue))  pss_nil) (pss_cons (ps_set (i := 8) sc_law.nd rfl (.inr rfl) (pe_lc (own := [("_law_one", 9)]) rfl sc_law.nd (pi_tup (pv 6)) (blkOk_by (own := [("_law_one", 9)]) (N := N_law) (sc := defScope s_law) (by decide +kernel)) (fun _ _ _ _ _ => (pg_name (i := 9) sc_law.nd rfl (.inl rfl))) (fun _ _ _ _ _ => pts_one (pt_cmpR op_ne (pv 9) (pv 7) (nomark _))) (fun _ _ _ _ _ => (pv 9)))) (pss_cons (ps_setLc (i := 10) (own := [("_law_one", 9)]) rfl sc_law.nd rfl rfl (sw_true rfl rfl rfl (by decide +kernel)) (pi_list (pv 4)) (blkOk_by (own := [("_law_one", 9)]) (N := N_law) (sc := defScope s_law) (by decide +kernel)) (fun _ _ _ _ _ => (pg_name (i := 9) sc_law.nd rfl (.inl rfl))) (fun _ _ _ _ _ => pts_one (PW.pt (pw_and (pt_cmpR (show OpR _ _ (rNeD K) from op_neD hr.units) (pv 9) (pv 6) (nomark _)) (pw_and1 (pt_val (pe_call G__law_has (hr.mono (by omega)) (by rfl) D__law_has.g D__law_has.F.kp D__law_has.b .nil pass0 (pa_cons (pv 9) (pa_cons (pv 8) pa_nil)))))))) (fun _ _ _ _ _ => (pv 9))) (pss_cons (ps_set (i := 11) sc_law.nd rfl (.inl rfl) (pe_call (E := E0) G_beyond (hr.mono (by omega)) (by rfl) D_beyond.g D_beyond.F.kp D_beyond.b .nil passN0 (pa_cons (pv 3) (pa_cons (pv 6) (pa_cons (pv 7) pa_nil))))) (pss_cons (ps_if (pt_cmpR (show OpR _ _ (rNeD K) from op_neD hr.units) (pe_lst (pa_cons (pv 11) pa_nil)) (pv 10) (nomark _))  (pss_one (ps_ret pe_bl))  pss_nil) (pss_one (ps_if (pt_cmpR (show OpR _ _ (rNeD K) from op_neD hr.units) (pe_call (E := E0) G_beyond (hr.mono (by omega)) (by rfl) D_beyond.g D_beyond.F.kp D_beyond.b .nil passN0 (pa_cons (pv 3) (pa_cons (pv 11) (pa_cons (pe_ix (show IxR _ (rIxL K) from ix_list) (pe_lc (own := [("_law_one", 9)]) rfl sc_law.nd (pi_tup (pv 11)) (blkOk_by (own := [("_law_one", 9)]) (N := N_law) (sc := defScope s_law) (by decide +kernel)) (fun _ _ _ _ _ => (pg_name (i := 9) sc_law.nd rfl (.inl rfl))) (fun _ _ _ _ _ => pts_one (pt_cmpR (show OpR _ _ (rIn K true) from op_notIn_seq) (pv 9) (pv 6) (by rfl))) (fun _ _ _ _ _ => (pv 9))) pe_int (fun _ _ => rfl)) pa_nil)))) (pv 6) (nomark _))  (pss_one (ps_ret pe_bl))  pss_nil)))))))))))))))) (pss_one (ps_ret pe_bl))), ?_⟩
    obtain ⟨n, n0, n1, hn⟩ := ev_cells (K := K) (H := H) (σ := L2.start N_law [.ref a]) (ta := tVar 0) (c := 3) (ev_var rfl) hS (by decide)
    refine q_forR1 (n := n) (ea_cons hn ea_nil) ⟨by omega, by omega⟩ (fun i σ' H' => ∃ y1 y2 y3 y4 y5 y6 y7 y8 y9 y10 y11 : Option V, σ' = [some (.ref a), y1, y2, y3, y4, y5, y6, y7, y8, y9, y10, y11] ∧ Nx (tabL PL) H H') (fun H2 e3 => ⟨_, _, _, _, _, _, _, _, _, _, _, rfl, nx_of hT0 e3⟩) ?_ ?_
    · rintro i σ' Hs hi ⟨y1, y2, y3, y4, y5, y6, y7, y8, y9, y10, y11, rfl, es⟩
      refine q_box (ev_var rfl) (sql_n es.x hS) (ev_var rfl) (by omega) (by omega) fun b H2 nb e2 hb => ?_
      refine q_curve (K := K) rfl hb fun cv m d H3 hc hcv hb3 x3 => ?_
      have e3 : Ex Hs H3 := ex_bx e2 x3 nb
      obtain ⟨c1, c2, c3, c4⟩ := id hc
      have F := facts10 hc
      have hcm : ∀ {σ : L2.St} {H5 : Hp}, σ[3]? = some (some cv) → Dt K H5 cv (curveD m d) → Ev (tOp (rIxT K) (tVar 3) (tC (.int 0))) σ H5 (.int m) := fun h6 e => ev_int (K := K) (ed_ixT (ds := [.int m, .int d]) (ed_var h6 e) ev_c rfl)
      refine q_asgF (K := K) (ev__law_panes (K := K) (eb_cons (ed_var rfl hcv) eb_nil) hc) fun p4 xs4 H4 np4 e4 hp4 hx4 => ?_
      have hb4 := hb3.ex e4
      have n4 : p4 ≠ b := box_ne hb3 np4
      have few := F.few
      have hne : 0 < (panesL m d).length := List.length_pos_iff.mpr F.ne
      refine q_asgK (K := K) (b := b) (ek_take (K := K) (wd := ((panesL m d).length : Int)) rfl hb4 (ev_is (ev_lenD (K := K) (ev_var rfl) (sq_of hp4) hx4) (by rw [List.length_map])) (by omega) (by omega)) fun sv sd H5 hsp hsv hb5 x5 => ?_
      obtain ⟨sp, rfl, sp0, sp1⟩ := hsp
      cases hsv
      obtain ⟨sk, rfl⟩ : ∃ k : Nat, sp = (k : Int) := ⟨sp.toNat, by omega⟩
      have x45 : Bk b H3 H5 := (bk_ex e4).trans x5
      have hcv5 := dt_tx x45.tx hcv
      have hp45 : H5 p4 = some (.lst xs4) := x5.bx p4 _ n4 hp4
      have hx45 := dta_tx x5.tx hx4
      have e35 : Ex Hs H5 := ex_bx e3 x45 nb
      have hT5 : LamX.Tabs (tabL PL) H5 := es.t.ext e35
      have es5 : Nx (tabL PL) H H5 := es.ex e35
      refine s_forFN (K := K) (T := tabL PL) (ds := (((panesL m d).map lotD).drop sk ++ ((panesL m d).map lotD).take sk).take 12) (ef_cutToF (n := 12) (ef_catFF (ef_cutFromL (ev_var rfl) (sq_of hp45) hx45 (ev_var rfl)) (ef_cutToL (ev_var rfl) (sq_of hp45) hx45 (ev_var rfl)) (by rw [List.length_drop, List.length_take, List.length_map]; omega)) ev_c) hT5
        (fun _ σ' H' => ∃ y6 y7 y8 y9 y10 y11 : Option V, σ' = [some (.ref a), some (.int (i : Int)), some (.ref b), some cv, some (.ref p4), some (.int (sk : Int)), y6, y7, y8, y9, y10, y11]) (fun H9 e9 => ⟨_, _, _, _, _, _, rfl⟩) ?_ ?_
      · rintro H1 t x dx σ' H9 e91 n9 ht hx ⟨y6, y7, y8, y9, y10, y11, rfl⟩
        have hdx : dx ∈ (panesL m d).map lotD := by
          have h1 := List.mem_of_mem_take (List.mem_of_getElem? ht)
          rcases List.mem_append.mp h1 with z | z
          · exact List.mem_of_mem_drop z
          · exact List.mem_of_mem_take z
        obtain ⟨pn, hpn, rfl⟩ := mem_lots hdx
        obtain ⟨k1, k2, k3⟩ := F.pane pn hpn
        have n59 : Nx (tabL PL) H5 H9 := ⟨(nx_ex e91).trans n9.x, n9.t⟩
        have hcv9 := dt_n n59.x hcv5
        have hp49 : H9 p4 = some (.lst xs4) := lst_n n59.x hp45
        have hx49 := dta_n n59.x hx45
        have xH9 := es5.x.trans n59.x
        obtain ⟨pa, rfl, hpa9⟩ := dt_lot hx
        refine s_forR1 (n := m) (ea_cons (hcm rfl hcv9) ea_nil) ⟨by omega, by omega⟩ (fun _ σ' H' => ∃ y7 y8 y9 y10 y11 : Option V, σ' = [some (.ref a), some (.int (i : Int)), some (.ref b), some cv, some (.ref p4), some (.int (sk : Int)), some (.ref pa), y7, y8, y9, y10, y11] ∧ Nx (tabL PL) H9 H') (fun HB eB => ⟨_, _, _, _, _, rfl, nx_of n9.t eB⟩) ?_ ?_
        · rintro u σ' HB hu ⟨y7, y8, y9, y10, y11, rfl, nB⟩
          have xHB := xH9.trans nB.x
          have hcvB := dt_n nB.x hcv9
          have hxB := dt_n nB.x hx
          have hpaB : SqT K HB pa (pn.map V.int) := by obtain ⟨_, e, h⟩ := dt_lot hxB; cases e; exact h
          have hp4B := lst_n nB.x hp49
          have hx4B := dta_n nB.x hx49
          refine q_when (b := !pn.contains (u : Int)) (et_is (et_test (ev_op (ev_var rfl) (ev_var rfl) (rv_niT hpaB rfl (flat_ints pn)))) (by rw [inV_ints])) (fun hb HC eC => ?_) (fun hb HC eC => ?_)
          · have hnc : pn.contains (u : Int) = false := by simpa using hb
            have nC := nB.ex eC
            refine q_whenN (T := tabL PL) nC.t (et_refused (n := 5) (rz_beyond L rfl rfl rfl (dt_ex eC hcvB) (dt_ex eC hxB) hc (pane_facts hc hpn) hnc) X_NoCorner) (fun hb => by cases hb) (fun _ HD nD => ?_)
            exact ⟨_, _, _, _, _, rfl, nC.trans nD⟩
          · have hin : pn.contains (u : Int) = true := by simpa using hb
            obtain ⟨qn, c', g1, g3, g4, g5, g6, g8⟩ := F.cor pn hpn _ hin
            obtain ⟨j1, j2, j3⟩ := F.pane qn g4
            refine q_asgF (K := K) (ds := (restP pn (u : Int)).map PyData.int) (ef_is (ef_lcT (ds := pn.map PyData.int) (fun z => unint z != (u : Int)) (fun z => z) (ed_var rfl (dt_ex eC hxB)) (by rw [List.length_map]; omega) (fun _ => rfl) (fun z v H7 e7 hm hz => ?_) (fun z v H7 e7 hm hz _ => ed_var rfl hz)) (filt_ints fun _ => rfl)) fun p8 xs8 HD np8 eD hp8 hx8 => ?_
            · obtain ⟨z', _, rfl⟩ := mem_ints hm
              cases hz
              exact et_is (et_test (ev_op (ev_var rfl) (ev_var rfl) (rv_ne rfl))) (by show (!decide (V.int z' = V.int (u : Int))) = (z' != (u : Int)); rw [Bool.eq_iff_iff]; simp)
            have hxs8 := dta_ints_inv hx8
            subst hxs8
            have eCD := eC.trans eD
            refine q_asgF (K := K) (ds := [qn].map lotD) (ef_is (ef_lcL (ds := (panesL m d).map lotD) (fun z => !decide (unlot z = pn) && hasL (unlot z) (restP pn (u : Int))) (fun z => z) (ev_var rfl) (sq_of (eCD _ _ hp4B)) (dta_ex eCD hx4B) (by rw [List.length_map]; omega) (fun _ => rfl) (fun z v H7 e7 hm hz => ?_) (fun z v H7 e7 hm hz _ => ed_var rfl hz)) (by rw [filt_lots (g := fun z => !decide (z = pn) && hasL z (restP pn (u : Int))) fun z => by rw [unlot_lot], g3])) fun p10 xs10 HE np10 eE hp10 hx10 => ?_
            · obtain ⟨z', _, rfl⟩ := mem_lots hm
              rw [unlot_lot]
              refine et_and (et_is (et_test (ev_neDD (K := K) (ed_var rfl hz) (ed_var rfl (dt_ex (eCD.trans e7) hxB)) (lot_shaped _) (lot_shaped _))) (by rw [eqv_lot])) fun _ => et_B (ev_hasI (K := K) (ed_var rfl hz) (ev_var rfl) (sq_of (e7 _ _ hp8)) ?_)
              exact Nat.le_trans (List.length_filter_le _ _) (by omega)
            have eCE := eCD.trans eE
            refine q_asgD (K := K) (d := lotD qn) (ed_beyond L (ed_var rfl (dt_ex eCE hcvB)) (ed_var rfl (dt_ex eCE hxB)) (ed_int (ev_var rfl)) hc (pane_facts hc hpn) hin g1) fun fv HF eF hfv => ?_
            have eCF := eCE.trans eF
            refine q_when (b := false) (et_is (et_test (ev_neFL (K := K) (ef_lst (ds := [lotD qn]) (eb_cons (ed_var rfl hfv) eb_nil) (by show 1 ≤ 100000; decide)) (ev_var rfl) (sq_of (eF _ _ hp10)) (dta_ex eF hx10) (lots_shaped [qn]) (lots_shaped [qn]))) (by rw [show PyData.eqv (.list [lotD qn]) (.list ([qn].map lotD)) = true from eqv_lotsL [qn]]; rfl)) (fun hb => by cases hb) (fun _ HG eG => ?_)
            have eCG := eCF.trans eG
            have hpaG : SqT K HG pa (pn.map V.int) := ex_t eCG hpaB
            refine s_when (b := false) (et_is (et_test (ev_neDD (K := K) (d := lotD pn) (e := lotD pn) (ed_beyond L (c := c') (l := qn) (ed_var rfl (dt_ex eCG hcvB)) (ed_var rfl (dt_ex eG hfv)) (ed_ixF (ds := [c'].map PyData.int) (ef_is (ef_lcT (ds := qn.map PyData.int) (fun z => !pn.contains (unint z)) (fun z => z) (ed_var rfl (dt_ex eG hfv)) (by rw [List.length_map]; omega) (fun _ => rfl) (fun z v H7 e7 hm hz => ?_) (fun z v H7 e7 hm hz _ => ed_var rfl hz)) (by rw [filt_ints (g := fun z => !pn.contains z) fun _ => rfl, g5])) ev_c rfl) hc (pane_facts hc g4) g6 g8) (ed_var rfl (dt_ex eCG hxB)) (lot_shaped _) (lot_shaped _))) (by rw [eqv_lot]; simp)) (fun hb => by cases hb) (fun _ HI eI => ⟨_, _, _, _, _, rfl, nB.ex (eCG.trans eI)⟩)
            obtain ⟨z', _, rfl⟩ := mem_ints hm
            cases hz
            refine et_is (et_test (ev_op (ev_var rfl) (ev_var rfl) (rv_niT (ex_t e7 hpaG) rfl (flat_ints pn)))) ?_
            rw [inV_ints]
            rfl
        · rintro σ' HB ⟨y7, y8, y9, y10, y11, rfl, nB⟩
          exact ⟨n9.trans nB, _, _, _, _, _, _, rfl⟩
      · rintro σ' H9 n9 ⟨y6, y7, y8, y9, y10, y11, rfl⟩
        exact ⟨_, _, _, _, _, _, _, _, _, _, _, rfl, es5.trans n9⟩
    · rintro σ' H' ⟨y1, y2, y3, y4, y5, y6, y7, y8, y9, y10, y11, rfl, es⟩
      exact s_ret ev_c fun H2 e3 => q H2 (fun p hp => nomatch hp)
end
theorem onlyAt_mk {K : PySem.W.Frag} {D : Addr} {n : Nat} {c0 c1 c2 c3 c4 c5 c6 c7 c8 c9 c10 c11 c12 c13 c14 : Addr} {b0 b1 b2 b3 b4 b5 b6 b7 b8 b9 b10 b11 b12 b13 b14 : Bool} (h0 : PySem.W.kitOne K (.ref D) (.ref c0) = some b0) (h1 : PySem.W.kitOne K (.ref D) (.ref c1) = some b1) (h2 : PySem.W.kitOne K (.ref D) (.ref c2) = some b2) (h3 : PySem.W.kitOne K (.ref D) (.ref c3) = some b3) (h4 : PySem.W.kitOne K (.ref D) (.ref c4) = some b4) (h5 : PySem.W.kitOne K (.ref D) (.ref c5) = some b5) (h6 : PySem.W.kitOne K (.ref D) (.ref c6) = some b6) (h7 : PySem.W.kitOne K (.ref D) (.ref c7) = some b7) (h8 : PySem.W.kitOne K (.ref D) (.ref c8) = some b8) (h9 : PySem.W.kitOne K (.ref D) (.ref c9) = some b9) (h10 : PySem.W.kitOne K (.ref D) (.ref c10) = some b10) (h11 : PySem.W.kitOne K (.ref D) (.ref c11) = some b11) (h12 : PySem.W.kitOne K (.ref D) (.ref c12) = some b12) (h13 : PySem.W.kitOne K (.ref D) (.ref c13) = some b13) (h14 : PySem.W.kitOne K (.ref D) (.ref c14) = some b14) (e0 : b0 = decide (0 = n)) (e1 : b1 = decide (1 = n)) (e2 : b2 = decide (2 = n)) (e3 : b3 = decide (3 = n)) (e4 : b4 = decide (4 = n)) (e5 : b5 = decide (5 = n)) (e6 : b6 = decide (6 = n)) (e7 : b7 = decide (7 = n)) (e8 : b8 = decide (8 = n)) (e9 : b9 = decide (9 = n)) (e10 : b10 = decide (10 = n)) (e11 : b11 = decide (11 = n)) (e12 : b12 = decide (12 = n)) (e13 : b13 = decide (13 = n)) (e14 : b14 = decide (14 = n)) : OnlyAt K D [c0, c1, c2, c3, c4, c5, c6, c7, c8, c9, c10, c11, c12, c13, c14] n := by
  intro i C h
  match i, h with
  | 0, h => cases h; rw [h0, e0]
  | 1, h => cases h; rw [h1, e1]
  | 2, h => cases h; rw [h2, e2]
  | 3, h => cases h; rw [h3, e3]
  | 4, h => cases h; rw [h4, e4]
  | 5, h => cases h; rw [h5, e5]
  | 6, h => cases h; rw [h6, e6]
  | 7, h => cases h; rw [h7, e7]
  | 8, h => cases h; rw [h8, e8]
  | 9, h => cases h; rw [h9, e9]
  | 10, h => cases h; rw [h10, e10]
  | 11, h => cases h; rw [h11, e11]
  | 12, h => cases h; rw [h12, e12]
  | 13, h => cases h; rw [h13, e13]
  | 14, h => cases h; rw [h14, e14]
  | i + 15, h => simp at h
theorem all_mk {l : PySem.W.OpenLaw} {w : World} {K : PySem.W.Frag} {h : Heap} {mg : Str → Option Value} {fa f18 f19 f20 f24 f25 f26 f27 f29 f30 f32 f33 f34 f35 f36 f37 f38 f39 f40 f41 f42 cc42 pp42 C_CurveError C_NoCurve C_NoLot C_NoPane C_NoFace C_NoCell C_NoCorner C_NoNumber C_NoCounts C_NoCover C_NoTurn C_NoCut C_NoOrder C_TooMany C_NoText C_NoLine : Addr} (X : K.In h) (G : h.Ns mainGlobals mg) (hfa : mg "law" = some (.ref fa)) (O : ∀ nm ∈ (["law"] : List Str), ∀ f, mg nm = some (.ref f) → LamX.OwnTab K f h)
    {od18 an18 od19 an19 od20 an20 od24 an24 od25 an25 od26 an26 od27 an27 od29 an29 od30 an30 od32 an32 od33 an33 od34 an34 od35 an35 od36 an36 od37 an37 od38 an38 od39 an39 od40 an40 od41 an41 od42 an42 gd42 : Option Addr} {sl18 sl19 sl20 sl24 sl25 sl26 sl27 sl29 sl30 sl32 sl33 sl34 sl35 sl36 sl37 sl38 sl39 sl40 sl41 sl42 gs42 : Array (Option Value)} {gv42 : Array Value} {oc18 kV18 dc18 pm18 cd18 ct18 oc19 kV19 dc19 pm19 cd19 ct19 oc20 kV20 dc20 pm20 cd20 ct20 oc24 kV24 dc24 pm24 cd24 ct24 oc25 kV25 dc25 pm25 cd25 ct25 oc26 kV26 dc26 pm26 cd26 ct26 oc27 kV27 dc27 pm27 cd27 ct27 oc29 kV29 dc29 pm29 cd29 ct29 oc30 kV30 dc30 pm30 cd30 ct30 oc32 kV32 dc32 pm32 cd32 ct32 oc33 kV33 dc33 pm33 cd33 ct33 oc34 kV34 dc34 pm34 cd34 ct34 oc35 kV35 dc35 pm35 cd35 ct35 oc36 kV36 dc36 pm36 cd36 ct36 oc37 kV37 dc37 pm37 cd37 ct37 oc38 kV38 dc38 pm38 cd38 ct38 oc39 kV39 dc39 pm39 cd39 ct39 oc40 kV40 dc40 pm40 cd40 ct40 oc41 kV41 dc41 pm41 cd41 ct41 oc42 kV42 dc42 pm42 ct42 ge42 : Value} {tk_MOST_DEEP tk_MOST_CORNERS : Tok}
    (a18 : PySem.W.nsIn K mainGlobals "is_whole" = some (some (.ref f18))) (l18 : K.lookup f18 = some ⟨oc18, od18, .func (PySem.W.fnOf "is_whole" "is_whole" (defArgs s_is_whole) (defBody s_is_whole) (defScope s_is_whole) .none kV18 dc18 pm18 an18 cd18 ct18), sl18⟩) (c18 : PySem.W.codeIn K cd18 "is_whole" = true) (k18 : PySem.W.keepIn K (.ref f18) = true)
    (a19 : PySem.W.nsIn K mainGlobals "is_lot_of" = some (some (.ref f19))) (l19 : K.lookup f19 = some ⟨oc19, od19, .func (PySem.W.fnOf "is_lot_of" "is_lot_of" (defArgs s_is_lot_of) (defBody s_is_lot_of) (defScope s_is_lot_of) .none kV19 dc19 pm19 an19 cd19 ct19), sl19⟩) (c19 : PySem.W.codeIn K cd19 "is_lot_of" = true) (k19 : PySem.W.keepIn K (.ref f19) = true)
    (a20 : PySem.W.nsIn K mainGlobals "odd_blocks" = some (some (.ref f20))) (l20 : K.lookup f20 = some ⟨oc20, od20, .func (PySem.W.fnOf "odd_blocks" "odd_blocks" (defArgs s_odd_blocks) (defBody s_odd_blocks) (defScope s_odd_blocks) .none kV20 dc20 pm20 an20 cd20 ct20), sl20⟩) (c20 : PySem.W.codeIn K cd20 "odd_blocks" = true) (k20 : PySem.W.keepIn K (.ref f20) = true)
    (a24 : PySem.W.nsIn K mainGlobals "is_curve" = some (some (.ref f24))) (l24 : K.lookup f24 = some ⟨oc24, od24, .func (PySem.W.fnOf "is_curve" "is_curve" (defArgs s_is_curve) (defBody s_is_curve) (defScope s_is_curve) .none kV24 dc24 pm24 an24 cd24 ct24), sl24⟩) (c24 : PySem.W.codeIn K cd24 "is_curve" = true) (k24 : PySem.W.keepIn K (.ref f24) = true)
    (a25 : PySem.W.nsIn K mainGlobals "need_curve" = some (some (.ref f25))) (l25 : K.lookup f25 = some ⟨oc25, od25, .func (PySem.W.fnOf "need_curve" "need_curve" (defArgs s_need_curve) (defBody s_need_curve) (defScope s_need_curve) .none kV25 dc25 pm25 an25 cd25 ct25), sl25⟩) (c25 : PySem.W.codeIn K cd25 "need_curve" = true) (k25 : PySem.W.keepIn K (.ref f25) = true)
    (a26 : PySem.W.nsIn K mainGlobals "is_lot" = some (some (.ref f26))) (l26 : K.lookup f26 = some ⟨oc26, od26, .func (PySem.W.fnOf "is_lot" "is_lot" (defArgs s_is_lot) (defBody s_is_lot) (defScope s_is_lot) .none kV26 dc26 pm26 an26 cd26 ct26), sl26⟩) (c26 : PySem.W.codeIn K cd26 "is_lot" = true) (k26 : PySem.W.keepIn K (.ref f26) = true)
    (a27 : PySem.W.nsIn K mainGlobals "is_pane" = some (some (.ref f27))) (l27 : K.lookup f27 = some ⟨oc27, od27, .func (PySem.W.fnOf "is_pane" "is_pane" (defArgs s_is_pane) (defBody s_is_pane) (defScope s_is_pane) .none kV27 dc27 pm27 an27 cd27 ct27), sl27⟩) (c27 : PySem.W.codeIn K cd27 "is_pane" = true) (k27 : PySem.W.keepIn K (.ref f27) = true)
    (a29 : PySem.W.nsIn K mainGlobals "need_pane" = some (some (.ref f29))) (l29 : K.lookup f29 = some ⟨oc29, od29, .func (PySem.W.fnOf "need_pane" "need_pane" (defArgs s_need_pane) (defBody s_need_pane) (defScope s_need_pane) .none kV29 dc29 pm29 an29 cd29 ct29), sl29⟩) (c29 : PySem.W.codeIn K cd29 "need_pane" = true) (k29 : PySem.W.keepIn K (.ref f29) = true)
    (a30 : PySem.W.nsIn K mainGlobals "beyond" = some (some (.ref f30))) (l30 : K.lookup f30 = some ⟨oc30, od30, .func (PySem.W.fnOf "beyond" "beyond" (defArgs s_beyond) (defBody s_beyond) (defScope s_beyond) .none kV30 dc30 pm30 an30 cd30 ct30), sl30⟩) (c30 : PySem.W.codeIn K cd30 "beyond" = true) (k30 : PySem.W.keepIn K (.ref f30) = true)
    (a32 : PySem.W.nsIn K mainGlobals "_law_box" = some (some (.ref f32))) (l32 : K.lookup f32 = some ⟨oc32, od32, .func (PySem.W.fnOf "_law_box" "_law_box" (defArgs s__law_box) (defBody s__law_box) (defScope s__law_box) .none kV32 dc32 pm32 an32 cd32 ct32), sl32⟩) (c32 : PySem.W.codeIn K cd32 "_law_box" = true) (k32 : PySem.W.keepIn K (.ref f32) = true)
    (a33 : PySem.W.nsIn K mainGlobals "_law_more" = some (some (.ref f33))) (l33 : K.lookup f33 = some ⟨oc33, od33, .func (PySem.W.fnOf "_law_more" "_law_more" (defArgs s__law_more) (defBody s__law_more) (defScope s__law_more) .none kV33 dc33 pm33 an33 cd33 ct33), sl33⟩) (c33 : PySem.W.codeIn K cd33 "_law_more" = true) (k33 : PySem.W.keepIn K (.ref f33) = true)
    (a34 : PySem.W.nsIn K mainGlobals "_law_take" = some (some (.ref f34))) (l34 : K.lookup f34 = some ⟨oc34, od34, .func (PySem.W.fnOf "_law_take" "_law_take" (defArgs s__law_take) (defBody s__law_take) (defScope s__law_take) .none kV34 dc34 pm34 an34 cd34 ct34), sl34⟩) (c34 : PySem.W.codeIn K cd34 "_law_take" = true) (k34 : PySem.W.keepIn K (.ref f34) = true)
    (a35 : PySem.W.nsIn K mainGlobals "_law_curve" = some (some (.ref f35))) (l35 : K.lookup f35 = some ⟨oc35, od35, .func (PySem.W.fnOf "_law_curve" "_law_curve" (defArgs s__law_curve) (defBody s__law_curve) (defScope s__law_curve) .none kV35 dc35 pm35 an35 cd35 ct35), sl35⟩) (c35 : PySem.W.codeIn K cd35 "_law_curve" = true) (k35 : PySem.W.keepIn K (.ref f35) = true)
    (a36 : PySem.W.nsIn K mainGlobals "_law_lots" = some (some (.ref f36))) (l36 : K.lookup f36 = some ⟨oc36, od36, .func (PySem.W.fnOf "_law_lots" "_law_lots" (defArgs s__law_lots) (defBody s__law_lots) (defScope s__law_lots) .none kV36 dc36 pm36 an36 cd36 ct36), sl36⟩) (c36 : PySem.W.codeIn K cd36 "_law_lots" = true) (k36 : PySem.W.keepIn K (.ref f36) = true)
    (a37 : PySem.W.nsIn K mainGlobals "_law_is_pane" = some (some (.ref f37))) (l37 : K.lookup f37 = some ⟨oc37, od37, .func (PySem.W.fnOf "_law_is_pane" "_law_is_pane" (defArgs s__law_is_pane) (defBody s__law_is_pane) (defScope s__law_is_pane) .none kV37 dc37 pm37 an37 cd37 ct37), sl37⟩) (c37 : PySem.W.codeIn K cd37 "_law_is_pane" = true) (k37 : PySem.W.keepIn K (.ref f37) = true)
    (a38 : PySem.W.nsIn K mainGlobals "_law_panes" = some (some (.ref f38))) (l38 : K.lookup f38 = some ⟨oc38, od38, .func (PySem.W.fnOf "_law_panes" "_law_panes" (defArgs s__law_panes) (defBody s__law_panes) (defScope s__law_panes) .none kV38 dc38 pm38 an38 cd38 ct38), sl38⟩) (c38 : PySem.W.codeIn K cd38 "_law_panes" = true) (k38 : PySem.W.keepIn K (.ref f38) = true)
    (a39 : PySem.W.nsIn K mainGlobals "_law_has" = some (some (.ref f39))) (l39 : K.lookup f39 = some ⟨oc39, od39, .func (PySem.W.fnOf "_law_has" "_law_has" (defArgs s__law_has) (defBody s__law_has) (defScope s__law_has) .none kV39 dc39 pm39 an39 cd39 ct39), sl39⟩) (c39 : PySem.W.codeIn K cd39 "_law_has" = true) (k39 : PySem.W.keepIn K (.ref f39) = true)
    (a40 : PySem.W.nsIn K mainGlobals "_law_classes" = some (some (.ref f40))) (l40 : K.lookup f40 = some ⟨oc40, od40, .func (PySem.W.fnOf "_law_classes" "_law_classes" (defArgs s__law_classes) (defBody s__law_classes) (defScope s__law_classes) .none kV40 dc40 pm40 an40 cd40 ct40), sl40⟩) (c40 : PySem.W.codeIn K cd40 "_law_classes" = true) (k40 : PySem.W.keepIn K (.ref f40) = true)
    (a41 : PySem.W.nsIn K mainGlobals "_law_refused" = some (some (.ref f41))) (l41 : K.lookup f41 = some ⟨oc41, od41, .func (PySem.W.fnOf "_law_refused" "_law_refused" (defArgs s__law_refused) (defBody s__law_refused) (defScope s__law_refused) .none kV41 dc41 pm41 an41 cd41 ct41), sl41⟩) (c41 : PySem.W.codeIn K cd41 "_law_refused" = true) (k41 : PySem.W.keepIn K (.ref f41) = true)
    (a42 : PySem.W.nsIn K mainGlobals "law" = some (some (.ref f42))) (l42 : K.lookup f42 = some ⟨oc42, od42, .func (PySem.W.fnOf "law" "law" (defArgs s_law) (defBody s_law) (defScope s_law) .none kV42 dc42 pm42 an42 (.ref cc42) ct42), sl42⟩) (c42 : PySem.W.codeIn K (.ref cc42) "law" = true) (k42 : PySem.W.keepIn K (.ref f42) = true)
    (lc42 : K.lookup cc42 = some ⟨ge42, gd42, .fields gv42, gs42⟩) (v42 : gv42[11]? = some (.ref pp42)) (hh42 : PySem.W.codeHdIn K cc42 pp42 = true) (np42 : K.lookup pp42 = none)
    (z_isinstance : PySem.W.nsIn K mainGlobals "isinstance" = some none)    (z_int : PySem.W.nsIn K mainGlobals "int" = some none)    (z_bool : PySem.W.nsIn K mainGlobals "bool" = some none)    (z_tuple : PySem.W.nsIn K mainGlobals "tuple" = some none)    (z_len : PySem.W.nsIn K mainGlobals "len" = some none)    (z_enumerate : PySem.W.nsIn K mainGlobals "enumerate" = some none)    (z_range : PySem.W.nsIn K mainGlobals "range" = some none)    (z_sorted : PySem.W.nsIn K mainGlobals "sorted" = some none)    (z_abs : PySem.W.nsIn K mainGlobals "abs" = some none)    (z_divmod : PySem.W.nsIn K mainGlobals "divmod" = some none)    (z_ValueError : PySem.W.nsIn K mainGlobals "ValueError" = some none)    (z_max : PySem.W.nsIn K mainGlobals "max" = some none)    (z_min : PySem.W.nsIn K mainGlobals "min" = some none)    (y_MOST_DEEP : PySem.W.nsIn K mainGlobals "MOST_DEEP" = some (some (.int 6 tk_MOST_DEEP)))    (y_MOST_CORNERS : PySem.W.nsIn K mainGlobals "MOST_CORNERS" = some (some (.int 9 tk_MOST_CORNERS)))
    (x_CurveError : PySem.W.nsIn K mainGlobals "CurveError" = some (some (.ref C_CurveError)))    (x_NoCurve : PySem.W.nsIn K mainGlobals "NoCurve" = some (some (.ref C_NoCurve)))    (x_NoLot : PySem.W.nsIn K mainGlobals "NoLot" = some (some (.ref C_NoLot)))    (x_NoPane : PySem.W.nsIn K mainGlobals "NoPane" = some (some (.ref C_NoPane)))    (x_NoFace : PySem.W.nsIn K mainGlobals "NoFace" = some (some (.ref C_NoFace)))    (x_NoCell : PySem.W.nsIn K mainGlobals "NoCell" = some (some (.ref C_NoCell)))    (x_NoCorner : PySem.W.nsIn K mainGlobals "NoCorner" = some (some (.ref C_NoCorner)))    (x_NoNumber : PySem.W.nsIn K mainGlobals "NoNumber" = some (some (.ref C_NoNumber)))    (x_NoCounts : PySem.W.nsIn K mainGlobals "NoCounts" = some (some (.ref C_NoCounts)))    (x_NoCover : PySem.W.nsIn K mainGlobals "NoCover" = some (some (.ref C_NoCover)))    (x_NoTurn : PySem.W.nsIn K mainGlobals "NoTurn" = some (some (.ref C_NoTurn)))    (x_NoCut : PySem.W.nsIn K mainGlobals "NoCut" = some (some (.ref C_NoCut)))    (x_NoOrder : PySem.W.nsIn K mainGlobals "NoOrder" = some (some (.ref C_NoOrder)))    (x_TooMany : PySem.W.nsIn K mainGlobals "TooMany" = some (some (.ref C_TooMany)))    (x_NoText : PySem.W.nsIn K mainGlobals "NoText" = some (some (.ref C_NoText)))    (x_NoLine : PySem.W.nsIn K mainGlobals "NoLine" = some (some (.ref C_NoLine)))
    (qr1_NoCorner : PySem.W.excIn K C_NoCorner [.type "ValueError", .type "Exception", .type "BaseException", .type "object"] "ValueError.__new__" = true)
    (qr2_NoCorner : PySem.W.keepIn K (.ref C_NoCorner) = true)
    (qr3_NoCorner : PySem.W.subIn K (.ref C_NoCorner) (.type "BaseException") = some true)
    (qr4_NoCorner : PySem.W.typeIn K (.ref C_NoCorner) = some (.type "type"))
    (qe1_NoCorner : PySem.W.findIn K (.ref C_NoCorner) "__getattribute__" = some (some (.builtin "BaseException.__getattribute__")))
    (qe2_NoCorner : PySem.W.findIn K (.ref C_NoCorner) "__getattr__" = some none)
    (qe4_NoCorner : PySem.W.hasDictIn K C_NoCorner = true)
    (qe5_NoCorner : PySem.W.findIn K (.ref C_NoCorner) "__class__" = some (some (.builtin "object.__class__")))
    (qe6_NoCorner : PySem.W.specialIn K (.builtin "object.__class__") "__get__" = some (some (.builtin "getset_descriptor.__get__")))
    (qe7_NoCorner : PySem.W.takesIn K (.builtin "object.__class__") = some true)
    (qe8_NoCorner : PySem.W.mroIn K C_NoCorner (.type "object") = some true)
    (qm_NoCorner : PySem.W.exmOne K (.ref C_NoCorner) (.ref C_CurveError) = some true)
    (qv_NoCorner : PySem.W.kitOne K (.ref C_NoCorner) (.type "ValueError") = some true)
    (qo0_NoCorner : PySem.W.kitOne K (.ref C_NoCorner) (.ref C_NoCurve) = some false)
    (qo1_NoCorner : PySem.W.kitOne K (.ref C_NoCorner) (.ref C_NoLot) = some false)
    (qo2_NoCorner : PySem.W.kitOne K (.ref C_NoCorner) (.ref C_NoPane) = some false)
    (qo3_NoCorner : PySem.W.kitOne K (.ref C_NoCorner) (.ref C_NoFace) = some false)
    (qo4_NoCorner : PySem.W.kitOne K (.ref C_NoCorner) (.ref C_NoCell) = some false)
    (qo5_NoCorner : PySem.W.kitOne K (.ref C_NoCorner) (.ref C_NoCorner) = some true)
    (qo6_NoCorner : PySem.W.kitOne K (.ref C_NoCorner) (.ref C_NoNumber) = some false)
    (qo7_NoCorner : PySem.W.kitOne K (.ref C_NoCorner) (.ref C_NoCounts) = some false)
    (qo8_NoCorner : PySem.W.kitOne K (.ref C_NoCorner) (.ref C_NoCover) = some false)
    (qo9_NoCorner : PySem.W.kitOne K (.ref C_NoCorner) (.ref C_NoTurn) = some false)
    (qo10_NoCorner : PySem.W.kitOne K (.ref C_NoCorner) (.ref C_NoCut) = some false)
    (qo11_NoCorner : PySem.W.kitOne K (.ref C_NoCorner) (.ref C_NoOrder) = some false)
    (qo12_NoCorner : PySem.W.kitOne K (.ref C_NoCorner) (.ref C_TooMany) = some false)
    (qo13_NoCorner : PySem.W.kitOne K (.ref C_NoCorner) (.ref C_NoText) = some false)
    (qo14_NoCorner : PySem.W.kitOne K (.ref C_NoCorner) (.ref C_NoLine) = some false)
 :
    LawG l w K 11 "_law_script" mg fa h := by
  have e := hfa.symm.trans (PySem.W.mg_of X G a42)
  cases e
  have F18 := fun_mk (st := s_is_whole) l18 c18 k18
  have b18 := F18.binds (ps := ["thing"]) fun _ _ _ _ _ _ us hl => match us, hl with | [_], _ => rfl
  have D_is_whole : Df K mg "is_whole" s_is_whole ["thing"] _ _ := ⟨F18, PySem.W.mg_of X G a18, b18⟩
  have F19 := fun_mk (st := s_is_lot_of) l19 c19 k19
  have b19 := F19.binds (ps := ["thing", "many"]) fun _ _ _ _ _ _ us hl => match us, hl with | [_, _], _ => rfl
  have D_is_lot_of : Df K mg "is_lot_of" s_is_lot_of ["thing", "many"] _ _ := ⟨F19, PySem.W.mg_of X G a19, b19⟩
  have F20 := fun_mk (st := s_odd_blocks) l20 c20 k20
  have b20 := F20.binds (ps := ["many", "lot"]) fun _ _ _ _ _ _ us hl => match us, hl with | [_, _], _ => rfl
  have D_odd_blocks : Df K mg "odd_blocks" s_odd_blocks ["many", "lot"] _ _ := ⟨F20, PySem.W.mg_of X G a20, b20⟩
  have F24 := fun_mk (st := s_is_curve) l24 c24 k24
  have b24 := F24.binds (ps := ["thing"]) fun _ _ _ _ _ _ us hl => match us, hl with | [_], _ => rfl
  have D_is_curve : Df K mg "is_curve" s_is_curve ["thing"] _ _ := ⟨F24, PySem.W.mg_of X G a24, b24⟩
  have F25 := fun_mk (st := s_need_curve) l25 c25 k25
  have b25 := F25.binds (ps := ["curve"]) fun _ _ _ _ _ _ us hl => match us, hl with | [_], _ => rfl
  have D_need_curve : Df K mg "need_curve" s_need_curve ["curve"] _ _ := ⟨F25, PySem.W.mg_of X G a25, b25⟩
  have F26 := fun_mk (st := s_is_lot) l26 c26 k26
  have b26 := F26.binds (ps := ["thing", "curve"]) fun _ _ _ _ _ _ us hl => match us, hl with | [_, _], _ => rfl
  have D_is_lot : Df K mg "is_lot" s_is_lot ["thing", "curve"] _ _ := ⟨F26, PySem.W.mg_of X G a26, b26⟩
  have F27 := fun_mk (st := s_is_pane) l27 c27 k27
  have b27 := F27.binds (ps := ["thing", "curve"]) fun _ _ _ _ _ _ us hl => match us, hl with | [_, _], _ => rfl
  have D_is_pane : Df K mg "is_pane" s_is_pane ["thing", "curve"] _ _ := ⟨F27, PySem.W.mg_of X G a27, b27⟩
  have F29 := fun_mk (st := s_need_pane) l29 c29 k29
  have b29 := F29.binds (ps := ["curve", "pane"]) fun _ _ _ _ _ _ us hl => match us, hl with | [_, _], _ => rfl
  have D_need_pane : Df K mg "need_pane" s_need_pane ["curve", "pane"] _ _ := ⟨F29, PySem.W.mg_of X G a29, b29⟩
  have F30 := fun_mk (st := s_beyond) l30 c30 k30
  have b30 := F30.binds (ps := ["curve", "pane", "corner"]) fun _ _ _ _ _ _ us hl => match us, hl with | [_, _, _], _ => rfl
  have D_beyond : Df K mg "beyond" s_beyond ["curve", "pane", "corner"] _ _ := ⟨F30, PySem.W.mg_of X G a30, b30⟩
  have F32 := fun_mk (st := s__law_box) l32 c32 k32
  have b32 := F32.binds (ps := ["_law_script", "_law_k"]) fun _ _ _ _ _ _ us hl => match us, hl with | [_, _], _ => rfl
  have D__law_box : Df K mg "_law_box" s__law_box ["_law_script", "_law_k"] _ _ := ⟨F32, PySem.W.mg_of X G a32, b32⟩
  have F33 := fun_mk (st := s__law_more) l33 c33 k33
  have b33 := F33.binds (ps := ["_law_box_here"]) fun _ _ _ _ _ _ us hl => match us, hl with | [_], _ => rfl
  have D__law_more : Df K mg "_law_more" s__law_more ["_law_box_here"] _ _ := ⟨F33, PySem.W.mg_of X G a33, b33⟩
  have F34 := fun_mk (st := s__law_take) l34 c34 k34
  have b34 := F34.binds (ps := ["_law_box_here", "_law_wide"]) fun _ _ _ _ _ _ us hl => match us, hl with | [_, _], _ => rfl
  have D__law_take : Df K mg "_law_take" s__law_take ["_law_box_here", "_law_wide"] _ _ := ⟨F34, PySem.W.mg_of X G a34, b34⟩
  have F35 := fun_mk (st := s__law_curve) l35 c35 k35
  have b35 := F35.binds (ps := ["_law_box_here"]) fun _ _ _ _ _ _ us hl => match us, hl with | [_], _ => rfl
  have D__law_curve : Df K mg "_law_curve" s__law_curve ["_law_box_here"] _ _ := ⟨F35, PySem.W.mg_of X G a35, b35⟩
  have F36 := fun_mk (st := s__law_lots) l36 c36 k36
  have b36 := F36.binds (ps := ["_law_many", "_law_size"]) fun _ _ _ _ _ _ us hl => match us, hl with | [_, _], _ => rfl
  have D__law_lots : Df K mg "_law_lots" s__law_lots ["_law_many", "_law_size"] _ _ := ⟨F36, PySem.W.mg_of X G a36, b36⟩
  have F37 := fun_mk (st := s__law_is_pane) l37 c37 k37
  have b37 := F37.binds (ps := ["_law_curve_here", "_law_lot"]) fun _ _ _ _ _ _ us hl => match us, hl with | [_, _], _ => rfl
  have D__law_is_pane : Df K mg "_law_is_pane" s__law_is_pane ["_law_curve_here", "_law_lot"] _ _ := ⟨F37, PySem.W.mg_of X G a37, b37⟩
  have F38 := fun_mk (st := s__law_panes) l38 c38 k38
  have b38 := F38.binds (ps := ["_law_curve_here"]) fun _ _ _ _ _ _ us hl => match us, hl with | [_], _ => rfl
  have D__law_panes : Df K mg "_law_panes" s__law_panes ["_law_curve_here"] _ _ := ⟨F38, PySem.W.mg_of X G a38, b38⟩
  have F39 := fun_mk (st := s__law_has) l39 c39 k39
  have b39 := F39.binds (ps := ["_law_pane", "_law_lot"]) fun _ _ _ _ _ _ us hl => match us, hl with | [_, _], _ => rfl
  have D__law_has : Df K mg "_law_has" s__law_has ["_law_pane", "_law_lot"] _ _ := ⟨F39, PySem.W.mg_of X G a39, b39⟩
  have F40 := fun_mk (st := s__law_classes) l40 c40 k40
  have b40 := F40.binds (ps := ["_law_e"]) fun _ _ _ _ _ _ us hl => match us, hl with | [_], _ => rfl
  have D__law_classes : Df K mg "_law_classes" s__law_classes ["_law_e"] _ _ := ⟨F40, PySem.W.mg_of X G a40, b40⟩
  have F41 := fun_mk (st := s__law_refused) l41 c41 k41
  have b41 := F41.binds (ps := ["_law_call"]) fun _ _ _ _ _ _ us hl => match us, hl with | [_], _ => rfl
  have D__law_refused : Df K mg "_law_refused" s__law_refused ["_law_call"] _ _ := ⟨F41, PySem.W.mg_of X G a41, b41⟩
  have F42 := fun_mk (st := s_law) l42 c42 k42
  have b42 := F42.binds (ps := ["_law_script"]) fun _ _ _ _ _ _ us hl => match us, hl with | [_], _ => rfl
  have D_law : Dc K mg "law" s_law ["_law_script"] _ _ cc42 := ⟨F42, PySem.W.mg_of X G a42, b42, ⟨_, _, _, _, _, _, _, _, rfl, l42, c42⟩⟩
  have T_law : CdK K h pp42 := cdk_mk (O "law" (by simp) _ (PySem.W.mg_of X G a42)) l42 rfl lc42 v42 hh42 np42
  have B : Bt mg := ⟨PySem.W.mg_none_of X G z_isinstance, PySem.W.mg_none_of X G z_int, PySem.W.mg_none_of X G z_bool, PySem.W.mg_none_of X G z_tuple, PySem.W.mg_none_of X G z_len, PySem.W.mg_none_of X G z_enumerate, PySem.W.mg_none_of X G z_range, PySem.W.mg_none_of X G z_sorted, PySem.W.mg_none_of X G z_abs, PySem.W.mg_none_of X G z_divmod, PySem.W.mg_none_of X G z_ValueError, PySem.W.mg_none_of X G z_max, PySem.W.mg_none_of X G z_min⟩
  have c_MOST_DEEP := PySem.W.mg_of X G y_MOST_DEEP
  have c_MOST_CORNERS := PySem.W.mg_of X G y_MOST_CORNERS
  have CC : Cls15 mg [C_NoCurve, C_NoLot, C_NoPane, C_NoFace, C_NoCell, C_NoCorner, C_NoNumber, C_NoCounts, C_NoCover, C_NoTurn, C_NoCut, C_NoOrder, C_TooMany, C_NoText, C_NoLine] := ⟨_, _, _, _, _, _, _, _, _, _, _, _, _, _, _, rfl, PySem.W.mg_of X G x_NoCurve, PySem.W.mg_of X G x_NoLot, PySem.W.mg_of X G x_NoPane, PySem.W.mg_of X G x_NoFace, PySem.W.mg_of X G x_NoCell, PySem.W.mg_of X G x_NoCorner, PySem.W.mg_of X G x_NoNumber, PySem.W.mg_of X G x_NoCounts, PySem.W.mg_of X G x_NoCover, PySem.W.mg_of X G x_NoTurn, PySem.W.mg_of X G x_NoCut, PySem.W.mg_of X G x_NoOrder, PySem.W.mg_of X G x_TooMany, PySem.W.mg_of X G x_NoText, PySem.W.mg_of X G x_NoLine⟩
  have hCE := PySem.W.mg_of X G x_CurveError
  have R_NoCorner : RzD K mg "NoCorner" C_NoCorner := ⟨PySem.W.mg_of X G x_NoCorner, qr1_NoCorner, qr2_NoCorner, qr3_NoCorner, qr4_NoCorner⟩
  have X_NoCorner : ExD K C_CurveError [C_NoCurve, C_NoLot, C_NoPane, C_NoFace, C_NoCell, C_NoCorner, C_NoNumber, C_NoCounts, C_NoCover, C_NoTurn, C_NoCut, C_NoOrder, C_TooMany, C_NoText, C_NoLine] C_NoCorner 5 := ⟨⟨qe1_NoCorner, qe2_NoCorner, qr3_NoCorner, qe4_NoCorner, qe5_NoCorner, qe6_NoCorner, qe7_NoCorner, qe8_NoCorner⟩, qm_NoCorner, qv_NoCorner, onlyAt_mk qo0_NoCorner qo1_NoCorner qo2_NoCorner qo3_NoCorner qo4_NoCorner qo5_NoCorner qo6_NoCorner qo7_NoCorner qo8_NoCorner qo9_NoCorner qo10_NoCorner qo11_NoCorner qo12_NoCorner qo13_NoCorner qo14_NoCorner rfl rfl rfl rfl rfl rfl rfl rfl rfl rfl rfl rfl rfl rfl rfl, by decide⟩
  refine ⟨PySem.W.fnOf "law" "law" (defArgs s_law) (defBody s_law) (defScope s_law) .none kV42 dc42 pm42 an42 (.ref cc42) ct42, [], [pp42], fun p hp => (nomatch hp), fun p hp => (by rcases List.mem_cons.mp hp with rfl | hp; exact T_law; cases hp), fun p hp => (by simp only [List.mem_cons, List.not_mem_nil, or_false] at hp ⊢; subst hp; simp_all), fun s v => .of_eq rfl, fun base _ _ TB => ?_⟩
  have TB_law := TB cc42 pp42 (by simp) hh42
  exact ok_law ⟨B, _, _, D_is_whole, _, _, D_is_lot_of, _, _, D_odd_blocks, _, _, D_is_curve, _, _, D_need_curve, _, _, D_is_lot, _, _, D_is_pane, _, _, D_need_pane, _, _, D_beyond, _, _, D__law_box, _, _, D__law_more, _, _, D__law_take, _, _, D__law_curve, _, _, D__law_lots, _, _, D__law_is_pane, _, _, D__law_panes, _, _, D__law_has, _, _, D__law_classes, _, _, D__law_refused, _, c_MOST_DEEP, _, c_MOST_CORNERS, _, R_NoCorner⟩ D_law TB_law CC hCE X_NoCorner
end CF
open PySem PySem.W PyProof.Rows
set_option maxHeartbeats 0 in
theorem PySem.Challenge.cw_curvefaces_k10_beyond_holds : PySem.Challenge.rw_curvefaces_k10_beyond.Holds := by
  w_on; o_law; k_head; (case hw => w_witness2)
  k_fill
  refine CF.walk_G (l := PySem.Challenge.rw_curvefaces_k10_beyond) (k := 11) (x := "_law_script") ["law"] rfl rfl ⟨rfl, by decide, by decide⟩ (by decide +kernel) (fun w h Y => by first | exact PySem.W.km_in_of Y | exact PySem.W.kIn_of Y) ?F
  case F =>
    intro w mg fa h KX G hmg O
    refine' CF.all_mk KX G hmg O ?a18 ?l18 ?c18 ?k18 ?a19 ?l19 ?c19 ?k19 ?a20 ?l20 ?c20 ?k20 ?a24 ?l24 ?c24 ?k24 ?a25 ?l25 ?c25 ?k25 ?a26 ?l26 ?c26 ?k26 ?a27 ?l27 ?c27 ?k27 ?a29 ?l29 ?c29 ?k29 ?a30 ?l30 ?c30 ?k30 ?a32 ?l32 ?c32 ?k32 ?a33 ?l33 ?c33 ?k33 ?a34 ?l34 ?c34 ?k34 ?a35 ?l35 ?c35 ?k35 ?a36 ?l36 ?c36 ?k36 ?a37 ?l37 ?c37 ?k37 ?a38 ?l38 ?c38 ?k38 ?a39 ?l39 ?c39 ?k39 ?a40 ?l40 ?c40 ?k40 ?a41 ?l41 ?c41 ?k41 ?a42 ?l42 ?c42 ?k42 ?lc42 ?v42 ?hh42 ?np42 ?z_isinstance ?z_int ?z_bool ?z_tuple ?z_len ?z_enumerate ?z_range ?z_sorted ?z_abs ?z_divmod ?z_ValueError ?z_max ?z_min ?y_MOST_DEEP ?y_MOST_CORNERS ?x_CurveError ?x_NoCurve ?x_NoLot ?x_NoPane ?x_NoFace ?x_NoCell ?x_NoCorner ?x_NoNumber ?x_NoCounts ?x_NoCover ?x_NoTurn ?x_NoCut ?x_NoOrder ?x_TooMany ?x_NoText ?x_NoLine ?qr1_NoCorner ?qr2_NoCorner ?qr3_NoCorner ?qr4_NoCorner ?qe1_NoCorner ?qe2_NoCorner ?qe4_NoCorner ?qe5_NoCorner ?qe6_NoCorner ?qe7_NoCorner ?qe8_NoCorner ?qm_NoCorner ?qv_NoCorner ?qo0_NoCorner ?qo1_NoCorner ?qo2_NoCorner ?qo3_NoCorner ?qo4_NoCorner ?qo5_NoCorner ?qo6_NoCorner ?qo7_NoCorner ?qo8_NoCorner ?qo9_NoCorner ?qo10_NoCorner ?qo11_NoCorner ?qo12_NoCorner ?qo13_NoCorner ?qo14_NoCorner
    (case a18 => k_is)
    (case l18 => k_is)
    (case c18 => k_is)
    (case k18 => k_is)
    (case a19 => k_is)
    (case l19 => k_is)
    (case c19 => k_is)
    (case k19 => k_is)
    (case a20 => k_is)
    (case l20 => k_is)
    (case c20 => k_is)
    (case k20 => k_is)
    (case a24 => k_is)
    (case l24 => k_is)
    (case c24 => k_is)
    (case k24 => k_is)
    (case a25 => k_is)
    (case l25 => k_is)
    (case c25 => k_is)
    (case k25 => k_is)
    (case a26 => k_is)
    (case l26 => k_is)
    (case c26 => k_is)
    (case k26 => k_is)
    (case a27 => k_is)
    (case l27 => k_is)
    (case c27 => k_is)
    (case k27 => k_is)
    (case a29 => k_is)
    (case l29 => k_is)
    (case c29 => k_is)
    (case k29 => k_is)
    (case a30 => k_is)
    (case l30 => k_is)
    (case c30 => k_is)
    (case k30 => k_is)
    (case a32 => k_is)
    (case l32 => k_is)
    (case c32 => k_is)
    (case k32 => k_is)
    (case a33 => k_is)
    (case l33 => k_is)
    (case c33 => k_is)
    (case k33 => k_is)
    (case a34 => k_is)
    (case l34 => k_is)
    (case c34 => k_is)
    (case k34 => k_is)
    (case a35 => k_is)
    (case l35 => k_is)
    (case c35 => k_is)
    (case k35 => k_is)
    (case a36 => k_is)
    (case l36 => k_is)
    (case c36 => k_is)
    (case k36 => k_is)
    (case a37 => k_is)
    (case l37 => k_is)
    (case c37 => k_is)
    (case k37 => k_is)
    (case a38 => k_is)
    (case l38 => k_is)
    (case c38 => k_is)
    (case k38 => k_is)
    (case a39 => k_is)
    (case l39 => k_is)
    (case c39 => k_is)
    (case k39 => k_is)
    (case a40 => k_is)
    (case l40 => k_is)
    (case c40 => k_is)
    (case k40 => k_is)
    (case a41 => k_is)
    (case l41 => k_is)
    (case c41 => k_is)
    (case k41 => k_is)
    (case a42 => k_is)
    (case l42 => k_is)
    (case c42 => k_is)
    (case k42 => k_is)
    (case lc42 => k_is)
    (case v42 => first | rfl | k_is)
    (case hh42 => first | k_is | rfl | decide +kernel)
    (case np42 => first | k_is | rfl | decide +kernel)
    (case z_isinstance => k_is)
    (case z_int => k_is)
    (case z_bool => k_is)
    (case z_tuple => k_is)
    (case z_len => k_is)
    (case z_enumerate => k_is)
    (case z_range => k_is)
    (case z_sorted => k_is)
    (case z_abs => k_is)
    (case z_divmod => k_is)
    (case z_ValueError => k_is)
    (case z_max => k_is)
    (case z_min => k_is)
    (case y_MOST_DEEP => k_is)
    (case y_MOST_CORNERS => k_is)
    (case x_CurveError => k_is)
    (case x_NoCurve => k_is)
    (case x_NoLot => k_is)
    (case x_NoPane => k_is)
    (case x_NoFace => k_is)
    (case x_NoCell => k_is)
    (case x_NoCorner => k_is)
    (case x_NoNumber => k_is)
    (case x_NoCounts => k_is)
    (case x_NoCover => k_is)
    (case x_NoTurn => k_is)
    (case x_NoCut => k_is)
    (case x_NoOrder => k_is)
    (case x_TooMany => k_is)
    (case x_NoText => k_is)
    (case x_NoLine => k_is)
    (case qr1_NoCorner => k_exc)
    (case qr2_NoCorner => first | k_is | rfl | decide +kernel)
    (case qr3_NoCorner => first | k_is | rfl | decide +kernel)
    (case qr4_NoCorner => first | k_is | rfl | decide +kernel)
    (case qe1_NoCorner => first | k_is | rfl | decide +kernel)
    (case qe2_NoCorner => first | k_is | rfl | decide +kernel)
    (case qe4_NoCorner => first | k_is | rfl | decide +kernel)
    (case qe5_NoCorner => first | k_is | rfl | decide +kernel)
    (case qe6_NoCorner => first | k_is | rfl | decide +kernel)
    (case qe7_NoCorner => first | k_is | rfl | decide +kernel)
    (case qe8_NoCorner => first | k_is | rfl | decide +kernel)
    (case qm_NoCorner => first | k_is | rfl | decide +kernel)
    (case qv_NoCorner => first | k_is | rfl | decide +kernel)
    (case qo0_NoCorner => first | k_is | rfl | decide +kernel)
    (case qo1_NoCorner => first | k_is | rfl | decide +kernel)
    (case qo2_NoCorner => first | k_is | rfl | decide +kernel)
    (case qo3_NoCorner => first | k_is | rfl | decide +kernel)
    (case qo4_NoCorner => first | k_is | rfl | decide +kernel)
    (case qo5_NoCorner => first | k_is | rfl | decide +kernel)
    (case qo6_NoCorner => first | k_is | rfl | decide +kernel)
    (case qo7_NoCorner => first | k_is | rfl | decide +kernel)
    (case qo8_NoCorner => first | k_is | rfl | decide +kernel)
    (case qo9_NoCorner => first | k_is | rfl | decide +kernel)
    (case qo10_NoCorner => first | k_is | rfl | decide +kernel)
    (case qo11_NoCorner => first | k_is | rfl | decide +kernel)
    (case qo12_NoCorner => first | k_is | rfl | decide +kernel)
    (case qo13_NoCorner => first | k_is | rfl | decide +kernel)
    (case qo14_NoCorner => first | k_is | rfl | decide +kernel)
