import PyProof.Rows.All
import Wide.All
import OpenK.AllK
import Wide.FinOn
import PySem.Challenge.RW_curvefaces_k01_curves_known
import HandS.ForMost
import HandS.TupAny
import HandS.Flow
import HandS.IsInst
import HandS.Evl
import HandS.Deep
import HandS.Walk
import HandS.EndOwn
import HandS.Nested
import HandS.Zip0
import HandS.Zip
import HandS.EndTab
import HandS.AnyAll
import KE.GoesZip
import PyProof.GenCompD
import PyProof.GenCompT
import HandS.Conv
import HandS.Dict
import HandS.RaiseMore
set_option Elab.async false
set_option linter.all false
set_option maxRecDepth 100000
set_option maxHeartbeats 1000000
namespace CF
open PySem PySem.Spec PyProof.Rows L2 Evl
/-! ### data without lists: none, bools, ints, texts, tuples; it stays whatever is done to lists -/
mutual
inductive Dt (K : PySem.W.Frag) (H : Hp) : V → PyData → Prop
  | non : Dt K H .non .none
  | bl (b : Bool) : Dt K H (.bl b) (.bool b)
  | int (i : Int) : Dt K H (.int i) (.int i)
  | str (x : Str) : Dt K H (.str x) (.str x)
  | tup {a : Addr} {xs : List V} {ds : List PyData} : SqT K H a xs → DtAll K H xs ds → Dt K H (.ref a) (.tuple ds)
inductive DtAll (K : PySem.W.Frag) (H : Hp) : List V → List PyData → Prop
  | nil : DtAll K H [] []
  | cons {v : V} {vs : List V} {d : PyData} {ds : List PyData} : Dt K H v d → DtAll K H vs ds → DtAll K H (v :: vs) (d :: ds)
end
/-- what is a tuple (or locked) stays -/
def Tx (H H' : Hp) : Prop := ∀ a u, Rd H a (.tup u) → Rd H' a (.tup u)
theorem Tx.refl (H : Hp) : Tx H H := fun _ _ h => h
theorem Tx.trans {H H1 H2 : Hp} (a : Tx H H1) (b : Tx H1 H2) : Tx H H2 := fun c u h => b c u (a c u h)
theorem tx_of {H H' : Hp} (e : Ex H H') : Tx H H' := fun _ _ h => ex_rd e h
/-- a store at a list -/
theorem tx_lst {H : Hp} {D : Addr} {o : HO} {xs : List V} (h : H D = some (.lst xs)) : Tx H (upd H D o) := fun a u r => by
  have n : a ≠ D := fun z => by
    subst z
    rcases r with r | ⟨o, r⟩ <;> (rw [h] at r; cases r)
  rcases r with r | ⟨o, r⟩
  · exact .inl (by rw [upd_ne n]; exact r)
  · exact .inr ⟨o, by rw [upd_ne n]; exact r⟩
theorem tx_sq {K : PySem.W.Frag} {H H' : Hp} {a : Addr} {xs : List V} (e : Tx H H') (h : SqT K H a xs) : SqT K H' a xs := by
  rcases h with h | h
  · exact .inl (e _ _ h)
  · exact .inr h
mutual
theorem dt_tx {K : PySem.W.Frag} {H H' : Hp} (e : Tx H H') : ∀ {v : V} {d : PyData}, Dt K H v d → Dt K H' v d
  | _, _, .non => .non
  | _, _, .bl b => .bl b
  | _, _, .int i => .int i
  | _, _, .str x => .str x
  | _, _, .tup h a => .tup (tx_sq e h) (dta_tx e a)
theorem dta_tx {K : PySem.W.Frag} {H H' : Hp} (e : Tx H H') : ∀ {vs : List V} {ds : List PyData}, DtAll K H vs ds → DtAll K H' vs ds
  | _, _, .nil => .nil
  | _, _, .cons h t => .cons (dt_tx e h) (dta_tx e t)
end
theorem dt_ex {K : PySem.W.Frag} {H H' : Hp} (e : Ex H H') {v : V} {d : PyData} (h : Dt K H v d) : Dt K H' v d := dt_tx (tx_of e) h
theorem dta_ex {K : PySem.W.Frag} {H H' : Hp} (e : Ex H H') {vs : List V} {ds : List PyData} (h : DtAll K H vs ds) : DtAll K H' vs ds := dta_tx (tx_of e) h
mutual
theorem dt_dp {K : PySem.W.Frag} {H : Hp} : ∀ {v : V} {d : PyData}, Dt K H v d → Dp K H v d
  | _, _, .non => .non
  | _, _, .bl b => .bl b
  | _, _, .int i => .int i
  | _, _, .str x => .str x
  | _, _, .tup h a => .tup h (dta_dp a)
theorem dta_dp {K : PySem.W.Frag} {H : Hp} : ∀ {vs : List V} {ds : List PyData}, DtAll K H vs ds → DpAll K H vs ds
  | _, _, .nil => .nil
  | _, _, .cons h t => .cons (dt_dp h) (dta_dp t)
end
section
variable {K : PySem.W.Frag} {H : Hp}
theorem dta_len : ∀ {vs : List V} {ds : List PyData}, DtAll K H vs ds → vs.length = ds.length
  | _, _, .nil => rfl
  | _, _, .cons _ t => by rw [List.length_cons, List.length_cons, dta_len t]
theorem dta_get : ∀ {vs : List V} {ds : List PyData} {i : Nat} {v : V}, DtAll K H vs ds → vs[i]? = some v → ∃ d, ds[i]? = some d ∧ Dt K H v d
  | _, _, _, _, .nil, e => by simp at e
  | _, _, 0, _, .cons h _, e => by simp at e; subst e; exact ⟨_, rfl, h⟩
  | _, _, i + 1, v, .cons _ t, e => by
    obtain ⟨d, h1, h2⟩ := dta_get (i := i) (v := v) t (by simpa using e)
    exact ⟨d, by simpa using h1, h2⟩
theorem dta_get' : ∀ {vs : List V} {ds : List PyData} {i : Nat} {d : PyData}, DtAll K H vs ds → ds[i]? = some d → ∃ v, vs[i]? = some v ∧ Dt K H v d
  | _, _, _, _, .nil, e => by simp at e
  | _, _, 0, _, .cons h _, e => by simp at e; subst e; exact ⟨_, rfl, h⟩
  | _, _, i + 1, d, .cons _ t, e => by
    obtain ⟨v, h1, h2⟩ := dta_get' (i := i) (d := d) t (by simpa using e)
    exact ⟨v, by simpa using h1, h2⟩
theorem dta_app : ∀ {vs ws : List V} {ds es : List PyData}, DtAll K H vs ds → DtAll K H ws es → DtAll K H (vs ++ ws) (ds ++ es)
  | _, _, _, _, .nil, s => s
  | _, _, _, _, .cons h t, s => .cons h (dta_app t s)
theorem dta_one {v : V} {d : PyData} (h : Dt K H v d) : DtAll K H [v] [d] := .cons h .nil
theorem dta_take : ∀ {vs : List V} {ds : List PyData} (n : Nat), DtAll K H vs ds → DtAll K H (vs.take n) (ds.take n)
  | _, _, 0, _ => .nil
  | _, _, _ + 1, .nil => .nil
  | _, _, n + 1, .cons h t => .cons h (dta_take n t)
theorem dta_drop : ∀ {vs : List V} {ds : List PyData} (n : Nat), DtAll K H vs ds → DtAll K H (vs.drop n) (ds.drop n)
  | _, _, 0, r => r
  | _, _, _ + 1, .nil => .nil
  | _, _, n + 1, .cons _ t => dta_drop n t
theorem dta_ints : ∀ (l : List Int), DtAll K H (l.map V.int) (l.map PyData.int)
  | [] => .nil
  | i :: l => .cons (.int i) (dta_ints l)
theorem dta_ints_inv : ∀ {vs : List V} {l : List Int}, DtAll K H vs (l.map PyData.int) → vs = l.map V.int
  | _, [], .nil => rfl
  | _, i :: l, .cons h t => by
    cases h
    rw [dta_ints_inv t]
    rfl
end

/-! ### a new address apart -/
theorem ne_free {H : Hp} {p q : Addr} {o : HO} (h : H q = some o) (n : H p = none) : p ≠ q := fun e => by
  subst e; rw [n] at h; cases h

/-! ### what evaluates to which data -/
def EvD (K : PySem.W.Frag) (te : TE) (σ : L2.St) (H : Hp) (d : PyData) : Prop := ∀ H1, Ex H H1 → ∀ Q : VK, (∀ v H2, Ex H1 H2 → Dt K H2 v d → Q v H2) → te σ H1 Q
/-- a new list of data -/
def EvF (K : PySem.W.Frag) (te : TE) (σ : L2.St) (H : Hp) (ds : List PyData) : Prop := ∀ H1, Ex H H1 → ∀ Q : VK, (∀ p xs H2, H1 p = none → Ex H1 H2 → H2 p = some (.lst xs) → DtAll K H2 xs ds → Q (.ref p) H2) → te σ H1 Q
def EvB (K : PySem.W.Frag) (ta : TA) (σ : L2.St) (H : Hp) (ds : List PyData) : Prop := ∀ H1, Ex H H1 → ∀ Q : List V → Hp → Prop, (∀ vs H2, Ex H1 H2 → DtAll K H2 vs ds → Q vs H2) → ta σ H1 Q
section
variable {K : PySem.W.Frag} {σ : L2.St} {H H' : Hp} {ta tb te tx : TE} {t u : TT} {x y z v : V} {r : R2} {d : PyData} {ds es : List PyData}
theorem EvD.mono (e : Ex H H') (h : EvD K te σ H d) : EvD K te σ H' d := fun H1 a Q q => h H1 (e.trans a) Q q
theorem EvF.mono (e : Ex H H') (h : EvF K te σ H ds) : EvF K te σ H' ds := fun H1 a Q q => h H1 (e.trans a) Q q
theorem ed_var {i : Nat} (h : σ[i]? = some (some v)) (hd : Dt K H v d) : EvD K (tVar i) σ H d := fun H1 e _ q => ⟨v, h, q v H1 (Ex.refl H1) (dt_ex e hd)⟩
theorem ed_ev (h : Ev te σ H v) (hd : Dt K H v d) : EvD K te σ H d := fun H1 e Q q => h H1 e Q fun H2 e2 => q v H2 e2 (dt_ex (e.trans e2) hd)
theorem ev_int {i : Int} (h : EvD K te σ H (.int i)) : Ev te σ H (.int i) := fun H1 e Q q => h H1 e Q fun v H2 e2 hd => by
  cases hd
  exact q H2 e2
theorem ev_bl {b : Bool} (h : EvD K te σ H (.bool b)) : Ev te σ H (.bl b) := fun H1 e Q q => h H1 e Q fun v H2 e2 hd => by
  cases hd
  exact q H2 e2
theorem ev_str {s : Str} (h : EvD K te σ H (.str s)) : Ev te σ H (.str s) := fun H1 e Q q => h H1 e Q fun v H2 e2 hd => by
  cases hd
  exact q H2 e2
theorem ed_int {i : Int} (h : Ev te σ H (.int i)) : EvD K te σ H (.int i) := ed_ev h (.int i)
theorem ed_bl {b : Bool} (h : Ev te σ H (.bl b)) : EvD K te σ H (.bool b) := ed_ev h (.bl b)
theorem ed_is {e : PyData} (h : EvD K te σ H d) (q : d = e) : EvD K te σ H e := q ▸ h
theorem ef_is (h : EvF K te σ H ds) (q : ds = es) : EvF K te σ H es := q ▸ h
theorem eb_nil : EvB K tNil σ H [] := fun H1 _ _ q => q [] H1 (Ex.refl H1) .nil
theorem eb_cons {tr : TA} (h : EvD K ta σ H d) (hr : EvB K tr σ H ds) : EvB K (tCons ta tr) σ H (d :: ds) := fun H1 e _ q =>
  h H1 e _ fun v H2 e2 hd => hr H2 (e.trans e2) _ fun vs H3 e3 ha => q (v :: vs) H3 (e2.trans e3) (.cons (dt_ex e3 hd) ha)
theorem ed_tup {ta : TA} (h : EvB K ta σ H ds) (hl : ds.length ≤ 100000) : EvD K (tTup ta) σ H (.tuple ds) := fun H1 e _ q =>
  h H1 e _ fun vs H2 e2 ha => ⟨sz_of (by rw [dta_len ha]; exact hl), fun p hp => q _ _ (e2.trans (Ex.new hp)) (.tup (.inl (.inl upd_same)) (dta_ex (Ex.new hp) ha))⟩
theorem ef_lst {ta : TA} (h : EvB K ta σ H ds) (hl : ds.length ≤ 100000) : EvF K (tLst ta) σ H ds := fun H1 e _ q =>
  h H1 e _ fun vs H2 e2 ha => ⟨sz_of (by rw [dta_len ha]; exact hl), fun p hp => q p vs _ (fresh_back e2 hp) (e2.trans (Ex.new hp)) upd_same (dta_ex (Ex.new hp) ha)⟩
/-- t + u -/
theorem ed_cat {xs ys : List PyData} (ha : EvD K ta σ H (.tuple xs)) (hb : EvD K tb σ H (.tuple ys)) (hl : xs.length + ys.length ≤ 100000) : EvD K (tOp (rCatA K) ta tb) σ H (.tuple (xs ++ ys)) := fun H1 e Q q =>
  ha H1 e _ fun v H2 e2 hv => hb H2 (e.trans e2) _ fun w H3 e3 hw => by
    have hv := dt_ex e3 hv
    cases hv with
    | tup hs hx =>
      cases hw with
      | tup ht hy =>
        rename_i a vs b ws
        refine ⟨_, _, _, _, rfl, rfl, hs, ht, sz_of (by rw [dta_len hx, dta_len hy]; exact hl), fun z => ?_, fun _ z => ?_, fun _ _ p hp => ?_⟩
        · subst z
          cases hx
          exact q _ _ (e2.trans e3) (.tup ht hy)
        · subst z
          cases hy
          rw [List.append_nil] at q
          exact q _ _ (e2.trans e3) (.tup hs hx)
        · exact q _ _ ((e2.trans e3).trans (Ex.new hp)) (.tup (.inl (.inl upd_same)) (dta_ex (Ex.new hp) (dta_app hx hy)))
theorem atI_dta {vs : List V} {i : Int} (h : DtAll K H vs ds) (e : atI ds i = some d) : ∃ v, atI vs i = some v ∧ Dt K H v d := by
  unfold atI at e ⊢
  rw [dta_len h]
  cases q : ixN ds.length i with
  | none => rw [q] at e; cases e
  | some j =>
    rw [q] at e
    exact dta_get' h e
theorem ed_ixT {i : Int} (ha : EvD K ta σ H (.tuple ds)) (hb : Ev tb σ H (.int i)) (h : atI ds i = some d) : EvD K (tOp (rIxT K) ta tb) σ H d := fun H1 e Q q =>
  ha H1 e _ fun v H2 e2 hv => hb H2 (e.trans e2) _ fun H3 e3 => by
    have hv := dt_ex e3 hv
    cases hv with
    | tup hs hx =>
      obtain ⟨w, hw, hd⟩ := atI_dta hx h
      exact ⟨_, _, i, w, rfl, rfl, hs, hw, q w H3 (e2.trans e3) hd⟩
/-- xs[i] of a list that stands -/
theorem ed_ixL {i : Int} {a : Addr} {xs : List V} (ha : Ev ta σ H (.ref a)) (hs : SqL K H a xs) (hx : DtAll K H xs ds) (hb : Ev tb σ H (.int i)) (h : atI ds i = some d) : EvD K (tOp (rIxL K) ta tb) σ H d := fun H1 e Q q =>
  ha H1 e _ fun H2 e2 => hb H2 (e.trans e2) _ fun H3 e3 => by
    obtain ⟨w, hw, hd⟩ := atI_dta (dta_ex ((e.trans e2).trans e3) hx) h
    exact ⟨_, _, i, w, rfl, rfl, ex_l ((e.trans e2).trans e3) hs, hw, q w H3 (e2.trans e3) hd⟩
/-- [..][i]: of a list made on the way -/
theorem ed_ixF {i : Int} (ha : EvF K ta σ H ds) (hb : Ev tb σ H (.int i)) (h : atI ds i = some d) : EvD K (tOp (rIxL K) ta tb) σ H d := fun H1 e Q q =>
  ha H1 e _ fun p xs H2 _ e2 hp hx => hb H2 (e.trans e2) _ fun H3 e3 => by
    obtain ⟨w, hw, hd⟩ := atI_dta (dta_ex e3 hx) h
    exact ⟨_, _, i, w, rfl, rfl, sq_of (e3 p _ hp), hw, q w H3 (e2.trans e3) hd⟩
theorem ev_lenT (ha : EvD K ta σ H (.tuple ds)) : Ev (tCB (rLenS K) (tCons ta tNil)) σ H (.int (ds.length : Int)) := fun H1 e Q q =>
  ha H1 e _ fun v H2 e2 hv => by
    cases hv with
    | tup hs hx =>
      refine ⟨_, _, rfl, .inr hs, ?_⟩
      rw [dta_len hx]
      exact q H2 e2
theorem ev_lenF (ha : EvF K ta σ H ds) : Ev (tCB (rLenS K) (tCons ta tNil)) σ H (.int (ds.length : Int)) := fun H1 e Q q =>
  ha H1 e _ fun p xs H2 _ e2 hp hx => ⟨p, xs, rfl, .inl (sq_of hp), by rw [dta_len hx]; exact q H2 e2⟩
theorem ev_lenD {a : Addr} {xs : List V} (ha : Ev ta σ H (.ref a)) (hs : SqL K H a xs) (hx : DtAll K H xs ds) : Ev (tCB (rLenS K) (tCons ta tNil)) σ H (.int (ds.length : Int)) := by
  rw [← dta_len hx]
  exact ev_len ha hs
/-- xs + ys -/
theorem ef_catLF {p : Addr} {xs : List V} (ha : Ev ta σ H (.ref p)) (hp : H p = some (.lst xs)) (hx : DtAll K H xs ds) (hb : EvF K tb σ H es) (hl : ds.length + es.length ≤ 100000) : EvF K (tOp rCat ta tb) σ H (ds ++ es) := fun H1 e Q q =>
  ha H1 e _ fun H2 e2 => hb H2 (e.trans e2) _ fun b ys H3 _ e3 hb' hy =>
    ⟨_, _, _, _, rfl, rfl, ((e.trans e2).trans e3) p _ hp, hb', sz_of (by rw [dta_len hx, dta_len hy]; exact hl), fun n hn =>
      q n _ _ (fresh_back (e2.trans e3) hn) ((e2.trans e3).trans (Ex.new hn)) upd_same (dta_ex (Ex.new hn) (dta_app (dta_ex ((e.trans e2).trans e3) hx) hy))⟩
theorem ef_catFF (ha : EvF K ta σ H ds) (hb : EvF K tb σ H es) (hl : ds.length + es.length ≤ 100000) : EvF K (tOp rCat ta tb) σ H (ds ++ es) := fun H1 e Q q =>
  ha H1 e _ fun p xs H2 np e2 hp hx => hb H2 (e.trans e2) _ fun b ys H3 _ e3 hb' hy =>
    ⟨_, _, _, _, rfl, rfl, e3 p _ hp, hb', sz_of (by rw [dta_len hx, dta_len hy]; exact hl), fun n hn =>
      q n _ _ (fresh_back (e2.trans e3) hn) ((e2.trans e3).trans (Ex.new hn)) upd_same (dta_ex (Ex.new hn) (dta_app (dta_ex e3 hx) hy))⟩
/-! calls of defs that hand on data -/
def spD (K : PySem.W.Frag) (pre : List PyData → Prop) (f : List PyData → PyData) : Sp := fun vs H Q _ => ∃ ds, DtAll K H vs ds ∧ pre ds ∧ ∀ v H2, Ex H H2 → Dt K H2 v (f ds) → Q v H2
def spF (K : PySem.W.Frag) (pre : List PyData → Prop) (f : List PyData → List PyData) : Sp := fun vs H Q _ => ∃ ds, DtAll K H vs ds ∧ pre ds ∧ ∀ p xs H2, H p = none → Ex H H2 → H2 p = some (.lst xs) → DtAll K H2 xs (f ds) → Q (.ref p) H2
theorem ed_call {pre : List PyData → Prop} {f : List PyData → PyData} {E : XK} {ta : TA} (h : EvB K ta σ H ds) (hp : pre ds) : EvD K (tCall (spD K pre f) [] E ta) σ H (f ds) := fun H1 e Q q =>
  h H1 e _ fun vs H2 e2 ha => by
    show spD K pre f (vs ++ []) H2 Q E
    rw [List.append_nil]
    exact ⟨ds, ha, hp, fun v H3 e3 hd => q v H3 (e2.trans e3) hd⟩
theorem ef_call {pre : List PyData → Prop} {f : List PyData → List PyData} {E : XK} {ta : TA} (h : EvB K ta σ H ds) (hp : pre ds) : EvF K (tCall (spF K pre f) [] E ta) σ H (f ds) := fun H1 e Q q =>
  h H1 e _ fun vs H2 e2 ha => by
    show spF K pre f (vs ++ []) H2 Q E
    rw [List.append_nil]
    exact ⟨ds, ha, hp, fun p xs H3 np e3 hx hd => q p xs H3 (fresh_back e2 np) (e2.trans e3) hx hd⟩
/-! == and != -/
theorem ev_eqDD {d e : PyData} (ha : EvD K ta σ H d) (hb : EvD K tb σ H e) (sd : SeqAt.shaped d = true) (se : SeqAt.shaped e = true) : Ev (tOp (rEqD K) ta tb) σ H (.bl (PyData.eqv d e)) := fun H1 e1 Q q =>
  ha H1 e1 _ fun v H2 e2 hv => hb H2 (e1.trans e2) _ fun w H3 e3 hw => ⟨d, e, dt_dp (dt_ex e3 hv), dt_dp hw, sd, se, q H3 (e2.trans e3)⟩
theorem ev_neDD {d e : PyData} (ha : EvD K ta σ H d) (hb : EvD K tb σ H e) (sd : SeqAt.shaped d = true) (se : SeqAt.shaped e = true) : Ev (tOp (rNeD K) ta tb) σ H (.bl (!PyData.eqv d e)) := fun H1 e1 Q q =>
  ha H1 e1 _ fun v H2 e2 hv => hb H2 (e1.trans e2) _ fun w H3 e3 hw => ⟨d, e, dt_dp (dt_ex e3 hv), dt_dp hw, sd, se, q H3 (e2.trans e3)⟩
theorem ev_neFF (ha : EvF K ta σ H ds) (hb : EvF K tb σ H es) (sd : SeqAt.shaped (.list ds) = true) (se : SeqAt.shaped (.list es) = true) : Ev (tOp (rNeD K) ta tb) σ H (.bl (!PyData.eqv (.list ds) (.list es))) := fun H1 e1 Q q =>
  ha H1 e1 _ fun p xs H2 _ e2 hp hx => hb H2 (e1.trans e2) _ fun r ys H3 _ e3 hr hy => ⟨_, _, .lst (sq_of (e3 p _ hp)) (dta_dp (dta_ex e3 hx)), .lst (sq_of hr) (dta_dp hy), sd, se, q H3 (e2.trans e3)⟩
theorem ev_eqFF (ha : EvF K ta σ H ds) (hb : EvF K tb σ H es) (sd : SeqAt.shaped (.list ds) = true) (se : SeqAt.shaped (.list es) = true) : Ev (tOp (rEqD K) ta tb) σ H (.bl (PyData.eqv (.list ds) (.list es))) := fun H1 e1 Q q =>
  ha H1 e1 _ fun p xs H2 _ e2 hp hx => hb H2 (e1.trans e2) _ fun r ys H3 _ e3 hr hy => ⟨_, _, .lst (sq_of (e3 p _ hp)) (dta_dp (dta_ex e3 hx)), .lst (sq_of hr) (dta_dp hy), sd, se, q H3 (e2.trans e3)⟩
/-- lists that stand -/
theorem rv_neL {a b : Addr} {xs ys : List V} (h1 : SqL K H a xs) (hx : DtAll K H xs ds) (h2 : SqL K H b ys) (hy : DtAll K H ys es) (sd : SeqAt.shaped (.list ds) = true) (se : SeqAt.shaped (.list es) = true) : RV (rNeD K) (.ref a) (.ref b) H (.bl (!PyData.eqv (.list ds) (.list es))) := fun H1 e Q q =>
  ⟨_, _, .lst (ex_l e h1) (dta_dp (dta_ex e hx)), .lst (ex_l e h2) (dta_dp (dta_ex e hy)), sd, se, q H1 (Ex.refl H1)⟩
/-! comprehensions -/
def Cd (K : PySem.W.Frag) (H : Hp) (Dl : Addr) (ds : List PyData) (H' : Hp) : Prop := H Dl = none ∧ Ex H H' ∧ ∃ acc, H' Dl = some (.lst acc) ∧ DtAll K H' acc ds
theorem cd_turn {H H' : Hp} {Dl : Addr} {ds : List PyData} {b : Bool} {d : PyData} {σ2 : L2.St} (p : Cd K H Dl ds H') (hi : ds.length < 50000) (ht : EvT t σ2 H' b) (he : b = true → EvD K te σ2 H' d) :
    t σ2 H' fun b H3 => if b = true then te σ2 H3 fun y H4 => ∃ acc, H4 Dl = some (.lst acc) ∧ acc.length < sizeLine ∧ Cd K H Dl (ds ++ [d]) (upd H4 Dl (.lst (acc ++ [y]))) else Cd K H Dl ds H3 := by
  obtain ⟨p1, p2, acc, p3, p4⟩ := p
  refine ht H' (Ex.refl H') _ fun H3 e3 => ?_
  cases b with
  | true =>
    show te σ2 H3 fun y H4 => _
    refine (he rfl) H3 e3 _ fun y H4 e4 hd => ⟨acc, e4 Dl _ (e3 Dl _ p3), sz_lt (by rw [dta_len p4]; omega), p1, Ex.mut ((p2.trans e3).trans e4) p1, _, upd_same, ?_⟩
    exact dta_tx (tx_lst (e4 Dl _ (e3 Dl _ p3))) (dta_app (dta_ex (e3.trans e4) p4) (dta_one hd))
  | false => exact ⟨p1, p2.trans e3, acc, e3 Dl _ p3, dta_ex e3 p4⟩
theorem filter_take_succ {α : Type} {f : α → Bool} {l : List α} {i : Nat} {a : α} (h : l[i]? = some a) : (l.take (i + 1)).filter f = (l.take i).filter f ++ (if f a = true then [a] else []) := by
  rw [List.take_add_one, h, List.filter_append]
  show _ ++ List.filter f [a] = _
  rw [List.filter_cons]
  cases f a <;> rfl
/-- the turn of a comprehension over things as .. filtered by f, told by g -/
theorem cd_step {α : Type} {f : α → Bool} {g : α → PyData} {l : List α} {H H' : Hp} {Dl : Addr} {i : Nat} {a : α} {σ2 : L2.St} (p : Cd K H Dl (((l.take i).filter f).map g) H') (hl : l.length < 50000) (ha : l[i]? = some a) (ht : EvT t σ2 H' (f a)) (he : f a = true → EvD K te σ2 H' (g a)) :
    t σ2 H' fun b H3 => if b = true then te σ2 H3 fun y H4 => ∃ acc, H4 Dl = some (.lst acc) ∧ acc.length < sizeLine ∧ Cd K H Dl (((l.take (i + 1)).filter f).map g) (upd H4 Dl (.lst (acc ++ [y]))) else Cd K H Dl (((l.take (i + 1)).filter f).map g) H3 := by
  have hz : (((l.take i).filter f).map g).length < 50000 := by
    rw [List.length_map]
    have h1 := List.length_filter_le f (l.take i)
    have h2 : (l.take i).length ≤ l.length := by rw [List.length_take]; exact Nat.min_le_right _ _
    omega
  obtain ⟨p1, p2, acc, p3, p4⟩ := p
  refine ht H' (Ex.refl H') _ fun H3 e3 => ?_
  have e1 := filter_take_succ (f := f) ha
  cases hb : f a with
  | true =>
    rw [hb, if_pos rfl] at e1
    refine iteT ?_
    refine he hb H3 e3 _ fun y H4 e4 hd => ⟨acc, e4 Dl _ (e3 Dl _ p3), sz_lt (by rw [dta_len p4]; omega), p1, Ex.mut ((p2.trans e3).trans e4) p1, _, upd_same, ?_⟩
    rw [e1, List.map_append]
    exact dta_tx (tx_lst (e4 Dl _ (e3 Dl _ p3))) (dta_app (dta_ex (e3.trans e4) p4) (dta_one hd))
  | false =>
    rw [hb, if_neg Bool.false_ne_true, List.append_nil] at e1
    refine iteF ?_
    rw [e1]
    exact ⟨p1, p2.trans e3, acc, e3 Dl _ p3, dta_ex e3 p4⟩
/-- over a list that stands -/
theorem ef_lcL {a : Addr} {xs : List V} {tl : TE} {j : Nat} {vs : List Nat} (f : PyData → Bool) (g : PyData → PyData) (h : Ev tl σ H (.ref a)) (hx : SqL K H a xs) (hd : DtAll K H xs ds) (hz : ds.length < 50000) (hw : ∀ x, wipe ((wipe σ vs).set j (some x)) vs = wipe σ vs)
    (ht : ∀ (d : PyData) (x : V) H1, Ex H H1 → d ∈ ds → Dt K H1 x d → EvT t ((wipe σ vs).set j (some x)) H1 (f d)) (he : ∀ (d : PyData) (x : V) H1, Ex H H1 → d ∈ ds → Dt K H1 x d → f d = true → EvD K te ((wipe σ vs).set j (some x)) H1 (g d)) :
    EvF K (tLc (iList K tl) (gName j) t te vs) σ H ((ds.filter f).map g) := fun H0 e Q q => h H0 e _ fun H1 e1 => ⟨a, rfl, ⟨xs, ex_l (e.trans e1) hx⟩, fun Dl hD =>
  lc_list (xs := xs) (fun i H' => Cd K H1 Dl (((ds.take i).filter f).map g) H') ⟨hD, Ex.new hD, [], upd_same, .nil⟩ (fun i H' _ p => ex_l ((e.trans e1).trans p.2.1) hx) (fun i x H' hi p => by
      obtain ⟨d, h1, h2⟩ := dta_get (dta_ex ((e.trans e1).trans p.2.1) hd) hi
      have hm := List.mem_of_getElem? h1
      have e3 := (e.trans e1).trans p.2.1
      exact ⟨hw x, cd_step p hz h1 (ht d x H' e3 hm h2) (fun hf => he d x H' e3 hm h2 hf)⟩)
    (fun H' p => by
      obtain ⟨p1, p2, acc, p3, p4⟩ := p
      have e5 : ds.take xs.length = ds := List.take_of_length_le (by rw [dta_len hd]; exact Nat.le_refl _)
      rw [e5] at p4
      exact q Dl acc H' (fresh_back e1 p1) (e1.trans p2) p3 p4)⟩
/-- over a tuple -/
theorem ef_lcT {tl : TE} {j : Nat} {vs : List Nat} (f : PyData → Bool) (g : PyData → PyData) (h : EvD K tl σ H (.tuple ds)) (hz : ds.length < 50000) (hw : ∀ x, wipe ((wipe σ vs).set j (some x)) vs = wipe σ vs)
    (ht : ∀ (d : PyData) (x : V) H1, Ex H H1 → d ∈ ds → Dt K H1 x d → EvT t ((wipe σ vs).set j (some x)) H1 (f d)) (he : ∀ (d : PyData) (x : V) H1, Ex H H1 → d ∈ ds → Dt K H1 x d → f d = true → EvD K te ((wipe σ vs).set j (some x)) H1 (g d)) :
    EvF K (tLc (iTup K tl) (gName j) t te vs) σ H ((ds.filter f).map g) := fun H0 e Q q => h H0 e _ fun v H1 e1 hv => by
  cases hv with
  | tup hx hd =>
    rename_i a xs
    exact ⟨a, rfl, ⟨xs, hx⟩, fun Dl hD =>
      lc_tup (xs := xs) (fun i H' => Cd K H1 Dl (((ds.take i).filter f).map g) H') ⟨hD, Ex.new hD, [], upd_same, .nil⟩ (fun i H' _ p => ex_t p.2.1 hx) (fun i x H' hi p => by
          obtain ⟨d, h1, h2⟩ := dta_get (dta_ex p.2.1 hd) hi
          have hm := List.mem_of_getElem? h1
          have e3 := (e.trans e1).trans p.2.1
          exact ⟨hw x, cd_step p hz h1 (ht d x H' e3 hm h2) (fun hf => he d x H' e3 hm h2 hf)⟩)
        (fun H' p => by
          obtain ⟨p1, p2, acc, p3, p4⟩ := p
          have e5 : ds.take xs.length = ds := List.take_of_length_le (by rw [dta_len hd]; exact Nat.le_refl _)
          rw [e5] at p4
          exact q Dl acc H' (fresh_back e1 p1) (e1.trans p2) p3 p4)⟩
/-- over a list made on the way -/
theorem ef_lcF {tl : TE} {j : Nat} {vs : List Nat} (f : PyData → Bool) (g : PyData → PyData) (h : EvF K tl σ H ds) (hz : ds.length < 50000) (hw : ∀ x, wipe ((wipe σ vs).set j (some x)) vs = wipe σ vs)
    (ht : ∀ (d : PyData) (x : V) H1, Ex H H1 → d ∈ ds → Dt K H1 x d → EvT t ((wipe σ vs).set j (some x)) H1 (f d)) (he : ∀ (d : PyData) (x : V) H1, Ex H H1 → d ∈ ds → Dt K H1 x d → f d = true → EvD K te ((wipe σ vs).set j (some x)) H1 (g d)) :
    EvF K (tLc (iList K tl) (gName j) t te vs) σ H ((ds.filter f).map g) := fun H0 e Q q => h H0 e _ fun a xs H1 ha e1 hx hd => ⟨a, rfl, ⟨xs, sq_of hx⟩, fun Dl hD =>
  lc_list (xs := xs) (fun i H' => Cd K H1 Dl (((ds.take i).filter f).map g) H') ⟨hD, Ex.new hD, [], upd_same, .nil⟩ (fun i H' _ p => sq_of (p.2.1 a _ hx)) (fun i x H' hi p => by
      obtain ⟨d, h1, h2⟩ := dta_get (dta_ex p.2.1 hd) hi
      have hm := List.mem_of_getElem? h1
      have e3 := (e.trans e1).trans p.2.1
      exact ⟨hw x, cd_step p hz h1 (ht d x H' e3 hm h2) (fun hf => he d x H' e3 hm h2 hf)⟩)
    (fun H' p => by
      obtain ⟨p1, p2, acc, p3, p4⟩ := p
      have e5 : ds.take xs.length = ds := List.take_of_length_le (by rw [dta_len hd]; exact Nat.le_refl _)
      rw [e5] at p4
      exact q Dl acc H' (fresh_back e1 p1) (e1.trans p2) p3 p4)⟩
/-- the ints lo, lo + 1, .. below hi -/
def upTo (lo hi : Int) : List Int := (List.range (hi - lo).toNat).map fun (i : Nat) => lo + (i : Int)
theorem upTo_get {lo hi : Int} {i : Nat} (h : i < (hi - lo).toNat) : (upTo lo hi)[i]? = some (lo + (i : Int)) := by
  unfold upTo
  rw [List.getElem?_map, List.getElem?_range h]
  rfl
theorem upTo_len (lo hi : Int) : (upTo lo hi).length = (hi - lo).toNat := by
  unfold upTo
  rw [List.length_map, List.length_range]
theorem ef_lcR2 {ta : TA} {j : Nat} {vs : List Nat} {lo hi : Int} (f : Int → Bool) (g : Int → PyData) (h : EvA ta σ H [.int lo, .int hi]) (hn : -10000 ≤ lo ∧ lo ≤ 10000 ∧ -10000 ≤ hi ∧ hi ≤ 10000) (hw : ∀ x, wipe ((wipe σ vs).set j (some x)) vs = wipe σ vs)
    (ht : ∀ (i : Int) H1, Ex H H1 → lo ≤ i → i < hi → EvT t ((wipe σ vs).set j (some (.int i))) H1 (f i)) (he : ∀ (i : Int) H1, Ex H H1 → lo ≤ i → i < hi → f i = true → EvD K te ((wipe σ vs).set j (some (.int i))) H1 (g i)) :
    EvF K (tLc (iRng2 ta) (gName j) t te vs) σ H (((upTo lo hi).filter f).map g) := fun H0 e Q q => h H0 e _ fun H1 e1 => ⟨lo, hi, rfl, ⟨by omega, by omega, by omega, by omega⟩, fun Dl hD =>
  lc_range (lo := lo) (n := (hi - lo).toNat) (fun i H' => Cd K H1 Dl ((((upTo lo hi).take i).filter f).map g) H') ⟨hD, Ex.new hD, [], upd_same, .nil⟩ (fun i H' hi p => by
      have e3 := (e.trans e1).trans p.2.1
      exact ⟨hw _, cd_step p (by rw [upTo_len]; omega) (upTo_get hi) (ht _ H' e3 (by omega) (by omega)) (fun hf => he _ H' e3 (by omega) (by omega) hf)⟩)
    (fun H' p => by
      obtain ⟨p1, p2, acc, p3, p4⟩ := p
      have e5 : (upTo lo hi).take (hi - lo).toNat = upTo lo hi := List.take_of_length_le (by rw [upTo_len]; exact Nat.le_refl _)
      rw [e5] at p4
      exact q Dl acc H' (fresh_back e1 p1) (e1.trans p2) p3 p4)⟩
theorem ef_lcR1 {ta : TA} {j : Nat} {vs : List Nat} {hi : Int} (f : Int → Bool) (g : Int → PyData) (h : EvA ta σ H [.int hi]) (hn : -10000 ≤ hi ∧ hi ≤ 10000) (hw : ∀ x, wipe ((wipe σ vs).set j (some x)) vs = wipe σ vs)
    (ht : ∀ (i : Int) H1, Ex H H1 → 0 ≤ i → i < hi → EvT t ((wipe σ vs).set j (some (.int i))) H1 (f i)) (he : ∀ (i : Int) H1, Ex H H1 → 0 ≤ i → i < hi → f i = true → EvD K te ((wipe σ vs).set j (some (.int i))) H1 (g i)) :
    EvF K (tLc (iRng1 ta) (gName j) t te vs) σ H (((upTo 0 hi).filter f).map g) := fun H0 e Q q => h H0 e _ fun H1 e1 => ⟨hi, rfl, by omega, by omega, fun Dl hD =>
  lc_range (lo := 0) (n := hi.toNat) (fun i H' => Cd K H1 Dl ((((upTo 0 hi).take i).filter f).map g) H') ⟨hD, Ex.new hD, [], upd_same, .nil⟩ (fun i H' hi p => by
      have e3 := (e.trans e1).trans p.2.1
      exact ⟨hw _, cd_step p (by rw [upTo_len]; omega) (upTo_get (by omega)) (ht _ H' e3 (by omega) (by omega)) (fun hf => he _ H' e3 (by omega) (by omega) hf)⟩)
    (fun H' p => by
      obtain ⟨p1, p2, acc, p3, p4⟩ := p
      have e5 : (upTo 0 hi).take hi.toNat = upTo 0 hi := List.take_of_length_le (by rw [upTo_len]; omega)
      rw [e5] at p4
      exact q Dl acc H' (fresh_back e1 p1) (e1.trans p2) p3 p4)⟩
theorem et_yes : EvT tYes σ H true := fun H1 _ _ q => q H1 (Ex.refl H1)
theorem ev_chain {r r' : R2} {tc : TE} {a b : Bool} (ha : Ev ta σ H x) (hb : Ev tb σ H y) (hc : Ev tc σ H z) (h1 : RV r x y H (.bl a)) (h2 : RV r' y z H (.bl b)) : Ev (tChain r r' ta tb tc) σ H (.bl (a && b)) := fun H1 e Q q =>
  ha H1 e _ fun H2 e2 => hb H2 (e.trans e2) _ fun H3 e3 => h1 H3 ((e.trans e2).trans e3) _ fun H4 e4 => ⟨a, rfl, by
    cases a with
    | true => exact iteT (hc H4 (((e.trans e2).trans e3).trans e4) _ fun H5 e5 => h2 H5 ((((e.trans e2).trans e3).trans e4).trans e5) Q fun H6 e6 => q H6 ((((e2.trans e3).trans e4).trans e5).trans e6))
    | false => exact iteF (q H4 ((e2.trans e3).trans e4))⟩
/-- x or y, x a tuple -/
theorem ed_orT (ha : EvD K ta σ H (.tuple ds)) (hb : ds = [] → EvD K tb σ H d) (hd : ds ≠ [] → d = .tuple ds) : EvD K (tOrT K ta tb) σ H d := fun H1 e Q q =>
  ha H1 e _ fun v H2 e2 hv => by
    cases hv with
    | tup hs hx =>
      rename_i a xs
      refine ⟨!xs.isEmpty, .inr (.inl ⟨xs, hs, rfl⟩), ?_⟩
      cases xs with
      | nil =>
        cases hx
        exact iteF (hb rfl H2 (e.trans e2) Q fun w H3 e3 hw => q w H3 (e2.trans e3) hw)
      | cons x xs =>
        refine iteT ?_
        have hne : ds ≠ [] := fun z => by
          subst z
          cases hx
        refine q _ H2 e2 ?_
        rw [hd hne]
        exact .tup hs hx
theorem ev_isi {ty c : String} {b : Bool} (ha : Ev ta σ H v) (hb : Ev tb σ H (.ty c)) (ht : ∀ H1, Ex H H1 → TyX K H1 v (.type ty)) (hk : kitB ty c = some b) : Ev (tCB (rIsi K) (tCons ta (tCons tb tNil))) σ H (.bl b) := fun H1 e Q q =>
  ha H1 e _ fun H2 e2 => hb H2 (e.trans e2) _ fun H3 e3 => ⟨v, .ty c, .type ty, .type c, b, rfl, .ty c, ht H3 ((e.trans e2).trans e3), kit_ty hk, q H3 (e2.trans e3)⟩
theorem ty_int {i : Int} : ∀ H1, Ex H H1 → TyX K H1 (.int i) (.type "int") := fun _ _ => .base (.int i)
theorem ev_min2 {i j : Int} (ha : Ev ta σ H (.int i)) (hb : Ev tb σ H (.int j)) : Ev (tCB (fun xs H Q => ∃ i j, xs = [.int i, .int j] ∧ Q (.int (if j < i then j else i)) H) (tCons ta (tCons tb tNil))) σ H (.int (if j < i then j else i)) := fun H1 e Q q =>
  ha H1 e _ fun H2 e2 => hb H2 (e.trans e2) _ fun H3 e3 => ⟨i, j, rfl, q H3 (e2.trans e3)⟩
/-- a def that hands back a value and leaves the heap -/
def spV (pre : List V → Hp → Prop) (f : List V → V) : Sp := fun vs H Q _ => pre vs H ∧ ∀ H2, Ex H H2 → Q (f vs) H2
theorem ev_spv {pre : List V → Hp → Prop} {f : List V → V} {E : XK} {ta : TA} {vs : List V} (h : EvA ta σ H vs) (hp : ∀ H1, Ex H H1 → pre vs H1) : Ev (tCall (spV pre f) [] E ta) σ H (f vs) := fun H1 e Q q =>
  h H1 e _ fun H2 e2 => by
    show spV pre f (vs ++ []) H2 Q E
    rw [List.append_nil]
    exact ⟨hp H2 (e.trans e2), fun H3 e3 => q H3 (e2.trans e3)⟩
end
section
variable {K : PySem.W.Frag} {σ : L2.St} {H H' : Hp} {te : TE} {d : PyData} {ds : List PyData} {D : Ends} {tz tu : TS} {i : Nat}
theorem s_asgF (h : EvF K te σ H ds) (k : ∀ p xs H1, H p = none → Ex H H1 → H1 p = some (.lst xs) → DtAll K H1 xs ds → D.nx (σ.set i (some (.ref p))) H1) : tAsg te (gName i) D σ H := h H (Ex.refl H) _ k
theorem q_asgF (h : EvF K te σ H ds) (k : ∀ p xs H1, H p = none → Ex H H1 → H1 p = some (.lst xs) → DtAll K H1 xs ds → tz D (σ.set i (some (.ref p))) H1) : tSeq (tAsg te (gName i)) tz D σ H := h H (Ex.refl H) _ k
theorem s_asgD (h : EvD K te σ H d) (k : ∀ v H1, Ex H H1 → Dt K H1 v d → D.nx (σ.set i (some v)) H1) : tAsg te (gName i) D σ H := h H (Ex.refl H) _ k
theorem q_asgD (h : EvD K te σ H d) (k : ∀ v H1, Ex H H1 → Dt K H1 v d → tz D (σ.set i (some v)) H1) : tSeq (tAsg te (gName i)) tz D σ H := h H (Ex.refl H) _ k
theorem s_retF (h : EvF K te σ H ds) (k : ∀ p xs H1, H p = none → Ex H H1 → H1 p = some (.lst xs) → DtAll K H1 xs ds → D.rt (.ref p) H1) : tRet te D σ H := h H (Ex.refl H) _ k
theorem s_retD (h : EvD K te σ H d) (k : ∀ v H1, Ex H H1 → Dt K H1 v d → D.rt v H1) : tRet te D σ H := h H (Ex.refl H) _ k
end
/-! ### lots as lists of ints -/
def lotD (l : List Int) : PyData := .tuple (l.map PyData.int)
theorem lotD_ix {l : List Int} {i : Int} {x : Int} (h : atI l i = some x) : atI (l.map PyData.int) i = some (.int x) := by
  unfold atI at h ⊢
  rw [List.length_map]
  cases q : ixN l.length i with
  | none => rw [q] at h; cases h
  | some j =>
    rw [q] at h
    show (l.map PyData.int)[j]? = _
    rw [List.getElem?_map, show l[j]? = some x from h]
    rfl
theorem dt_lot {K : PySem.W.Frag} {H : Hp} {v : V} {l : List Int} (h : Dt K H v (lotD l)) : ∃ a, v = .ref a ∧ SqT K H a (l.map V.int) := by
  unfold lotD at h
  cases h with
  | tup hs hx =>
    rw [dta_ints_inv hx] at hs
    exact ⟨_, rfl, hs⟩
theorem lot_dt {K : PySem.W.Frag} {H : Hp} {a : Addr} {l : List Int} (h : SqT K H a (l.map V.int)) : Dt K H (.ref a) (lotD l) := .tup h (dta_ints l)
theorem inV_ints (x : Int) : ∀ l : List Int, inV (.int x) (l.map V.int) = l.contains x := by
  intro l
  induction l with
  | nil => rfl
  | cons y r ih =>
    have e : inV (.int x) ((y :: r).map V.int) = (eqV (.int y) (.int x) || inV (.int x) (r.map V.int)) := rfl
    rw [e, ih, List.contains_cons]
    have e2 : eqV (.int y) (.int x) = (x == y) := by
      show (y == x) = (x == y)
      exact Bool.beq_comm
    rw [e2]
theorem flat_ints : ∀ l : List Int, (l.map V.int).all flatV = true
  | [] => rfl
  | x :: r => by
    show (true && (r.map V.int).all flatV) = true
    rw [flat_ints r]
    rfl
theorem lastD (l : List Int) (hne : l ≠ []) : atI l (-1) = some (l.getLast hne) := by
  have e : l = l.dropLast ++ [l.getLast hne] := (List.dropLast_concat_getLast hne).symm
  have := atI_last l.dropLast (l.getLast hne)
  rw [← e] at this
  exact this
theorem units1 {k : Nat} {A : Around} (r : Room k A) : A.units + 65 < cLine := by
  have := r.un
  omega
def topS (i : Nat) : Stmt := PySem.Challenge.pw_curvefaces_k01_curves_known.main.body.getD i (.Pass ⟨0, 0, 0, 0⟩)
abbrev s_is_whole : Stmt := topS 1
abbrev N_is_whole : List Str := ["thing"]
theorem sc_is_whole : FnScope N_is_whole ["thing"] (defScope s_is_whole) := ⟨rfl, rfl, rfl, by decide +kernel, rfl, by decide +kernel, by decide +kernel⟩
abbrev s_is_curve : Stmt := topS 5
abbrev N_is_curve : List Str := ["thing", "many", "deep"]
theorem sc_is_curve : FnScope N_is_curve ["thing"] (defScope s_is_curve) := ⟨rfl, rfl, rfl, by decide +kernel, rfl, by decide +kernel, by decide +kernel⟩
abbrev s__law_box : Stmt := topS 7
abbrev N__law_box : List Str := ["_law_script", "_law_k", "_law_here", "_law_number", "_law_j", "_law_part"]
theorem sc__law_box : FnScope N__law_box ["_law_script", "_law_k"] (defScope s__law_box) := ⟨rfl, rfl, rfl, by decide +kernel, rfl, by decide +kernel, by decide +kernel⟩
abbrev s__law_more : Stmt := topS 8
abbrev N__law_more : List Str := ["_law_box_here", "_law_number", "_law_j"]
theorem sc__law_more : FnScope N__law_more ["_law_box_here"] (defScope s__law_more) := ⟨rfl, rfl, rfl, by decide +kernel, rfl, by decide +kernel, by decide +kernel⟩
abbrev s__law_take : Stmt := topS 9
abbrev N__law_take : List Str := ["_law_box_here", "_law_wide", "_law_rest_of", "_law_digit"]
theorem sc__law_take : FnScope N__law_take ["_law_box_here", "_law_wide"] (defScope s__law_take) := ⟨rfl, rfl, rfl, by decide +kernel, rfl, by decide +kernel, by decide +kernel⟩
abbrev s__law_curve : Stmt := topS 10
abbrev N__law_curve : List Str := ["_law_box_here", "_law_deep"]
theorem sc__law_curve : FnScope N__law_curve ["_law_box_here"] (defScope s__law_curve) := ⟨rfl, rfl, rfl, by decide +kernel, rfl, by decide +kernel, by decide +kernel⟩
abbrev s__law_is : Stmt := topS 11
abbrev N__law_is : List Str := ["_law_thing", "_law_one"]
theorem sc__law_is : FnScope N__law_is ["_law_thing"] (defScope s__law_is) := ⟨rfl, rfl, rfl, by decide +kernel, rfl, by decide +kernel, by decide +kernel⟩
abbrev s__law_right : Stmt := topS 12
abbrev N__law_right : List Str := ["_law_thing", "_law_held", "_law_found"]
theorem sc__law_right : FnScope N__law_right ["_law_thing"] (defScope s__law_right) := ⟨rfl, rfl, rfl, by decide +kernel, rfl, by decide +kernel, by decide +kernel⟩
abbrev s_law : Stmt := topS 13
abbrev N_law : List Str := ["_law_script", "_law_many", "_law_deep", "_law_k", "_law_box_here", "_law_odd", "_law_curve_here", "_law_some", "_law_thing"]
theorem sc_law : FnScope N_law ["_law_script"] (defScope s_law) := ⟨rfl, rfl, rfl, by decide +kernel, rfl, by decide +kernel, by decide +kernel⟩
/-- the built-ins that the text uses are the built-ins -/
structure Bt (mg : Str → Option Value) : Prop where
  isinstance_ : mg "isinstance" = none
  int_ : mg "int" = none
  bool_ : mg "bool" = none
  tuple_ : mg "tuple" = none
  len_ : mg "len" = none
  range_ : mg "range" = none
  abs_ : mg "abs" = none
  divmod_ : mg "divmod" = none
  repr_ : mg "repr" = none
  max_ : mg "max" = none
  min_ : mg "min" = none
  list_ : mg "list" = none
/-- a def of the text: where it stands, its name, how its arguments bind -/
structure Df (K : PySem.W.Frag) (mg : Str → Option Value) (x : Str) (st : Stmt) (ps : List Str) (f : Addr) (fd : FuncData) : Prop where
  F : Fun K x x st f fd
  g : mg x = some (.ref f)
  b : Binds K fd ps []
section
variable {P : Program} {w : World} {K : PySem.W.Frag} {mg : Str → Option Value} {base : Heap}
/-! ### the law's box -/
def BoxAt (H : Hp) (b : Addr) : Prop := ∃ n d : Int, H b = some (.lst [.int n, .int d])
/-- all that was tracked but b is as it was -/
def Bx (b : Addr) (H H' : Hp) : Prop := ∀ c o, c ≠ b → H c = some o → H' c = some o
theorem Bx.refl (b : Addr) (H : Hp) : Bx b H H := fun _ _ _ h => h
theorem Bx.trans {b : Addr} {H H1 H2 : Hp} (x : Bx b H H1) (y : Bx b H1 H2) : Bx b H H2 := fun c o n h => y c o n (x c o n h)
theorem bx_ex {b : Addr} {H H' : Hp} (e : Ex H H') : Bx b H H' := fun c o _ h => e c o h
theorem bx_set {b : Addr} {H H' : Hp} {o : HO} (e : Bx b H H') : Bx b H (upd H' b o) := fun c u n h => by
  rw [upd_ne n]
  exact e c u n h
theorem bx_tx {b : Addr} {H H' : Hp} {xs : List V} (e : Bx b H H') (h : H b = some (.lst xs)) : Tx H H' := fun a u r => by
  have n : a ≠ b := fun z => by
    subst z
    rcases r with r | ⟨o, r⟩ <;> (rw [h] at r; cases r)
  rcases r with r | ⟨o, r⟩
  · exact .inl (e a _ n r)
  · exact .inr ⟨o, e a _ n r⟩
theorem BoxAt.ex {H H' : Hp} {b : Addr} (e : Ex H H') (h : BoxAt H b) : BoxAt H' b := by
  obtain ⟨n, d, h⟩ := h
  exact ⟨n, d, e b _ h⟩
def spBox (K : PySem.W.Frag) : Sp := fun vs H Q _ => ∃ (a : Addr) (ns : List Int) (k : Int), vs = [.ref a, .int k] ∧ SqL K H a (ns.map V.int) ∧ 0 ≤ k ∧ k < 1000 ∧ ∀ p H2, H p = none → Ex H H2 → BoxAt H2 p → Q (.ref p) H2
theorem emod_in (x : Int) {m : Int} (h : 0 < m) : 0 ≤ x % m ∧ x % m < m := ⟨Int.emod_nonneg _ (by omega), Int.emod_lt_of_pos _ h⟩
theorem cm_r {i j : Int} (h1 : -(2 ^ 64) < j) (h2 : j < 2 ^ 64) : CMul i j := .inr ⟨h1, h2⟩
theorem cm_l {i j : Int} (h1 : -(2 ^ 64) < i) (h2 : i < 2 ^ 64) : CMul i j := .inl ⟨h1, h2⟩
theorem ev_abs {te : TE} {σ : L2.St} {H : Hp} {i : Int} (h : Ev te σ H (.int i)) : Ev (tCB (fun xs H Q => ∃ i, xs = [.int i] ∧ Q (.int (if i < 0 then -i else i)) H) (tCons te tNil)) σ H (.int (if i < 0 then -i else i)) := fun H1 e _ q =>
  h H1 e _ fun H2 e2 => ⟨i, rfl, q H2 e2⟩
theorem ok_box {f : Addr} {fd : FuncData} {k : Nat} (D : Df K mg "_law_box" s__law_box ["_law_script", "_law_k"] f fd) (B : Bt mg) : FnOk P w K mg base CX0 (k + 1) f fd ["_law_script", "_law_k"] (spBox K) := by
  refine D.F.ok sc__law_box (fun vs H Q E h => ?_) (fun cdv A outer s H vs Q E hr h => ?_)
  · obtain ⟨a, ns, k, rfl, _⟩ := h
    rfl
  · obtain ⟨a, ns, j, rfl, hS, k0, k1, q⟩ := h
    refine ⟨_, (pss_cons (ps_set (i := 2) sc__law_box.nd rfl (.inl rfl) (pe_op op_add (pe_op op_mul pe_int (pv 1)) pe_int))  (pss_cut (ps_if (pt_cmpR op_lt (pv 1) (pe_callB (show CallR _ _ (rLenS K) from call_len_seq) (by rfl) B.len_ (by decide +kernel) (pa_cons (pv 0) pa_nil)) (nomark _))   (pss_one (ps_set (i := 2) sc__law_box.nd rfl (.inl rfl) (pe_ix (show IxR _ (rIxL K) from ix_list) (pv 0) (pv 1) (fun _ _ => rfl))))   pss_nil)  (pss_cons (ps_if (pt_cmpR op_eq (pe_op op_mod (pv 2) pe_int) pe_int (nomark _))   (pss_one (ps_ret (pe_lst (pa_cons (pe_op op_fdiv (pv 2) pe_int) (pa_cons (pe_op op_mod (pe_callB call_abs (by rfl) B.abs_ (by decide +kernel) (pa_cons (pv 2) pa_nil)) pe_int) pa_nil)))))   pss_nil)  (pss_cons (ps_set (i := 3) sc__law_box.nd rfl (.inl rfl) pe_int)  (pss_cons (ps_for PassesOwn.never rfl (pi_range1 (by rfl) B.range_ (pa_cons pe_int pa_nil)) (pg_name (i := 4) sc__law_box.nd rfl (.inl rfl))   (pss_cons (ps_set (i := 5) sc__law_box.nd rfl (.inl rfl) (pe_op op_mod (pe_op op_add (pe_op op_add (pe_op op_mul (pe_op op_mod (pv 2) pe_int) pe_int) (pe_op op_mul pe_int (pv 4))) pe_int) pe_int))  (pss_cons (ps_set (i := 5) sc__law_box.nd rfl (.inl rfl) (pe_op op_mod (pe_op op_mul (pv 5) (pv 5)) pe_int))  (pss_one (ps_set (i := 3) sc__law_box.nd rfl (.inl rfl) (pe_op op_add (pe_op op_mul (pv 3) pe_int) (pe_op op_mod (pe_op op_mul (pv 5) (pe_op op_add (pv 5) pe_int)) pe_int)))))))  (pss_one (ps_ret (pe_lst (pa_cons (pv 3) (pa_cons (pe_op op_mod (pe_callB call_abs (by rfl) B.abs_ (by decide +kernel) (pa_cons (pv 2) pa_nil)) pe_int) pa_nil)))))))))), ?_⟩
    refine q_asg (v := .int (7919 * j + 13)) (ev_op (ev_op ev_c (ev_var rfl) (rv_I (cm_l (by decide) (by decide)))) ev_c rv_I0) fun H1 e1 => ?_
    refine q_cut (M := fun σ' H' => ∃ h : Int, σ' = [some (.ref a), some (.int j), some (.int h), none, none, none] ∧ Ex H H') ?_ ?_
    · refine s_when (et_test (ev_op (ev_var rfl) (ev_len (ev_var rfl) (ex_l e1 hS)) rv_I0)) (fun hb H2 e2 => ?_) (fun hb H2 e2 => ⟨_, rfl, e1.trans e2⟩)
      have hlt : j < ((ns.map V.int).length : Int) := of_decide_eq_true hb
      obtain ⟨m, rfl⟩ : ∃ m : Nat, j = (m : Int) := ⟨j.toNat, by omega⟩
      have hm : m < ns.length := by rw [List.length_map] at hlt; omega
      refine s_asg (v := .int ns[m]) (ev_op (ev_var rfl) (ev_var rfl) (rv_ixL (ex_l (e1.trans e2) hS) (atI_nat ?_))) fun H3 e3 => ⟨_, rfl, (e1.trans e2).trans e3⟩
      rw [List.getElem?_map, List.getElem?_eq_getElem hm]
      rfl
    · rintro σ' H2 ⟨x, rfl, e2⟩
      refine q_when (et_test (ev_op (ev_op (ev_var rfl) ev_c (rv_I (by show (0 : Int) < 2; decide))) ev_c (rv_eq rfl))) (fun _ H3 e3 => ?_) (fun _ H3 e3 => ?_)
      · refine s_retL (el_lst (ea_cons (ev_op (ev_var rfl) ev_c (rv_I ⟨by decide, by decide⟩)) (ea_cons (ev_op (ev_abs (ev_var rfl)) ev_c (rv_I (by show (0 : Int) < 2147483647; decide))) ea_nil)) (by show 2 ≤ 100000; decide)) fun p H4 np e4 hp => ?_
        exact q p H4 (fresh_back (e2.trans e3) np) ((e2.trans e3).trans e4) ⟨_, _, hp⟩
      · refine q_asg (v := .int 0) ev_c fun H4 e4 => ?_
        refine q_forR1 (n := 16) (ea_cons ev_c ea_nil) (by decide) (fun _ σ' H' => ∃ (n : Int) (y4 y5 : Option V), σ' = [some (.ref a), some (.int j), some (.int x), some (.int n), y4, y5] ∧ Ex H H')
          (fun H5 e5 => ⟨_, _, _, rfl, ((e2.trans e3).trans e4).trans e5⟩) ?_ ?_
        · rintro i σ' H' _ ⟨n, y4, y5, rfl, e5⟩
          have m1 := emod_in (x % 2147483647 * 48271 + 7919 * (i : Int) + 1) (m := 2147483647) (by decide)
          refine q_asg (v := .int ((x % 2147483647 * 48271 + 7919 * (i : Int) + 1) % 2147483647)) (ev_op (ev_op (ev_op (ev_op (ev_op (ev_var rfl) ev_c (rv_I (by show (0 : Int) < 2147483647; decide))) ev_c (rv_I (cm_r (by decide) (by decide)))) (ev_op ev_c (ev_var rfl) (rv_I (cm_l (by decide) (by decide)))) rv_I0) ev_c rv_I0) ev_c (rv_I (by show (0 : Int) < 2147483647; decide))) fun H6 e6 => ?_
          generalize (x % 2147483647 * 48271 + 7919 * (i : Int) + 1) % 2147483647 = y at m1 ⊢
          have m2 := emod_in (y * y) (m := 2147483629) (by decide)
          refine q_asg (v := .int (y * y % 2147483629)) (ev_op (ev_op (ev_var rfl) (ev_var rfl) (rv_I (cm_l (by omega) (by omega)))) ev_c (rv_I (by show (0 : Int) < 2147483629; decide))) fun H7 e7 => ?_
          generalize y * y % 2147483629 = z at m2 ⊢
          refine s_asg (v := .int (n * 2147483647 + z * (z + 13) % 2147483647)) (ev_op (ev_op (ev_var rfl) ev_c (rv_I (cm_r (by decide) (by decide)))) (ev_op (ev_op (ev_var rfl) (ev_op (ev_var rfl) ev_c rv_I0) (rv_I (cm_l (by omega) (by omega)))) ev_c (rv_I (by show (0 : Int) < 2147483647; decide))) rv_I0) fun H8 e8 => ?_
          exact ⟨_, _, _, rfl, ((e5.trans e6).trans e7).trans e8⟩
        · rintro σ' H' ⟨n, y4, y5, rfl, e5⟩
          refine s_retL (el_lst (ea_cons (ev_var rfl) (ea_cons (ev_op (ev_abs (ev_var rfl)) ev_c (rv_I (by show (0 : Int) < 2147483647; decide))) ea_nil)) (by show 2 ≤ 100000; decide)) fun p H6 np e6 hp => ?_
          exact q p H6 (fresh_back e5 np) (e5.trans e6) ⟨_, _, hp⟩
def spMore : Sp := fun vs H Q _ => ∃ (b : Addr) (n d : Int), vs = [.ref b] ∧ H b = some (.lst [.int n, .int d]) ∧ ∀ m d' H2, H2 b = some (.lst [.int n, .int d']) → Bx b H H2 → Q (.int m) H2
theorem ok_more {f : Addr} {fd : FuncData} {k : Nat} (D : Df K mg "_law_more" s__law_more ["_law_box_here"] f fd) (B : Bt mg) : FnOk P w K mg base CX0 (k + 1) f fd ["_law_box_here"] spMore := by
  refine D.F.ok sc__law_more (fun vs H Q E h => ?_) (fun cdv A outer s H vs Q E hr h => ?_)
  · obtain ⟨b, n, d, rfl, _⟩ := h
    rfl
  · obtain ⟨b, n, d, rfl, hb, q⟩ := h
    refine ⟨_, (pss_cons (ps_set (i := 1) sc__law_more.nd rfl (.inl rfl) pe_int)  (pss_cons (ps_for PassesOwn.never rfl (pi_range1 (by rfl) B.range_ (pa_cons pe_int pa_nil)) (pg_name (i := 2) sc__law_more.nd rfl (.inl rfl))   (pss_cons (ps_asg (pe_op op_mod (pe_op op_add (pe_op op_mul (pe_ix (show IxR _ (rIxL K) from ix_list) (pv 0) pe_int (fun _ _ => rfl)) pe_int) pe_int) pe_int) (pg_sub (pv 0) pe_int set_list))  (pss_one (ps_set (i := 1) sc__law_more.nd rfl (.inl rfl) (pe_op op_add (pe_op op_mul (pv 1) pe_int) (pe_op op_mod (pe_op op_fdiv (pe_ix (show IxR _ (rIxL K) from ix_list) (pv 0) pe_int (fun _ _ => rfl)) pe_int) pe_int))))))  (pss_one (ps_ret (pv 1))))), ?_⟩
    refine q_asg (v := .int 0) ev_c fun H1 e1 => ?_
    refine q_forR1 (n := 12) (ea_cons ev_c ea_nil) (by decide) (fun _ σ' H' => ∃ (m d' : Int) (y : Option V), σ' = [some (.ref b), some (.int m), y] ∧ H' b = some (.lst [.int n, .int d']) ∧ Bx b H H')
      (fun H2 e2 => ⟨_, _, _, rfl, e2 b _ (e1 b _ hb), bx_ex (e1.trans e2)⟩) ?_ ?_
    · rintro i σ' H' _ ⟨m, d', y, rfl, hb', x'⟩
      refine q_setL (j := 1) hb' (v := .int ((d' * 48271 + 30269) % 2147483647)) (ev_op (ev_op (ev_op (ev_op (ev_var rfl) ev_c (rv_ixL (v := .int d') (sq_of hb') rfl)) ev_c (rv_I (cm_r (by decide) (by decide)))) ev_c rv_I0) ev_c (rv_I (by show (0 : Int) < 2147483647; decide))) (ev_var rfl) ev_c (by show 1 < 2; decide) fun H2 e2 => ?_
      generalize (d' * 48271 + 30269) % 2147483647 = z
      have hb2 : upd H2 b (.lst ([V.int n, V.int d'].set 1 (.int z))) b = some (.lst [.int n, .int z]) := upd_same
      refine s_asg (v := .int (m * 65521 + z / 7 % 65521)) (ev_op (ev_op (ev_var rfl) ev_c (rv_I (cm_r (by decide) (by decide)))) (ev_op (ev_op (ev_op (ev_var rfl) ev_c (rv_ixL (v := .int z) (sq_of hb2) rfl)) ev_c (rv_I ⟨by decide, by decide⟩)) ev_c (rv_I (by show (0 : Int) < 65521; decide))) rv_I0) fun H3 e3 => ?_
      exact ⟨_, _, _, rfl, e3 b _ hb2, (bx_set (x'.trans (bx_ex e2))).trans (bx_ex e3)⟩
    · rintro σ' H' ⟨m, d', y, rfl, hb', x'⟩
      exact s_ret (ev_var rfl) fun H2 e2 => q m d' H2 (e2 b _ hb') (x'.trans (bx_ex e2))
def spTake : Sp := fun vs H Q _ => ∃ (b : Addr) (wd : Int), vs = [.ref b, .int wd] ∧ BoxAt H b ∧ 0 < wd ∧ wd < 1073741824 ∧ ∀ r H2, 0 ≤ r → r < wd → BoxAt H2 b → Bx b H H2 → Q (.int r) H2
theorem ok_take {f fm : Addr} {fd fdm : FuncData} {k : Nat} (D : Df K mg "_law_take" s__law_take ["_law_box_here", "_law_wide"] f fd) (D__law_more : Df K mg "_law_more" s__law_more ["_law_box_here"] fm fdm) (B : Bt mg) : FnOk P w K mg base CX0 (k + 2) f fd ["_law_box_here", "_law_wide"] spTake := by
  have G__law_more : FnOk P w K mg base CX0 (k + 1) fm fdm ["_law_box_here"] spMore := ok_more D__law_more B
  refine D.F.ok sc__law_take (fun vs H Q E h => ?_) (fun cdv A outer s H vs Q E hr h => ?_)
  · obtain ⟨b, n, rfl, _⟩ := h
    rfl
  · obtain ⟨b, wd, rfl, ⟨n, d, hb⟩, w0, w1, q⟩ := h
    refine ⟨_, (pss_cut (ps_if (pt_chain op_le op_lt pe_int (pe_ix (show IxR _ (rIxL K) from ix_list) (pv 0) pe_int (fun _ _ => rfl)) (pv 1))   (pss_one (ps_asg (pe_op op_add (pe_ix (show IxR _ (rIxL K) from ix_list) (pv 0) pe_int (fun _ _ => rfl)) (pe_op op_mul (pv 1) (pe_call G__law_more (hr.mono (by omega)) (by rfl) D__law_more.g D__law_more.F.kp D__law_more.b .nil pass0 (pa_cons (pv 0) pa_nil)))) (pg_sub (pv 0) pe_int set_list)))   pss_nil)  (pss_cons (ps_asg (pe_callB call_divmod (by rfl) B.divmod_ (by decide +kernel) (pa_cons (pe_ix (show IxR _ (rIxL K) from ix_list) (pv 0) pe_int (fun _ _ => rfl)) (pa_cons (pv 1) pa_nil))) (pg_tup (by rfl) (pgs_cons (pg_name (i := 2) sc__law_take.nd rfl (.inl rfl)) (pgs_cons (pg_name (i := 3) sc__law_take.nd rfl (.inl rfl)) pgs_nil))))  (pss_cons (ps_asg (pv 2) (pg_sub (pv 0) pe_int set_list))  (pss_one (ps_ret (pv 3)))))), ?_⟩
    refine q_cut (M := fun σ' H' => σ' = [some (.ref b), some (.int wd), none, none] ∧ (∃ n d : Int, H' b = some (.lst [.int n, .int d])) ∧ Bx b H H') ?_ ?_
    · refine s_when (et_test (ev_chain ev_c (ev_op (ev_var rfl) ev_c (rv_ixL (v := .int n) (sq_of hb) rfl)) (ev_var rfl) rv_I0 rv_I0)) (fun _ H1 e1 => ?_) (fun _ H1 e1 => ⟨rfl, ⟨_, _, e1 b _ hb⟩, bx_ex e1⟩)
      · have hb1 := e1 b _ hb
        refine ⟨_, rfl, b, _, 0, .int n, rfl, rfl, sq_of hb1, rfl, _, rfl, _, rfl, b, n, d, rfl, hb1, fun m d' H2 hb2 x2 => ?_⟩
        refine ⟨wd, m, rfl, rfl, cm_l (by omega) (by omega), n, wd * m, rfl, rfl, _, rfl, b, _, 0, 0, rfl, rfl, hb2, rfl, ?_⟩
        exact ⟨rfl, ⟨_, _, upd_same⟩, bx_set ((bx_ex e1).trans x2)⟩
    · rintro σ' H' ⟨rfl, ⟨n, d, hb'⟩, x'⟩
      refine ⟨_, rfl, b, _, 0, .int n, rfl, rfl, sq_of hb', rfl, _, rfl, n, wd, rfl, ⟨w0, w1⟩, fun p hp => ?_⟩
      have nb : b ≠ p := ne_of_none hb' hp
      refine ⟨p, _, rfl, st_of upd_same, rfl, _, _, rfl, _, _, rfl, rfl, ?_⟩
      refine ⟨_, rfl, _, rfl, b, _, 0, 0, rfl, rfl, (by rw [upd_ne nb]; exact hb'), rfl, ?_⟩
      refine ⟨_, rfl, ?_⟩
      have m1 := emod_in n w0
      exact q _ _ m1.1 m1.2 ⟨_, _, upd_same⟩ (bx_set (x'.trans (bx_ex (Ex.new hp))))
end
/-! ### what changes the box alone -/
structure Bk (b : Addr) (H H' : Hp) : Prop where
  bx : Bx b H H'
  tx : Tx H H'
theorem Bk.trans {b : Addr} {H H1 H2 : Hp} (x : Bk b H H1) (y : Bk b H1 H2) : Bk b H H2 := ⟨x.bx.trans y.bx, x.tx.trans y.tx⟩
theorem bk_ex {b : Addr} {H H' : Hp} (e : Ex H H') : Bk b H H' := ⟨bx_ex e, tx_of e⟩
theorem Bk.refl (b : Addr) (H : Hp) : Bk b H H := bk_ex (Ex.refl H)
theorem bk_of {b : Addr} {H H' : Hp} (h : BoxAt H b) (x : Bx b H H') : Bk b H H' := by
  obtain ⟨_, _, h⟩ := h
  exact ⟨x, bx_tx x h⟩
theorem ex_bx {b : Addr} {Hs H H' : Hp} (e : Ex Hs H) (x : Bk b H H') (n : Hs b = none) : Ex Hs H' := fun c o h => x.bx c o (ne_of_none h n) (e c o h)
theorem box_ne {H : Hp} {p b : Addr} (hb : BoxAt H b) (n : H p = none) : p ≠ b := by
  obtain ⟨_, _, hb⟩ := hb
  exact ne_free hb n
def EvK (K : PySem.W.Frag) (b : Addr) (te : TE) (σ : L2.St) (H : Hp) (p : PyData → Prop) : Prop := ∀ Q : VK, (∀ v d H2, p d → Dt K H2 v d → BoxAt H2 b → Bk b H H2 → Q v H2) → te σ H Q
section
variable {K : PySem.W.Frag} {b : Addr} {σ : L2.St} {H H' : Hp} {ta tb te tl : TE} {p p' : PyData → Prop} {d : PyData} {ds : List PyData} {D : Ends} {tz tu : TS} {i : Nat}
theorem ek_of (h : EvD K te σ H d) (hb : BoxAt H b) : EvK K b te σ H (fun e => e = d) := fun Q q => h H (Ex.refl H) Q fun v H2 e2 hv => q v d H2 rfl hv (hb.ex e2) (bk_ex e2)
theorem ek_mono (h : EvK K b te σ H p) (hp : ∀ d, p d → p' d) : EvK K b te σ H p' := fun Q q => h Q fun v d H2 h1 => q v d H2 (hp d h1)
theorem ek_take {j : Nat} {wd : Int} {E : XK} (hj : σ[j]? = some (some (.ref b))) (hb : BoxAt H b) (hw : Ev ta σ H (.int wd)) (w0 : 0 < wd) (w1 : wd < 1073741824) : EvK K b (tCall spTake [] E (tCons (tVar j) (tCons ta tNil))) σ H (fun d => ∃ r, d = .int r ∧ 0 ≤ r ∧ r < wd) := fun Q q =>
  ⟨_, hj, hw H (Ex.refl H) _ fun H2 e2 => ⟨b, wd, rfl, hb.ex e2, w0, w1, fun r H3 r0 r1 hb3 x3 => q _ (.int r) H3 ⟨r, rfl, r0, r1⟩ (.int r) hb3 ((bk_ex e2).trans (bk_of (hb.ex e2) x3))⟩⟩
/-- [..][take] -/
theorem ek_menu (hl : EvF K tl σ H ds) (hb : BoxAt H b) (hi : ∀ H', Ex H H' → BoxAt H' b → EvK K b ta σ H' (fun d => ∃ r : Int, d = .int r ∧ 0 ≤ r ∧ r < (ds.length : Int))) : EvK K b (tOp (rIxL K) tl ta) σ H (fun d => d ∈ ds) := fun Q q =>
  hl H (Ex.refl H) _ fun p xs H1 np e1 hp hx => hi H1 e1 (hb.ex e1) _ fun v d H2 hr hv hb2 x2 => by
    obtain ⟨r, rfl, r0, r1⟩ := hr
    cases hv
    obtain ⟨m, rfl⟩ : ∃ m : Nat, r = (m : Int) := ⟨r.toNat, by omega⟩
    have hm : m < ds.length := by omega
    obtain ⟨w, hw, hd⟩ := dta_get' (dta_tx x2.tx hx) (List.getElem?_eq_getElem hm)
    exact ⟨p, xs, (m : Int), w, rfl, rfl, sq_of (x2.bx p _ (box_ne hb np) hp), atI_nat hw, q w _ H2 (List.getElem_mem hm) hd hb2 ((bk_ex e1).trans x2)⟩
/-- i op take -/
theorem ek_opI {f : Int → Int → Int} {x : Int} {pr : Int → Prop} (ha : Ev ta σ H (.int x)) (hb : ∀ H', Ex H H' → EvK K b tb σ H' (fun d => ∃ r, d = .int r ∧ pr r)) : EvK K b (tOp (rI0 fun i j => .int (f i j)) ta tb) σ H (fun d => ∃ r, d = .int (f x r) ∧ pr r) := fun Q q =>
  ha H (Ex.refl H) _ fun H2 e2 => hb H2 e2 _ fun v d H3 hr hv hb3 x3 => by
    obtain ⟨r, rfl, hr⟩ := hr
    cases hv
    exact ⟨x, r, rfl, rfl, q _ _ H3 ⟨r, rfl, hr⟩ (.int _) hb3 ((bk_ex e2).trans x3)⟩
theorem q_asgK (h : EvK K b te σ H p) (k : ∀ v d H2, p d → Dt K H2 v d → BoxAt H2 b → Bk b H H2 → tz D (σ.set i (some v)) H2) : tSeq (tAsg te (gName i)) tz D σ H := h _ k
theorem s_asgK (h : EvK K b te σ H p) (k : ∀ v d H2, p d → Dt K H2 v d → BoxAt H2 b → Bk b H H2 → D.nx (σ.set i (some v)) H2) : tAsg te (gName i) D σ H := h _ k
/-- a box made -/
theorem q_box {a : Addr} {ns : List Int} {x : Int} {E : XK} (ha : Ev ta σ H (.ref a)) (hS : SqL K H a (ns.map V.int)) (hk : Ev tb σ H (.int x)) (x0 : 0 ≤ x) (x1 : x < 1000) (h : ∀ p H2, H p = none → Ex H H2 → BoxAt H2 p → tz D (σ.set i (some (.ref p))) H2) : tSeq (tAsg (tCall (spBox K) [] E (tCons ta (tCons tb tNil))) (gName i)) tz D σ H :=
  ha H (Ex.refl H) _ fun H1 e1 => hk H1 e1 _ fun H2 e2 => ⟨a, ns, x, rfl, ex_l (e1.trans e2) hS, x0, x1, fun p H3 np e3 hb => h p H3 (fresh_back (e1.trans e2) np) ((e1.trans e2).trans e3) hb⟩
/-! loops over a list made on the way -/
/-- nothing changes but new things -/
theorem s_forF {g : TG} (h : EvF K tl σ H ds) (Pv : Nat → L2.St → Hp → Prop) (h0 : ∀ H1, Ex H H1 → Pv 0 σ H1)
    (hs : ∀ H1 i x d σ' H', Ex H H1 → Ex H1 H' → ds[i]? = some d → Dt K H' x d → Pv i σ' H' → g x σ' H' fun σ2 H2 => tu { D with nx := fun σ3 H3 => Ex H1 H3 ∧ Pv (i + 1) σ3 H3, ct := fun σ3 H3 => Ex H1 H3 ∧ Pv (i + 1) σ3 H3, bk := D.nx } σ2 H2)
    (hd : ∀ σ' H', Ex H H' → Pv ds.length σ' H' → D.nx σ' H') : tFor (iList K tl) g tu D σ H :=
  h H (Ex.refl H) _ fun p xs H1 np e1 hp hx => ⟨p, rfl, ⟨xs, sq_of hp⟩, for_list (xs := xs) (fun i σ' H' => Ex H1 H' ∧ Pv i σ' H') ⟨Ex.refl _, h0 H1 e1⟩ (fun i σ' H' _ hw => sq_of (hw.1 p _ hp)) (fun i x σ' H' hi hw => by
      obtain ⟨d, h1, h2⟩ := dta_get (dta_ex hw.1 hx) hi
      exact hs H1 i x d σ' H' e1 hw.1 h1 h2 hw.2) (fun σ' H' hw => hd σ' H' (e1.trans hw.1) (by rw [← dta_len hx]; exact hw.2))⟩
theorem q_forF {g : TG} (h : EvF K tl σ H ds) (Pv : Nat → L2.St → Hp → Prop) (h0 : ∀ H1, Ex H H1 → Pv 0 σ H1)
    (hs : ∀ H1 i x d σ' H', Ex H H1 → Ex H1 H' → ds[i]? = some d → Dt K H' x d → Pv i σ' H' → g x σ' H' fun σ2 H2 => tu { D with nx := fun σ3 H3 => Ex H1 H3 ∧ Pv (i + 1) σ3 H3, ct := fun σ3 H3 => Ex H1 H3 ∧ Pv (i + 1) σ3 H3, bk := tz D } σ2 H2)
    (hd : ∀ σ' H', Ex H H' → Pv ds.length σ' H' → tz D σ' H') : tSeq (tFor (iList K tl) g tu) tz D σ H := s_forF (D := { D with nx := tz D }) h Pv h0 hs hd
/-- the box changes, too -/
theorem s_forFB {g : TG} (h : EvF K tl σ H ds) (hb : BoxAt H b) (Pv : Nat → L2.St → Hp → Prop) (h0 : ∀ H1, Ex H H1 → Pv 0 σ H1)
    (hs : ∀ H1 i x d σ' H', Ex H H1 → Bk b H1 H' → BoxAt H' b → ds[i]? = some d → Dt K H' x d → Pv i σ' H' → g x σ' H' fun σ2 H2 => tu { D with nx := fun σ3 H3 => Bk b H1 H3 ∧ BoxAt H3 b ∧ Pv (i + 1) σ3 H3, ct := fun σ3 H3 => Bk b H1 H3 ∧ BoxAt H3 b ∧ Pv (i + 1) σ3 H3, bk := D.nx } σ2 H2)
    (hd : ∀ σ' H', Bk b H H' → BoxAt H' b → Pv ds.length σ' H' → D.nx σ' H') : tFor (iList K tl) g tu D σ H :=
  h H (Ex.refl H) _ fun p xs H1 np e1 hp hx => ⟨p, rfl, ⟨xs, sq_of hp⟩, for_list (xs := xs) (fun i σ' H' => Bk b H1 H' ∧ BoxAt H' b ∧ Pv i σ' H') ⟨Bk.refl _ _, hb.ex e1, h0 H1 e1⟩ (fun i σ' H' _ hw => sq_of (hw.1.bx p _ (box_ne hb np) hp)) (fun i x σ' H' hi hw => by
      obtain ⟨d, h1, h2⟩ := dta_get (dta_tx hw.1.tx hx) hi
      exact hs H1 i x d σ' H' e1 hw.1 hw.2.1 h1 h2 hw.2.2) (fun σ' H' hw => hd σ' H' ((bk_ex e1).trans hw.1) hw.2.1 (by rw [← dta_len hx]; exact hw.2.2))⟩
theorem q_forFB {g : TG} (h : EvF K tl σ H ds) (hb : BoxAt H b) (Pv : Nat → L2.St → Hp → Prop) (h0 : ∀ H1, Ex H H1 → Pv 0 σ H1)
    (hs : ∀ H1 i x d σ' H', Ex H H1 → Bk b H1 H' → BoxAt H' b → ds[i]? = some d → Dt K H' x d → Pv i σ' H' → g x σ' H' fun σ2 H2 => tu { D with nx := fun σ3 H3 => Bk b H1 H3 ∧ BoxAt H3 b ∧ Pv (i + 1) σ3 H3, ct := fun σ3 H3 => Bk b H1 H3 ∧ BoxAt H3 b ∧ Pv (i + 1) σ3 H3, bk := tz D } σ2 H2)
    (hd : ∀ σ' H', Bk b H H' → BoxAt H' b → Pv ds.length σ' H' → tz D σ' H') : tSeq (tFor (iList K tl) g tu) tz D σ H := s_forFB (D := { D with nx := tz D }) h hb Pv h0 hs hd
/-- how many cells are read -/
theorem ev_cells {a : Addr} {ns : List Int} {c : Int} (h : Ev ta σ H (.ref a)) (hS : SqL K H a (ns.map V.int)) (c0 : 1 ≤ c) : ∃ n : Int, 1 ≤ n ∧ n ≤ c ∧ Ev (tCB rMax2 (tCons (tC (.int 1)) (tCons (tCB (fun xs H Q => ∃ i j, xs = [.int i, .int j] ∧ Q (.int (if j < i then j else i)) H) (tCons (tCB (rLenS K) (tCons ta tNil)) (tCons (tC (.int c)) tNil))) tNil))) σ H (.int n) := by
  refine ⟨_, ?_, ?_, ev_max2 ev_c (ev_min2 (ev_len h hS) ev_c)⟩
  · split <;> split <;> omega
  · split <;> split <;> omega
end
def spLaw (K : PySem.W.Frag) : Sp := fun vs H Q _ => ∃ (a : Addr) (ns : List Int), vs = [.ref a] ∧ SqL K H a (ns.map V.int) ∧ ns.length ≤ 63 ∧ ∀ H', Q (.bl true) H'
def curveD (m d : Int) : PyData := .tuple [.int m, .int d]
def unint : PyData → Int
  | .int i => i
  | _ => 0
def unlot : PyData → List Int
  | .tuple ds => ds.map unint
  | _ => []
theorem unlot_lot (l : List Int) : unlot (lotD l) = l := by
  show (l.map PyData.int).map unint = l
  rw [List.map_map]
  exact List.map_id' l
theorem dec_int (a b : Int) : decide (V.int a = V.int b) = decide (a = b) := by
  by_cases h : a = b
  · subst h
    simp
  · rw [decide_eq_false h, decide_eq_false (fun z => h (V.int.inj z))]
theorem cut_take (xs : List V) (i : Nat) (hi : i ≤ xs.length) : cutV xs none (some (i : Int)) = xs.take i := by
  unfold cutV
  rw [HT.sIx_none, show HT.sIx xs.length xs.length (some (i : Int)) = min i xs.length from HT.sIx_nat xs.length xs.length i, Nat.min_eq_left hi]
  rfl
theorem filt_len {l : List Int} {f : PyData → Bool} {g : Int → Bool} {h : PyData → PyData} (e : ∀ c, f (.int c) = g c) : (((l.map PyData.int).filter f).map h).length = (l.filter g).length := by
  rw [List.length_map, List.filter_map, List.length_map]
  have : (f ∘ PyData.int) = g := funext e
  rw [this]
theorem mem_ints {l : List Int} {d : PyData} (h : d ∈ l.map PyData.int) : ∃ c, c ∈ l ∧ d = .int c := by
  obtain ⟨c, h1, h2⟩ := List.mem_map.mp h
  exact ⟨c, h1, h2.symm⟩
theorem mem_lots {ls : List (List Int)} {d : PyData} (h : d ∈ ls.map lotD) : ∃ l, l ∈ ls ∧ d = lotD l := by
  obtain ⟨c, h1, h2⟩ := List.mem_map.mp h
  exact ⟨c, h1, h2.symm⟩
theorem filt_lots {ls : List (List Int)} {f : PyData → Bool} {g : List Int → Bool} (e : ∀ l, f (lotD l) = g l) : ((ls.map lotD).filter f).map (fun d => d) = (ls.filter g).map lotD := by
  rw [List.map_id', List.filter_map]
  have : (f ∘ lotD) = g := funext e
  rw [this]
theorem filt_ints {ls : List Int} {f : PyData → Bool} {g : Int → Bool} (e : ∀ l, f (.int l) = g l) : ((ls.map PyData.int).filter f).map (fun d => d) = (ls.filter g).map PyData.int := by
  rw [List.map_id', List.filter_map]
  have : (f ∘ PyData.int) = g := funext e
  rw [this]
theorem ty_int_inv {K : PySem.W.Frag} {H : Hp} {x : V} {t : String} (ty : TyX K H x (.type t)) (h : t = "int") : ∃ i, x = .int i := by
  cases ty with
  | base b => cases b <;> first | exact ⟨_, rfl⟩ | exact absurd h (by decide)
  | _ => exact absurd h (by decide)
theorem ty_of_int {K : PySem.W.Frag} {H : Hp} {i : Int} {t : String} (ty : TyX K H (.int i) (.type t)) : t = "int" := by
  cases ty with
  | base b => cases b; rfl
def tyNames : List String := ["NoneType", "bool", "int", "str", "list", "tuple", "dict"]
def tyGood : Bool := tyNames.all fun t => match kitB t "int", kitB t "bool" with
  | some a, some b => (a && !b) == (t == "int")
  | _, _ => false
theorem ty_good : tyGood = true := by decide +kernel
theorem ty_ib {t : String} (h : t ∈ tyNames) : ∃ a b, kitB t "int" = some a ∧ kitB t "bool" = some b ∧ (a && !b) = (t == "int") := by
  have h2 := ty_good
  unfold tyGood at h2
  rw [List.all_eq_true] at h2
  have h3 := h2 t h
  cases h4 : kitB t "int" with
  | none => rw [h4] at h3; cases h3
  | some a =>
    cases h5 : kitB t "bool" with
    | none => rw [h4, h5] at h3; cases h3
    | some b =>
      rw [h4, h5] at h3
      exact ⟨a, b, rfl, rfl, eq_of_beq h3⟩
section
variable {P : Program} {w : World} {K : PySem.W.Frag} {mg : Str → Option Value} {base : Heap}
def spWhole (K : PySem.W.Frag) : Sp := fun vs H Q _ => ∃ (v : V) (t : String), vs = [v] ∧ t ∈ tyNames ∧ (∀ H1, Ex H H1 → TyX K H1 v (.type t)) ∧ ∀ H2, Ex H H2 → Q (.bl (t == "int")) H2
theorem ev_whole {σ : L2.St} {H : Hp} {te : TE} {v : V} {t : String} {E : XK} (h : Ev te σ H v) (ht : t ∈ tyNames) (hx : ∀ H1, Ex H H1 → TyX K H1 v (.type t)) : Ev (tCall (spWhole K) [] E (tCons te tNil)) σ H (.bl (t == "int")) := fun H1 e Q q =>
  h H1 e _ fun H2 e2 => ⟨v, t, rfl, ht, fun H3 e3 => hx H3 ((e.trans e2).trans e3), fun H3 e3 => q H3 (e2.trans e3)⟩
theorem ok_is_whole {f : Addr} {fd : FuncData} {k : Nat} (D : Df K mg "is_whole" s_is_whole ["thing"] f fd) (B : Bt mg) : FnOk P w K mg base CX0 (k + 1) f fd ["thing"] (spWhole K) := by
  refine D.F.ok sc_is_whole (fun vs H Q E h => ?_) (fun cdv A outer s H vs Q E hr h => ?_)
  · obtain ⟨v, t, rfl, _⟩ := h
    rfl
  · obtain ⟨v, t, rfl, ht, hx, q⟩ := h
    refine ⟨_, (pss_one (ps_ret (pe_and (pe_callB (show CallR _ _ (rIsi K) from call_isi) (by rfl) B.isinstance_ (by decide +kernel) (pa_cons (pv 0) (pa_cons (pe_bltn (v := .ty "int") (by rfl) B.int_ (by decide +kernel) rfl) pa_nil))) (pe_one (pe_not (pe_callB (show CallR _ _ (rIsi K) from call_isi) (by rfl) B.isinstance_ (by decide +kernel) (pa_cons (pv 0) (pa_cons (pe_bltn (v := .ty "bool") (by rfl) B.bool_ (by decide +kernel) rfl) pa_nil)))))))), ?_⟩
    obtain ⟨a, b, ha, hb, hab⟩ := ty_ib ht
    refine s_ret (ev_andV (ev_isi (ev_var rfl) ev_c hx ha) (fun _ => ev_notV (ev_isi (ev_var rfl) ev_c hx hb))) fun H1 e1 => ?_
    rw [hab]
    exact q H1 e1
theorem ev_wholeI {σ : L2.St} {H : Hp} {te : TE} {i : Int} {E : XK} (h : Ev te σ H (.int i)) : Ev (tCall (spWhole K) [] E (tCons te tNil)) σ H (.bl true) := ev_whole h (by decide) ty_int
end
/-! ### all(.. for .. in ..): the def's table of code objects stands in the heap as a thing that stays a table -/
def tabIs (P : Addr) : Heap → Prop := fun h => ∃ ps : Array Value, h.get? P = some { cls := .none, data := .fields ps } ∧ TriplesOk ps.toList
abbrev TabO (P : Addr) : HO := .ext (tabIs P)
theorem tabIs_at {P : Addr} {h h' : Heap} (x : tabIs P h) (k : ∀ o, h.get? P = some o → h'.get? P = some o) : tabIs P h' := by
  obtain ⟨ps, e, t⟩ := x
  exact ⟨ps, k _ e, t⟩
theorem tab_obj {pr : Program} {w : World} {H : Hp} {h : Heap} {P : Addr} (x : tabIs P h) : ObjOk pr w H h P (TabO P) := by
  refine ⟨x, ?_, fun h1 h2 y k => tabIs_at y k⟩
  obtain ⟨ps, e, _⟩ := x
  exact ⟨_, e⟩
section
variable {X : Cx} {pins : List (Addr × Obj)} {σ : L2.St} {H : Hp} {s : Shared}
/-- the table may have grown: nothing else has changed -/
theorem inv_tabX {P : Addr} {h' : Heap} {g' : Array GenState} {d' : Drawn} {t' : Nat} (I : Inv X pins σ H s) (hP : H P = some (TabO P)) (k : ∀ b o, b ≠ P → s.heap.get? b = some o → h'.get? b = some o) (ht : tabIs P h') (hg : AllBare g') :
    Inv X pins σ H { s with heap := h', gens := g', drawn := d', toks := t' } := by
  have nf : ∀ b, H b = none → b ≠ P := fun b e z => by
    subst z
    rw [hP] at e
    cases e
  refine I.step (ch := []) (fun b hb => nomatch hb) (fun b o _ _ _ e n => k b o (nf b n) e) (fun b o _ _ _ e n => ⟨o.slots, k b o (nf b n) e⟩) (fun b o _ _ n => n) (fun b o _ e => ?_) (fun b u e => e) (fun b o u e => e) (fun b qs e => ⟨#[], by rw [e]; simp⟩) (fun m hn => ?_) (fun b u e => ?_) hg
  · by_cases hb : b = P
    · subst hb
      obtain ⟨ps, e2, _⟩ := ht
      exact ⟨_, e2⟩
    · exact ⟨o, k b o hb e⟩
  · obtain ⟨ob, es, ep, ho, r⟩ := hn
    exact ⟨ob, es, ep, k _ ob (nf _ I.free) ho, r⟩
  · by_cases hb : b = P
    · subst hb
      rw [hP] at e
      cases e
      exact tab_obj ht
    · refine (I.hok b u e).stay (fun d v hd q => k d v (fun z => ?_) q) (fun d q => q) fun d xs q => q
      subst z
      rcases hd with z | z
      · exact hb z.symm
      · rw [hP] at z
        cases z
/-- what an element of a generator expression gives, in whatever frame it is asked -/
def EltOk (X : Cx) (scope : Scope) (x : Str) (elt : Expr) (P : Addr) (σ : L2.St) (H : Hp) (xs : List V) (pb : Nat → Bool) : Prop :=
  ∀ (pins : List (Addr × Obj)) (s : Shared), Inv X pins σ H s → ∀ its : List Value, Vals xs its → ∀ cenv : Env, cenv.scope = scope → cenv.globals = X.env.globals → cenv.cells = cloFrom X.env.cells scope.names [] →
    ∀ (A' : Around) (E' : Value → Shared → Prop) (i : Nat) (v : Value) (s2 : Shared) (m2 : Str → Option Value), A'.handled = none → A'.depth ≤ X.A.depth + 1 → A'.units ≤ X.A.units + 8 → its[i]? = some v → s2.heap.Ns cenv.locals m2 → m2 x = some v →
      (∀ b o, b ≠ P → s.heap.get? b = some o → s2.heap.get? b = some o) → wpAny (model X.prog X.w) A' (eval elt cenv) (fun y s3 => y = .bool (pb i) ∧ Keeps s2 s3) E' s2
/-- a generator that stands ready, its n elements' truths pb -/
def RdyG (X : Cx) (pins : List (Addr × Obj)) (σ : L2.St) (H : Hp) (n : Nat) (pb : Nat → Bool) (g : Addr) (s5 : Shared) : Prop :=
  ∃ (fp wr : List Addr) (G : Array GenState → Array GenState → Prop) (F : Nat → Value → Prop) (St : Nat → Shared → Prop),
    WalksS X.prog X.w X.A.in1 g fp wr G n F St ∧ St 0 s5 ∧ TruthOf X.prog X.w X.A.in1 F pb ∧ ∀ s', Moved wr G s5 s' → Inv X pins σ H s'
theorem gen_tup {c P : Addr} {elt iter : Expr} {x : Str} {px gpos : Pos} {scope : Scope} {te : TE} {k : Nat} {Q' : Value → Shared → Prop} {R : List V → (Nat → Bool) → Hp → Prop} (hr : Room k X.A) (TB : GxR.TabB X.base X.mg c P) (hcode : X.env.code = .ref c) (S : GxR.GenS X.env scope x) (hi : PE X iter te)
    (hs : ∀ v, genFold iter X.env v = pure v) (I : Inv X pins σ H s) (h : te σ H fun v H1 => ∃ (a : Addr) (xs : List V) (pb : Nat → Bool), v = .ref a ∧ SqT X.K H1 a xs ∧ H1 P = some (TabO P) ∧ EltOk X scope x elt P σ H1 xs pb ∧ R xs pb H1)
    (hQ : ∀ xs pb H1 g s5, R xs pb H1 → RdyG X pins σ H1 xs.length pb g s5 → Q' (.ref g) s5) :
    wpAny (model X.prog X.w) X.A (eval (.GeneratorExp elt [⟨.Name x px, iter, [], 0⟩] scope gpos) X.env) Q' X.xe s := by
  have hdep : X.A.depth < recursionLimit := Nat.lt_of_le_of_lt (by omega) hr.dp
  refine wpAny_GeneratorExp_walksQD hr.hd S.co (closure_ok S.free) S.cell S.dot S.loc S.kind hdep (thn (hi.run pins s σ H _ I h) fun xv s1 hx1 => ?_) hs
  obtain ⟨v, H1, I1, r1, a, xs, pb, rfl, hsq, hP, hel, hR⟩ := hx1
  obtain rfl : xv = Value.ref a := r1
  obtain ⟨its, rv, htp, hsz⟩ := I1.tuple hsq
  have hlen : its.toArray.size = xs.length := by rw [List.size_toArray]; exact (Vals.length rv).symm
  refine wpAny_pyIter_tuple htp ?_
  obtain ⟨ps, hPs, htr⟩ := (show ObjOk X.prog X.w H1 s1.heap P (TabO P) from I1.hok P _ hP).1
  have hPlt : P < s1.heap.objs.size := Heap.lt_size hPs
  have halt : a < s1.heap.objs.size := htp.lt
  generalize hob : ({ cls := .type "tuple_iterator", data := .fields #[.ref a, .int 0 0] } : Obj) = ob
  have kpush : ∀ b u, s1.heap.get? b = some u → (s1.heap.push ob).get? b = some u := fun b u e => Heap.get?_push_of_some _ e
  have hit0 : (s1.heap.push ob).IsTupleIter s1.heap.objs.size a 0 := ⟨_, Heap.get?_push_size _ (by rw [← hob]; rfl), by rw [← hob], by rw [← hob]; rfl⟩
  have htp0 : (s1.heap.push ob).IsTuple a its.toArray := Heap.IsTuple.at htp fun o e => kpush a o e
  have hszp : (s1.heap.push ob).objs.size = s1.heap.objs.size + 1 := Heap.size_push ..
  have hPp : (s1.heap.push ob).get? P = some { cls := .none, data := .fields ps } := kpush P _ hPs
  have cd : PySem.W.CodeHd (s1.heap.push ob) c P := TB.code.keeps fun b u e => kpush b u (I1.bk b u e)
  have hlimp : (s1.heap.push ob).NoLimit := I1.nolimit.push ob
  have hcP : cStatics ≠ P := fun e => by
    obtain ⟨_, hns, _⟩ := I1.nolimit
    obtain ⟨o', es, ep, ho, hd, _⟩ := hns
    rw [e, hPs] at ho
    cases ho
    cases hd
  have hcl : cStatics < s1.heap.objs.size := let ⟨_, hns, _⟩ := I1.nolimit; hns.lt
  -- behind the code object: the table as it is then
  have fin : ∀ (code : Value) (h3 : Heap) (tk : Nat), Heap.ExtBut P (s1.heap.push ob) h3 → (s1.heap.push ob).objs.size ≤ h3.objs.size → tabIs P h3 →
      wpAny (model X.prog X.w) X.A (builtinsFor X.env.globals X.env.builtins) (fun bi s4 =>
        ∃ Ia fp wr n0 Pf St0 pz F, Value.ref s1.heap.objs.size = .ref Ia ∧ (∀ A' : Around, A'.handled = none → Walks X.prog X.w A' Ia fp wr n0 Pf St0) ∧ St0 0 s4.heap ∧ (∀ b ∈ fp, b < s4.heap.objs.size) ∧ s4.heap.NoLimit ∧ cStatics ∉ wr ∧
          (∀ href : Heap, (∀ b o, s4.heap.get? b = some o → href.get? b = some o) →
            QuietGenD X.prog X.w (genEnv scope (cloFrom X.env.cells scope.names []) s4.heap.objs.size code bi X.env) x [] elt (List.range s4.heap.objs.size) wr Pf pz F href (X.A.depth + 1) (X.A.units + 8)) ∧
          (∀ a h5 tk gs, gs.bare = true → s4.heap.objs.size < a → h5.objs.size = a + 1 → (∀ b o, s4.heap.get? b = some o → h5.get? b = some o) →
            WalksS X.prog X.w X.A.in4 a (a :: s4.heap.objs.size :: List.range s4.heap.objs.size) (s4.heap.objs.size :: wr) (GenOnlyQ s4.gens.size) (passing pz n0 0).length
              (fun j y => ∃ i, (passing pz n0 0)[j]? = some i ∧ F i y) (GenAt X.prog X.w X.A.in4 a s4.gens.size s4.heap.objs.size (List.range s4.heap.objs.size) wr pz n0 F) →
            GenAt X.prog X.w X.A.in4 a s4.gens.size s4.heap.objs.size (List.range s4.heap.objs.size) wr pz n0 F 0 { s4 with gens := s4.gens.push gs, toks := tk, heap := h5 } →
            Q' (.ref a) { s4 with gens := s4.gens.push gs, toks := tk, heap := h5 })) X.xe { s1 with heap := h3, toks := tk } := by
    intro code h3 tk hx hge ht3
    have keep3 : ∀ b u, b ≠ P → s1.heap.get? b = some u → h3.get? b = some u := fun b u hb e => hx b u hb (kpush b u e)
    obtain ⟨bm, ob2, e1, e2, e3, e4, e5, e6, e7, e8⟩ := TB.bm
    refine wpAny_builtinsFor (m := X.mg) (by rw [I1.ok.glob]; exact ((I1.mod.glob.keeps I1.bk).push ob).extBut hx TB.gP) e1 e2 (keep3 _ _ e4 (I1.bk _ _ e5)) e6 e7 e8 ?_
    have hs3 : s1.heap.objs.size + 1 ≤ h3.objs.size := by rw [← hszp]; exact hge
    have old3 : ∀ b u, s1.heap.get? b = some u → b < h3.objs.size := fun b u e => Nat.lt_of_lt_of_le (Nat.lt_of_lt_of_le (Heap.lt_size e) (Nat.le_succ _)) hs3
    have itP : s1.heap.objs.size ≠ P := (Nat.ne_of_lt hPlt).symm
    have aP : a ≠ P := fun z => by
      obtain ⟨o, ho, hc, _⟩ := htp
      rw [z, hPs] at ho
      cases ho
      cases hc
    refine ⟨s1.heap.objs.size, [s1.heap.objs.size, a], [s1.heap.objs.size], its.toArray.size, fun i v => its.toArray[i]? = some v, fun i h => h.IsTupleIter s1.heap.objs.size a i ∧ h.IsTuple a its.toArray, fun _ => true, fun i y => i < xs.length ∧ y = .bool (pb i), rfl, fun A' hA => Walks.tuple hA _ _ (Nat.ne_of_lt halt) _, ?_, ?_, hlimp.extBut hx hcP, ?_, ?_, ?_⟩
    · exact ⟨hit0.at fun o e => hx _ o itP e, htp0.at fun o e => hx _ o aP e⟩
    · intro b hb
      show b < h3.objs.size
      have hb2 : b = s1.heap.objs.size ∨ b = a := by simpa using hb
      rcases hb2 with z | z
      · rw [z]
        exact Nat.lt_of_lt_of_le (Nat.lt_succ_self _) hs3
      · rw [z]
        exact Nat.lt_of_lt_of_le (Nat.lt_of_lt_of_le halt (Nat.le_succ _)) hs3
    · intro z
      have z2 : cStatics = s1.heap.objs.size := by simpa using z
      exact Nat.ne_of_lt hcl z2
    · intro href hhref
      refine ⟨fun A' E' i v s2 m2 hA _ _ hPv hn hm hk => ?_, fun A' E' i v s2 m2 hA hD hU hPv _ hn hm hk => ?_⟩
      · simp only [List.forIn_nil]
        exact wpAny_pure ⟨rfl, GxR.keeps_refl _⟩
      · have hPv2 : its[i]? = some v := by simpa using hPv
        have hilt : i < xs.length := by
          have := (List.getElem?_eq_some_iff.mp hPv2).1
          rw [List.size_toArray] at hlen
          omega
        refine wpAny_mono (hel pins s1 I1 its rv (genEnv scope (cloFrom X.env.cells scope.names []) h3.objs.size code builtinsNs X.env) rfl rfl rfl A' E' i v s2 m2 hA hD hU hPv2 hn hm (fun b o hb e => ?_)) (fun y s3 q => ⟨⟨hilt, q.1⟩, q.2⟩) fun _ _ q => q
        have hblt := Heap.lt_size e
        refine hk b (List.mem_range.mpr ?_) (fun z => ?_) o (hhref b o (keep3 b o hb e))
        · exact old3 b o e
        · have z2 : b = s1.heap.objs.size := by simpa using z
          exact Nat.ne_of_lt hblt z2
    · intro g h5 tk5 gs hgb hag hsz5 hk5 W5 hat
      simp only [GxR.passing_true, List.length_range] at W5
      refine hQ xs pb H1 g _ hR ?_
      rw [← hlen]
      refine ⟨_, _, _, _, _, W5.in4_1, hat, ?_, fun s' hm => ?_⟩
      · intro j y sj Qj Ej hy hQj
        obtain ⟨i, hij, hlt, rfl⟩ := hy
        obtain ⟨hj, ej⟩ := List.getElem?_eq_some_iff.mp hij
        have ej2 : i = j := by simpa [GxR.passing_true] using ej.symm
        subst ej2
        exact wpAny_truthy_bool hQj
      · have nwr : ∀ b u, s1.heap.get? b = some u → b ∉ h3.objs.size :: [s1.heap.objs.size] := fun b u e hb => by
          have hl := Heap.lt_size e
          have hb2 : b = h3.objs.size ∨ b = s1.heap.objs.size := by simpa using hb
          rcases hb2 with z | z
          · exact Nat.ne_of_lt (old3 b u e) z
          · exact Nat.ne_of_lt hl z
        have J := inv_tabX (h' := s'.heap) (g' := s'.gens) (d' := s'.drawn) (t' := s'.toks) I1 hP (fun b u hb e => hm.heap b u (nwr b u e) (hk5 b u (keep3 b u hb e))) (tabIs_at ht3 fun o e => hm.heap P o (nwr P _ hPs) (hk5 P o e)) (AllBare.movedS (I1.bare.push hgb) hm)
        rw [GxR.sh_eta s1 s' hm.os] at J
        exact J
  refine ⟨hlimp, ?_⟩
  cases hf : codeAmong gpos ps.toList with
  | none =>
    refine wpAny_genexprCodeX hcode (cd.code hPp htr) (cd.tab hPp) hf fun c' h' tk hx hge hlt hco' _ htab' _ => ?_
    obtain ⟨o1, vs, f1, tf, fl, tg, inF, tx, tt, op, _, _, _, _, _, _, _, _, _, htr2, _⟩ := hco'
    exact fin _ h' tk hx (Nat.le_trans hge (Nat.le_of_lt hlt)) ⟨_, htab'.2, htr2⟩
  | some cv =>
    refine wpAny_genexprCode_hit hcode (cd.code hPp htr) hf ?_
    exact fin cv (s1.heap.push ob) s1.toks (Heap.ExtBut.refl _ _) (Nat.le_refl _) ⟨ps, hPp, htr⟩
end
/-! ### defs that are called where no text is under way -/
structure FnG (P : Program) (w : World) (K : PySem.W.Frag) (mg : Str → Option Value) (base : Heap) (k : Nat) (f : Addr) (fd : FuncData) (ps : List Str) (sp : Sp) : Prop where
  ln : ∀ vs H Q E, sp vs H Q E → vs.length = ps.length
  go : ∀ (A : Around) (outer : List Env) (s : Shared) (H : Hp) (args : Args) (us : List Value) (vs : List V) (Q : VK) (E : XK), A.guards = some [] → Room k A → Env0 P w K mg base A outer s H → BindsTo s fd args (ps.zip us) → Vals vs us → sp vs H Q E → codeAny (model P w) A (.call (.ref f) args) (CR CX0 outer P w H s Q E) s
section
variable {P : Program} {w : World} {K : PySem.W.Frag} {mg : Str → Option Value} {base : Heap}
theorem FnG.of {k : Nat} {f : Addr} {fd : FuncData} {ps : List Str} {sp : Sp} (F : FnOk P w K mg base CX0 k f fd ps sp) : FnG P w K mg base k f fd ps sp := ⟨F.len, fun A outer s H args us vs Q E _ => F.run A outer s H args us vs Q E⟩
theorem fnG_of {k : Nat} {f : Addr} {name x : Str} {params : Arguments} {body : List Stmt} {scope : Scope} {dV kV doc pm cdv ct oc : Value} {an od : Option Addr} {osl : Array (Option Value)} {N ps : List Str} {sp : Sp} (lk : K.lookup f = some ⟨oc, od, .func (PySem.W.fnOf name x params body scope dV kV doc pm an cdv ct), osl⟩) (hcd : PySem.W.codeIn K cdv x = true) (S : FnScope N ps scope) (ln : ∀ vs H Q E, sp vs H Q E → vs.length = ps.length)
    (bd : ∀ (A : Around) (outer : List Env) (s : Shared) (H : Hp) (vs : List V) (Q : VK) (E : XK), A.guards = some [] → Room k (A.deeper (envOfC x scope s.heap.objs.size f cdv)) → sp vs H Q E → ∃ t, PSs (cxOf CX0 P w K mg base N x scope f cdv A outer s H E).nox body t ∧ t { nx := fun _ H' => Q .non H', rt := Q } (start N vs) H) :
    FnG P w K mg base (k + 1) f (PySem.W.fnOf name x params body scope dV kV doc pm an cdv ct) ps sp := by
  refine ⟨ln, fun A outer s H args us vs Q E gd hr e0 hb r hsp => ?_⟩
  have up : ∀ b o, base.get? b = some o → s.heap.get? b = some o := fun b o z => (e0.bs b o z).1
  have KX : K.In s.heap := e0.mod.kin.keeps up
  have par : ∀ y ∈ ps.zip us, scope.names.lookup y.1 = some .local ∨ (scope.names.lookup y.1 = some .cell ∧ ((cellsFrom (s.heap.objs.size + 1) scope.names []).lookup y.1).isSome = true) := fun y hy =>
    (S.par y.1 (List.of_mem_zip (show (y.1, y.2) ∈ ps.zip us from hy)).1).imp id fun q => ⟨q, PySem.W.cellsFrom_some _ _ _ (.inl q)⟩
  refine codeAny_call_function hr.depth (KX _ _ lk) rfl S.co S.gen rfl (PySem.W.codeRec_of KX hcd) (hb _ _ _ _ (wpAny_newFunctionEnv_cells S.kind par fun env he s1 z => ?_))
  subst he
  obtain ⟨t, ht, hq⟩ := bd A outer s H vs Q E gd (hr.deeper _) hsp
  have I := inv_start (CX := CX0) (E := E) S hr.hd e0 (ln _ _ _ _ hsp) r z
  refine ⟨(e0.mod.nolimit.keeps up).keeps z.toInCall.keep, codeAny_func (wpAny_mono (ht.nox.run [] s1 (start N vs) H _ I hq) (fun fl s' hs => ?_) fun e s' hs => hs)⟩
  match fl, hs with
  | .ret u, ⟨v, σ', H', J, rv, q⟩ => exact ⟨v, H', J.os, J.bare, J.base, J.hok, rv, q⟩
  | .next, ⟨σ', H', J, q⟩ => exact ⟨.non, H', J.os, J.bare, J.base, J.hok, rfl, q⟩
  | .brk, ⟨_, _, _, q⟩ => exact q.elim
  | .cont, ⟨_, _, _, q⟩ => exact q.elim
theorem okG {x : Str} {st : Stmt} {f : Addr} {fd : FuncData} {N ps : List Str} {k : Nat} {sp : Sp} (F : Fun K x x st f fd) (S : FnScope N ps (defScope st)) (ln : ∀ vs H Q E, sp vs H Q E → vs.length = ps.length)
    (bd : ∀ (cdv : Value) (A : Around) (outer : List Env) (s : Shared) (H : Hp) (vs : List V) (Q : VK) (E : XK), A.guards = some [] → Room k (A.deeper (envOfC x (defScope st) s.heap.objs.size f cdv)) → sp vs H Q E → ∃ t, PSs (cxOf CX0 P w K mg base N x (defScope st) f cdv A outer s H E).nox (defBody st) t ∧ t { nx := fun _ H' => Q .non H', rt := Q } (start N vs) H) :
    FnG P w K mg base (k + 1) f fd ps sp := by
  obtain ⟨oc, od, kV, doc, pm, an, cdv, ct, osl, rfl, lk, hcd⟩ := F.ex
  exact fnG_of lk hcd S ln fun A outer s H vs Q E gd hr hsp => bd cdv A outer s H vs Q E gd hr hsp
end
section
variable {X : Cx} {k : Nat} {f : Addr} {fd : FuncData} {ps : List Str} {sp : Sp} {E : XK} {x : Str} {p pos : Pos} {e : Expr} {es : List Expr} {t : TA}
theorem pe_callG (F : FnG X.prog X.w X.K X.mg X.base k f fd ps sp) (gd : X.A.guards = some []) (hr : Room k X.A) (hg : Gl X x) (hm : X.mg x = some (.ref f)) (hk : PySem.W.keepIn X.K (.ref f) = true) (hb : Binds X.K fd ps []) (ha : PA X (e :: es) t)
    (hdb : (x == ("__debug__" : Str)) = false := by decide) (he : starEach (e :: es) X.env = (false, eval e X.env) :: starEach es X.env := by rfl) (hpl : (backTo pos (starEach es X.env)).any (·.1) = false := by rfl) : PE X (.Call (.Name x p) (e :: es) [] pos) (tCall sp [] E t) := ⟨fun pins s σ H Q I h => by
  refine wpAny_Call_Name_kw (ld_glob I hg hm (PySem.W.callWith_K (h₀ := X.base) I.ok.mod.kin hk (thn (ha.run pos pins s σ H _ I h) fun us s1 ⟨vs, H1, I1, r, q⟩ => ⟨I1.kIn, ?_⟩) he hpl) hdb)
  have q : sp (vs ++ []) H1 Q E := q
  rw [List.append_nil] at q
  have hl : (us ++ []).length = ps.length := by rw [List.append_nil, ← r.length]; exact F.ln _ _ _ _ q
  have bt := hb s1 us I1.kIn hl
  rw [List.append_nil] at bt
  refine wpAny_call (codeAny_mono (F.go X.A X.stack s1 H1 ⟨us, []⟩ us vs Q E gd hr I1.env0 bt r q) fun r s' z => ?_)
  match r, z with
  | .ok (.ret u), z => exact I1.after z
  | .ok .next, z => exact z.elim
  | .ok .brk, z => exact z.elim
  | .ok .cont, z => exact z.elim
  | .error e, z => exact z.elim⟩
end
/-! ### the end of a law whose def is an FnG: its tables as things that stay tables (Ps), as the head leaves them (Ts) -/
def spLawY (K : PySem.W.Frag) (Ps Ts : List Addr) : Sp := fun vs H Q _ => ∃ (a : Addr) (ns : List Int), vs = [.ref a] ∧ SqL K H a (ns.map V.int) ∧ ns.length ≤ 63 ∧ (∀ p ∈ Ps, H p = some (TabO p)) ∧ (∀ p ∈ Ts, H p = some (.tbl #[])) ∧ ∀ H', (∀ p ∈ Ps, H' p = some (TabO p)) → Q (.bl true) H'
/-- what is tracked at the law's call -/
def hd0 (K : PySem.W.Frag) (Ps Ts : List Addr) (a : Addr) (o : Obj) (xs : List V) : Hp := fun b =>
  if b ∈ Ps then some (TabO b) else if b ∈ Ts then some (.tbl #[]) else if b = a ∧ (K.lookup a).isNone = true then some (.frz o (.lst xs)) else none
/-- a code object c of the module, its table at P, untouched as yet -/
structure CdK (K : PySem.W.Frag) (h : Heap) (P : Addr) : Prop where
  tab : h.get? P = some { cls := .none, data := .fields #[] }
  free : K.lookup P = none
  cd : ∃ c, PySem.W.codeHdIn K c P = true
theorem cdk_mk {K : PySem.W.Frag} {h : Heap} {f c P : Addr} {oc e : Value} {od dd : Option Addr} {fd : FuncData} {osl sl : Array (Option Value)} {vs : Array Value} (O : LamX.OwnTab K f h) (l : K.lookup f = some ⟨oc, od, .func fd, osl⟩) (hc : fd.code = .ref c) (lc : K.lookup c = some ⟨e, dd, .fields vs, sl⟩) (v : vs[11]? = some (.ref P)) (hh : PySem.W.codeHdIn K c P = true) (np : K.lookup P = none) : CdK K h P :=
  ⟨O c P _ fd e dd vs sl l rfl hc lc v, np, c, hh⟩
theorem law_callG {P : Program} {w : World} {K : PySem.W.Frag} {mg mb : Str → Option Value} {k : Nat} {fa a : Addr} {Ps Ts : List Addr} {fd : FuncData} {x : Str} {s₁ : Shared} {vs : List Value} {ns : List Int}
    (KX : K.In s₁.heap) (hns : s₁.heap.Ns mainGlobals mg) (hb : s₁.heap.Ns builtinsNs mb) (hbb : ∀ x : Str, x ≠ "__name__" → mb x = bootBuiltins x) (hlim : s₁.heap.NoLimit) (hg : s₁.gens = #[])
    (CP : ∀ p ∈ Ps, CdK K s₁.heap p) (CT : ∀ p ∈ Ts, CdK K s₁.heap p) (apart : ∀ p ∈ Ts, p ∉ Ps)
    (hbm : ∃ (bm : Addr) (ob : Obj), mg "__builtins__" = some (.ref bm) ∧ bm ≠ builtinsNs ∧ s₁.heap.get? bm = some ob ∧ ob.cls = .type "module" ∧ ob.dict = some builtinsNs ∧ ob.data = .plain)
    (ha : s₁.heap.get? a = some { cls := .type "list", data := .seq vs.toArray }) (hi : IntsAre vs ns) (hl : ns.length ≤ 63) (hr : Room k callerA)
    (F : ∀ base : Heap, K.In base → base.Ns mainGlobals mg → (∀ (c p : Addr), p ∈ Ps ++ Ts → PySem.W.codeHdIn K c p = true → GxR.TabB base mg c p) → FnG P w K mg base k fa fd [x] (spLawY K Ps Ts)) (hbind : ∀ (s : Shared) (u : Value), BindsTo s fd ⟨[u], []⟩ [(x, u)]) :
    codeAny (model P w) callerA (.call (.ref fa) ⟨[.ref a], []⟩) (fun r s' => r = .ok (.ret (.bool true)) ∧ OldK s₁.heap s'.heap ∧ s'.os = s₁.os ∧ AllBare s'.gens) s₁ := by
  have CA : ∀ p ∈ Ps ++ Ts, CdK K s₁.heap p := fun p hp => (List.mem_append.mp hp).elim (CP p) (CT p)
  have rv := vals_ints hi
  have aP : a ∉ Ps ++ Ts := fun z => by
    have q := (CA a z).tab
    rw [ha] at q
    exact absurd (congrArg Obj.data (Option.some.inj q)) (fun z => nomatch z)
  have aP1 : a ∉ Ps := fun z => aP (List.mem_append_left _ z)
  have aP2 : a ∉ Ts := fun z => aP (List.mem_append_right _ z)
  obtain ⟨H, hH⟩ : ∃ H, H = hd0 K Ps Ts a { cls := .type "list", data := .seq vs.toArray } (ns.map V.int) := ⟨_, rfl⟩
  have H1 : ∀ p ∈ Ps, H p = some (TabO p) := fun p hp => by rw [hH]; exact if_pos hp
  have H2 : ∀ p ∈ Ts, H p = some (.tbl #[]) := fun p hp => by rw [hH]; exact (if_neg (apart p hp)).trans (if_pos hp)
  have H3 : ∀ b, b ∉ Ps ++ Ts → b ≠ a → H b = none := fun b h1 h2 => by
    rw [hH]
    exact (if_neg fun z => h1 (List.mem_append_left _ z)).trans ((if_neg fun z => h1 (List.mem_append_right _ z)).trans (if_neg fun z => h2 z.1))
  have Ha : H a = if (K.lookup a).isNone = true then some (.frz { cls := .type "list", data := .seq vs.toArray } (.lst (ns.map V.int))) else none := by
    rw [hH]
    refine (if_neg aP1).trans ((if_neg aP2).trans ?_)
    by_cases hk : (K.lookup a).isNone = true
    · rw [if_pos hk]; exact if_pos ⟨rfl, hk⟩
    · rw [if_neg hk]; exact if_neg fun z => hk z.2
  have low : ∀ {b : Addr} {o : Obj}, s₁.heap.get? b = some o → (∀ u n, o.data ≠ .seq u n) → o.data ≠ .fields #[] → H b = none := fun {b o} e h1 h2 => by
    refine H3 b (fun z => ?_) fun z => ?_
    · rw [(CA b z).tab] at e
      cases e
      exact h2 rfl
    · rw [z, ha] at e
      cases e
      exact h1 _ _ rfl
  have dic : ∀ {b : Addr} {m : Str → Option Value}, s₁.heap.Ns b m → (hidT s₁.heap H).Ns b m := fun {b m} ⟨o, es, ep, e, d, r⟩ => ⟨o, es, ep, hidT_get e (low e (fun u n z => by rw [d] at z; cases z) fun z => by rw [d] at z; cases z), d, r⟩
  have KB : K.In (hidT s₁.heap H) := fun b o e => hidT_get (KX b o e) (by
    by_cases h1 : b ∈ Ps ++ Ts
    · rw [(CA b h1).free] at e; cases e
    · by_cases h2 : b = a
      · subst h2
        rw [Ha, e]
        rfl
      · exact H3 b h1 h2)
  have MO : Mod K mg (hidT s₁.heap H) := ⟨KB, dic hns, ⟨mb, dic hb, hbb⟩, let ⟨mc, l1, l2⟩ := hlim; ⟨mc, dic l1, l2⟩⟩
  have TB : ∀ (c p : Addr), p ∈ Ps ++ Ts → PySem.W.codeHdIn K c p = true → GxR.TabB (hidT s₁.heap H) mg c p := fun c p hp hc => by
    have ht := (CA p hp).tab
    obtain ⟨o, es, ep, eo, ed, _⟩ := hns
    refine ⟨PySem.W.codeHd_of_K KB hc, ?_, fun z => by rw [z, ht] at eo; cases eo; cases ed⟩
    obtain ⟨bm, ob, b1, b2, b3, b4, b5, b6⟩ := hbm
    exact ⟨bm, ob, b1, b2, fun z => (by rw [z, eo] at b3; cases b3; rw [ed] at b6; cases b6), fun z => (by rw [z, ht] at b3; cases b3; cases b6), hidT_get b3 (low b3 (fun u n z => by rw [b6] at z; cases z) fun z => by rw [b6] at z; cases z), b4, b5, b6⟩
  have OK : HOk P w H s₁.heap := fun b u e => by
    by_cases h1 : b ∈ Ps
    · rw [H1 b h1] at e
      cases e
      exact tab_obj ⟨#[], (CP b h1).tab, True.intro⟩
    · by_cases h2 : b ∈ Ts
      · rw [H2 b h2] at e
        cases e
        exact (CT b h2).tab
      · by_cases h3 : b = a
        · subst h3
          rw [Ha] at e
          by_cases hk : (K.lookup b).isNone = true
          · rw [if_pos hk] at e
            cases e
            exact ⟨ha, by rw [List.length_map]; exact Nat.le_trans hl (by decide), vs, _, rv, ha⟩
          · rw [if_neg hk] at e; cases e
        · rw [H3 b (fun z => (List.mem_append.mp z).elim h1 h2) h3] at e; cases e
  have hS : SqL K H a (ns.map V.int) := by
    cases hk : K.lookup a with
    | none => exact .inl (.inr ⟨_, by rw [Ha, hk]; rfl⟩)
    | some o =>
      have e := KX a o hk
      rw [ha] at e
      cases e
      exact .inr ⟨_, vs.toArray, _, hk, rfl, rfl, rfl, by rw [List.size_toArray, hi.length]; exact Nat.le_trans hl (by decide), by simpa using rv⟩
  have e0 : Env0 P w K mg (hidT s₁.heap H) callerA [] s₁ H := ⟨rfl, MO, fun b o e => of_hidT e, Nat.le_of_eq (hidT_size _ _), trivial, fun b hb => absurd (show b ∈ ([] : List Addr) from hb) (by simp), OK, .of_eq hg⟩
  refine codeAny_mono ((F _ KB (dic hns) TB).go callerA [] s₁ H ⟨[.ref a], []⟩ [.ref a] [.ref a] (fun v H' => v = .bl true ∧ ∀ p ∈ Ps, H' p = some (TabO p)) (fun _ _ _ => False) rfl hr e0 (hbind s₁ (.ref a)) (.cons rfl .nil) ⟨a, ns, rfl, hS, hl, H1, H2, fun H' h' => ⟨rfl, h'⟩⟩) fun r s' h => ?_
  match r, h with
  | .error e, h => exact h.elim
  | .ok .next, h => exact h.elim
  | .ok .brk, h => exact h.elim
  | .ok .cont, h => exact h.elim
  | .ok (.ret u), ⟨v, H', os, bare, un, hok', r', q, tb⟩ =>
    subst q
    obtain rfl : u = Value.bool true := r'
    have nf : ∀ b : Addr, b ∉ frs [] := fun b z => absurd (show b ∈ ([] : List Addr) from z) (by simp)
    have same : ∀ b o, b ∉ Ps ++ Ts → s₁.heap.get? b = some o → s'.heap.get? b = some o := fun b o h1 e => by
      by_cases h2 : b = a
      · subst h2
        by_cases hk : (K.lookup b).isNone = true
        · rw [if_pos hk] at Ha
          have z := hok' b _ (un.frzs b _ _ Ha)
          rw [ha] at e
          cases e
          exact z.1
        · rw [if_neg hk] at Ha
          exact un.keep b o e Ha (nf b) (by simp)
      · exact un.keep b o e (H3 b h1 h2) (nf b) (by simp)
    have grown : ∀ p ∈ Ps ++ Ts, ∃ more : Array Value, s'.heap.get? p = some { cls := .none, data := .fields more } := fun p hp => by
      rcases List.mem_append.mp hp with hp | hp
      · obtain ⟨⟨ps, e, _⟩, _⟩ := hok' p _ (tb p hp)
        exact ⟨ps, e⟩
      · obtain ⟨more, z⟩ := un.tbls p #[] (H2 p hp)
        exact ⟨_, hok' p _ z⟩
    refine ⟨rfl, ⟨fun b o e => ?_, fun b o e => ?_⟩, os, bare⟩
    · by_cases h1 : b ∈ Ps ++ Ts
      · obtain ⟨more, hm⟩ := grown b h1
        have ht := (CA b h1).tab
        obtain ⟨c, hc⟩ := (CA b h1).cd
        rw [ht] at e
        cases e
        exact .inr (.inl ⟨((PySem.W.codeHd_of_K KX hc).tab ht).isCodeTable, rfl, #[], more, rfl, by rw [Array.empty_append]; exact hm⟩)
      · exact .inl (same b o h1 e)
    · by_cases h1 : b ∈ Ps ++ Ts
      · obtain ⟨more, hm⟩ := grown b h1
        exact ⟨_, hm⟩
      · exact ⟨o, same b o h1 e⟩
/-- what is known of the law's def at the head's heap -/
def LawG (l : PySem.W.OpenLaw) (w : World) (K : PySem.W.Frag) (k : Nat) (x : Str) (mg : Str → Option Value) (fa : Addr) (h : Heap) : Prop :=
  ∃ (fd : FuncData) (Ps Ts : List Addr), (∀ p ∈ Ps, CdK K h p) ∧ (∀ p ∈ Ts, CdK K h p) ∧ (∀ p ∈ Ts, p ∉ Ps) ∧ (∀ (s : Shared) (u : Value), BindsTo s fd ⟨[u], []⟩ [(x, u)]) ∧
    ∀ base : Heap, K.In base → base.Ns mainGlobals mg → (∀ (c p : Addr), p ∈ Ps ++ Ts → PySem.W.codeHdIn K c p = true → GxR.TabB base mg c p) → FnG l.prog w K mg base k fa fd [x] (spLawY K Ps Ts)
theorem walk_G {l : PySem.W.OpenLaw} {k : Nat} {q : Program} {loose : List Str} {XP : (Str → Option Value) → Heap → Prop} {YP : World → Heap → Prop} {d : DefRec} {K : Params → PySem.W.Frag} {x : Str} (names : List Str)
    (hn : l.most = some 63) (hdf : d.params.defaults = []) (hr : Room k callerA) (hrec : (names.all fun nm => (recsOf q).any fun e => e.name == nm) = true) (hY : ∀ (w : World) (h : Heap), YP w h → (K w.params).In h)
    (F : ∀ (w : World) (mg : Str → Option Value) (fa : Addr) (h : Heap), (K w.params).In h → h.Ns mainGlobals mg → mg d.name = some (.ref fa) → (∀ nm ∈ names, ∀ f, mg nm = some (.ref f) → LamX.OwnTab (K w.params) f h) → LawG l w (K w.params) k x mg fa h) :
    PySem.W.WalkO q loose XP YP l.row.toRowW d [] (fun f vs => PySem.call f vs) := by
  refine Att.attach_callB hn hdf fun w s₀ s₁ mg mb fa o pm cd doc a vs ns G Y ho hd hcd hmg hobj hints hlen hbits hg => ?_
  have KX := hY w _ Y
  have own : ∀ nm ∈ names, ∀ f, mg nm = some (.ref f) → LamX.OwnTab (K w.params) f s₁.heap := fun nm hnm f hf c P o1 fd1 e dd vs1 sl k1 k2 k3 k4 k5 => by
    obtain ⟨r, hr1, hr2⟩ := List.any_eq_true.mp (List.all_eq_true.mp hrec nm hnm)
    have er : r.name = nm := beq_iff_eq.mp hr2
    obtain ⟨a', o', fd', c', P', h1, h2, h3, h4, _, h6⟩ := G.T.tab r hr1
    rw [er, hf] at h1
    cases h1
    rw [KX _ _ k1] at h2
    cases h2
    rw [k2] at h3
    cases h3
    rw [k3] at h4
    cases h4
    obtain ⟨⟨oc, vc, e1, _, e3, e4⟩, hP⟩ := h6
    rw [KX _ _ k4] at e1
    cases e1
    cases e3
    rw [k5] at e4
    cases e4
    exact hP
  obtain ⟨fd, Ps, Ts, c1, c2, c3, hb, hF⟩ := F w mg fa _ KX G.T.g hmg own
  exact law_callG KX G.T.g G.T.b G.T.builtins G.T.nolimit hg c1 c2 c3 G.T.bmain hobj hints hlen hr hF hb
/-! ### things: data with lists and dicts, apart from the box at b; c: no list stands at the modules' place -/
def keyD : Key → PyData
  | .inl i => .int i
  | .inr x => .str x
def dictD (ks : List (Key × Int)) : PyData := .dict (ks.map fun p => (keyD p.1, .int p.2))
mutual
inductive Od (K : PySem.W.Frag) (b : Addr) (c : Bool) (H : Hp) : V → PyData → Prop
  | non : Od K b c H .non .none
  | bl (x : Bool) : Od K b c H (.bl x) (.bool x)
  | int (i : Int) : Od K b c H (.int i) (.int i)
  | str (x : Str) : Od K b c H (.str x) (.str x)
  | tup {a : Addr} {xs : List V} {ds : List PyData} : SqT K H a xs → OdAll K b c H xs ds → Od K b c H (.ref a) (.tuple ds)
  | lst {a : Addr} {xs : List V} {ds : List PyData} : a ≠ b → H a = some (.lst xs) → (c = true → a ≠ sysModules) → OdAll K b c H xs ds → Od K b c H (.ref a) (.list ds)
  | dct {a : Addr} {ks : List (Key × Int)} : a ≠ b → H a = some (.dK (ks.map fun p => (p.1, V.int p.2))) → Od K b c H (.ref a) (dictD ks)
inductive OdAll (K : PySem.W.Frag) (b : Addr) (c : Bool) (H : Hp) : List V → List PyData → Prop
  | nil : OdAll K b c H [] []
  | cons {v : V} {vs : List V} {d : PyData} {ds : List PyData} : Od K b c H v d → OdAll K b c H vs ds → OdAll K b c H (v :: vs) (d :: ds)
end
section
variable {K : PySem.W.Frag} {b : Addr} {c : Bool} {H H' : Hp}
mutual
theorem od_bk (x : Bk b H H') : ∀ {v : V} {d : PyData}, Od K b c H v d → Od K b c H' v d
  | _, _, .non => .non
  | _, _, .bl y => .bl y
  | _, _, .int i => .int i
  | _, _, .str y => .str y
  | _, _, .tup h a => .tup (tx_sq x.tx h) (oda_bk x a)
  | _, _, .lst n h m a => .lst n (x.bx _ _ n h) m (oda_bk x a)
  | _, _, .dct n h => .dct n (x.bx _ _ n h)
theorem oda_bk (x : Bk b H H') : ∀ {vs : List V} {ds : List PyData}, OdAll K b c H vs ds → OdAll K b c H' vs ds
  | _, _, .nil => .nil
  | _, _, .cons h t => .cons (od_bk x h) (oda_bk x t)
end
theorem od_ex (e : Ex H H') {v : V} {d : PyData} (h : Od K b c H v d) : Od K b c H' v d := od_bk (bk_ex e) h
theorem oda_ex (e : Ex H H') {vs : List V} {ds : List PyData} (h : OdAll K b c H vs ds) : OdAll K b c H' vs ds := oda_bk (bk_ex e) h
mutual
theorem od_dt : ∀ {v : V} {d : PyData}, Dt K H v d → Od K b c H v d
  | _, _, .non => .non
  | _, _, .bl y => .bl y
  | _, _, .int i => .int i
  | _, _, .str y => .str y
  | _, _, .tup h a => .tup h (oda_dt a)
theorem oda_dt : ∀ {vs : List V} {ds : List PyData}, DtAll K H vs ds → OdAll K b c H vs ds
  | _, _, .nil => .nil
  | _, _, .cons h t => .cons (od_dt h) (oda_dt t)
end
theorem oda_len : ∀ {vs : List V} {ds : List PyData}, OdAll K b c H vs ds → vs.length = ds.length
  | _, _, .nil => rfl
  | _, _, .cons _ t => by rw [List.length_cons, List.length_cons, oda_len t]
theorem oda_get : ∀ {vs : List V} {ds : List PyData} {i : Nat} {v : V}, OdAll K b c H vs ds → vs[i]? = some v → ∃ d, ds[i]? = some d ∧ Od K b c H v d
  | _, _, _, _, .nil, e => by simp at e
  | _, _, 0, _, .cons h _, e => by simp at e; subst e; exact ⟨_, rfl, h⟩
  | _, _, i + 1, v, .cons _ t, e => by
    obtain ⟨d, h1, h2⟩ := oda_get (i := i) (v := v) t (by simpa using e)
    exact ⟨d, by simpa using h1, h2⟩
theorem oda_get' : ∀ {vs : List V} {ds : List PyData} {i : Nat} {d : PyData}, OdAll K b c H vs ds → ds[i]? = some d → ∃ v, vs[i]? = some v ∧ Od K b c H v d
  | _, _, _, _, .nil, e => by simp at e
  | _, _, 0, _, .cons h _, e => by simp at e; subst e; exact ⟨_, rfl, h⟩
  | _, _, i + 1, d, .cons _ t, e => by
    obtain ⟨v, h1, h2⟩ := oda_get' (i := i) (d := d) t (by simpa using e)
    exact ⟨v, by simpa using h1, h2⟩
theorem oda_app : ∀ {vs ws : List V} {ds es : List PyData}, OdAll K b c H vs ds → OdAll K b c H ws es → OdAll K b c H (vs ++ ws) (ds ++ es)
  | _, _, _, _, .nil, s => s
  | _, _, _, _, .cons h t, s => .cons h (oda_app t s)
theorem oda_take : ∀ {vs : List V} {ds : List PyData} (n : Nat), OdAll K b c H vs ds → OdAll K b c H (vs.take n) (ds.take n)
  | _, _, 0, _ => .nil
  | _, _, _ + 1, .nil => .nil
  | _, _, n + 1, .cons h t => .cons h (oda_take n t)
/-- the type of a thing -/
def tyD : PyData → String
  | .none => "NoneType"
  | .bool _ => "bool"
  | .int _ => "int"
  | .str _ => "str"
  | .list _ => "list"
  | .tuple _ => "tuple"
  | .dict _ => "dict"
theorem tyD_in (d : PyData) : tyD d ∈ tyNames := by cases d <;> simp [tyD, tyNames]
theorem od_ty {v : V} {d : PyData} (h : Od K b c H v d) : TyX K H v (.type (tyD d)) := by
  cases h with
  | non => exact .base .non
  | bl y => exact .base (.bl y)
  | int i => exact .base (.int i)
  | str y => exact .base (.str y)
  | tup h a =>
    rcases h with (h | ⟨o, h⟩) | ⟨o, its, n, hk, hc, _⟩
    · exact .base (.tup h)
    · exact .fTuple h
    · exact .kTuple hk hc
  | lst n h m a => exact .base (.lst h)
  | dct n h => exact .base (.dK h)
end
section
variable {X : Cx} {pins : List (Addr × Obj)} {σ : L2.St} {H : Hp} {s : Shared} {b : Addr} {c : Bool}
theorem pairs_read {es : List DictEntry} {kvs : List (Key × Value)} (p : Pairs (mixKind X.prog X.w) es kvs) : ∀ {ks : List (Key × Int)}, KV (ks.map fun p => (p.1, V.int p.2)) kvs → ReadsAll s.heap (es.map (·.key)) (ks.map fun p => keyD p.1) [] ∧ ReadsAll s.heap (es.map (·.val)) (ks.map fun p => PyData.int p.2) [] := by
  induction p with
  | nil =>
    intro ks r
    cases ks with
    | nil => exact ⟨.nil, .nil⟩
    | cons p r' => cases r
  | @cons e kv es kvs h1 h2 _ ih =>
    intro ks r
    cases ks with
    | nil => cases r
    | cons q r' =>
      cases r with
      | cons a t =>
        obtain ⟨g1, g2⟩ := ih t
        have hk : Reads s.heap e.key (keyD q.1) [] := by
          have h1 : keyIs kv.1 e.key = true := h1
          rw [← show q.1 = kv.1 from a.1] at h1
          rcases keyIs_shape h1 with ⟨i, t, z1, z2⟩ | ⟨y, t, z1, z2⟩
          · rw [z1, z2]; exact .int i t
          · rw [z1, z2]; exact .str y t
        have hv : Reads s.heap e.val (.int q.2) [] := by
          obtain ⟨t, z⟩ := a.2
          rw [h2, z]
          exact .int _ t
        exact ⟨.cons (as := []) (bs := []) hk g1, .cons (as := []) (bs := []) hv g2⟩
mutual
theorem od_reads (I : Inv X pins σ H s) : ∀ {v : V} {d : PyData} {u : Value}, Od X.K b c H v d → RelV v u → ∃ as, Reads s.heap u d as ∧ (c = true → sysModules ∉ as)
  | _, _, _, .non, r => by
    cases r
    exact ⟨_, .none, fun _ z => nomatch z⟩
  | _, _, _, .bl y, r => by
    cases r
    exact ⟨_, .bool y, fun _ z => nomatch z⟩
  | _, _, _, .int i, r => by
    obtain ⟨t, rfl⟩ := r
    exact ⟨_, .int i t, fun _ z => nomatch z⟩
  | _, _, _, .str y, r => by
    obtain ⟨t, rfl⟩ := r
    exact ⟨_, .str y t, fun _ z => nomatch z⟩
  | _, _, _, .tup hs ha, r => by
    cases r
    obtain ⟨its, rv, ⟨o, ho, hc, n, hd⟩, _⟩ := I.tuple hs
    obtain ⟨as, hr, hn⟩ := oda_reads I ha rv
    exact ⟨_, .tuple ho hc hd hr, hn⟩
  | _, _, _, .lst _ hs hm ha, r => by
    cases r
    obtain ⟨its, rv, ⟨o, n, ho, hc, _, hd⟩, _⟩ := I.list (sq_of hs)
    obtain ⟨as, hr, hn⟩ := oda_reads I ha rv
    refine ⟨_, .list ho hc hd hr, fun hc z => ?_⟩
    rcases List.mem_cons.mp z with z | z
    · exact hm hc z.symm
    · exact hn hc z
  | _, _, _, .dct _ hs, r => by
    cases r
    obtain ⟨_, hsys, vs, kv, o, es, ep, ho, hx, hd, _, hp, _⟩ := dk_of I.hok hs
    obtain ⟨g1, g2⟩ := pairs_read (X := X) (s := s) hp kv
    refine ⟨_, .dict (as := []) (bs := []) ho hx.1 hd (by rw [List.map_map]; exact g1) (by rw [List.map_map]; exact g2), fun _ z => ?_⟩
    have z' : sysModules ∈ [_] := z
    rw [← List.mem_singleton.mp z'] at hsys
    cases hsys
theorem oda_reads (I : Inv X pins σ H s) : ∀ {vs : List V} {ds : List PyData} {us : List Value}, OdAll X.K b c H vs ds → Vals vs us → ∃ as, ReadsAll s.heap us ds as ∧ (c = true → sysModules ∉ as)
  | _, _, _, .nil, r => by
    cases r
    exact ⟨_, .nil, fun _ z => nomatch z⟩
  | _, _, _, .cons h t, r => by
    cases r with
    | cons r1 r2 =>
      obtain ⟨as, q1, n1⟩ := od_reads I h r1
      obtain ⟨bs, q2, n2⟩ := oda_reads I t r2
      exact ⟨_, .cons q1 q2, fun hc z => (List.mem_append.mp z).elim (n1 hc) (n2 hc)⟩
end
/-! repr -/
def showOk (d : PyData) : Prop := d.showable = true ∧ d.depth ≤ 40 ∧ d.shown.length ≤ sizeLine
def rRep (K : PySem.W.Frag) : List V → Hp → VK → Prop := fun xs H Q => ∃ (b : Addr) (c : Bool) (v : V) (d : PyData), xs = [v] ∧ Od K b c H v d ∧ (c = true ∨ d.hasDict = false) ∧ showOk d ∧ Q (.str d.shown) H
theorem call_rep (gd : X.A.guards = some []) (hu : X.A.units + 64 < cLine) : CallR X (.builtin "repr") (rRep X.K) := by
  intro pins s σ H xs us Q I r h
  obtain ⟨b, c, v, d, rfl, hd, hc, ⟨h1, h2, h3⟩, q⟩ := h
  obtain ⟨u, rfl, ru⟩ := vals1 r
  obtain ⟨as, hr, hn⟩ := od_reads I hd ru
  have sm : d.hasDict = true → sysModules ∉ as := fun z => hc.elim hn fun y => by rw [z] at y; cases y
  cases hr with
  | none => exact PySem.P.repr_of_none ⟨.str _, H, I.tok _, ⟨_, rfl⟩, q⟩
  | bool y => exact PySem.P.repr_of_bool ⟨.str _, H, I.tok _, ⟨_, rfl⟩, q⟩
  | int i t => exact PySem.P.repr_of_int (of_decide_eq_true h1) ⟨.str _, H, I.tok _, ⟨_, rfl⟩, q⟩
  | str y t => exact PySem.P.repr_of_str ⟨.str _, H, I.tok _, ⟨_, rfl⟩, q⟩ h3
  | list e1 e2 e3 e4 => exact repr_of_reads' (.list e1 e2 e3 e4) h1 sm gd (by omega) (fun _ _ e => e) (fun h' u tk hk => ⟨.str _, H, I.kept hk, ⟨_, rfl⟩, q⟩) h3
  | tuple e1 e2 e3 e4 => exact repr_of_reads' (.tuple e1 e2 e3 e4) h1 sm gd (by omega) (fun _ _ e => e) (fun h' u tk hk => ⟨.str _, H, I.kept hk, ⟨_, rfl⟩, q⟩) h3
  | dict e1 e2 e3 e4 e5 => exact repr_of_reads' (.dict e1 e2 e3 e4 e5) h1 sm gd (by omega) (fun _ _ e => e) (fun h' u tk hk => ⟨.str _, H, I.kept hk, ⟨_, rfl⟩, q⟩) h3
/-! l != [] -/
def rNe0 (K : PySem.W.Frag) : R2 := fun x y H Q => ∃ (p q : Addr) (xs : List V), x = .ref p ∧ y = .ref q ∧ SqL K H p xs ∧ SqL K H q [] ∧ Q (.bl (!xs.isEmpty)) H
theorem op_ne0 (hu : X.A.units + 64 < cLine) : OpR X (compareOp .NotEq) (rNe0 X.K) := by
  intro pins s σ H x y v u Q I rx ry h
  obtain ⟨p, q, xs, rfl, rfl, hp, hq, k⟩ := h
  cases rx
  cases ry
  obtain ⟨its, rv, l1, _⟩ := I.list hp
  obtain ⟨its2, rv2, l2, _⟩ := I.list hq
  cases rv2
  cases xs with
  | nil =>
    cases rv
    obtain ⟨o, n, ho, hc, _, hd⟩ := l1
    obtain ⟨o2, n2, ho2, hc2, _, hd2⟩ := l2
    exact SeqAt.compareNe_shaped (.list ho hc hd .nil) (.list ho2 hc2 hd2 .nil) (by decide +kernel) (by decide +kernel) hu ⟨.bl _, H, I, rfl, k⟩
  | cons z zs =>
    cases rv
    exact SeqAt.RcNeAt.lists_lengths l1.isList l2.isList (by simp) (by omega) X.prog X.w _ _ ⟨.bl _, H, I, rfl, k⟩
/-! a list that is made stands elsewhere than the modules -/
def tLstB (t : TA) : TE := fun σ H Q => t σ H fun xs H1 => xs.length ≤ sizeLine ∧ ∀ p, H1 p = none → p ≠ sysModules → Q (.ref p) (upd H1 p (.lst xs))
theorem pe_lstB {es : List Expr} {t : TA} {pos : Pos} (h : PA X es t) : PE X (.List es pos) (tLstB t) := ⟨fun pins s σ H Q I hq => wpAny_List_spliced (thn (h.run pos pins s σ H _ I hq) fun us s1 ⟨xs, H1, I1, r, z, q⟩ => ⟨by rw [← r.length]; exact z,
  .ref s1.heap.objs.size, upd H1 s1.heap.objs.size (.lst xs), I1.laid (t' := s1.toks) (fun b u e => Heap.get?_push_of_some _ e) (Nat.le_refl _) ⟨z, us, 0, r, Heap.get?_push_size _ rfl⟩, rfl, q _ (I1.hok.fresh (Nat.le_refl _)) (Nat.ne_of_gt I1.big)⟩)⟩
end
/-! ### what evaluates to which thing -/
theorem any_filter {α : Type} (f : α → Bool) : ∀ xs : List α, (!(xs.filter f).isEmpty) = xs.any f
  | [] => rfl
  | x :: xs => by
    rw [List.filter_cons, List.any_cons]
    cases f x with
    | true => rfl
    | false => exact any_filter f xs
def EvO (K : PySem.W.Frag) (b : Addr) (c : Bool) (te : TE) (σ : L2.St) (H : Hp) (d : PyData) : Prop := ∀ H1, Ex H H1 → ∀ Q : VK, (∀ v H2, Ex H1 H2 → Od K b c H2 v d → Q v H2) → te σ H1 Q
def EvOB (K : PySem.W.Frag) (b : Addr) (c : Bool) (ta : TA) (σ : L2.St) (H : Hp) (ds : List PyData) : Prop := ∀ H1, Ex H H1 → ∀ Q : List V → Hp → Prop, (∀ vs H2, Ex H1 H2 → OdAll K b c H2 vs ds → Q vs H2) → ta σ H1 Q
section
variable {K : PySem.W.Frag} {b : Addr} {c : Bool} {σ : L2.St} {H H' : Hp} {ta tb te tl : TE} {t : TT} {v : V} {d : PyData} {ds es : List PyData}
theorem EvO.mono (e : Ex H H') (h : EvO K b c te σ H d) : EvO K b c te σ H' d := fun H1 a Q q => h H1 (e.trans a) Q q
theorem eo_d (h : EvD K te σ H d) : EvO K b c te σ H d := fun H1 e Q q => h H1 e Q fun v H2 e2 hv => q v H2 e2 (od_dt hv)
theorem eo_var {i : Nat} (h : σ[i]? = some (some v)) (hd : Od K b c H v d) : EvO K b c (tVar i) σ H d := fun H1 e _ q => ⟨v, h, q v H1 (Ex.refl H1) (od_ex e hd)⟩
theorem eo_is {e : PyData} (h : EvO K b c te σ H d) (q : d = e) : EvO K b c te σ H e := q ▸ h
theorem ob_nil : EvOB K b c tNil σ H [] := fun H1 _ _ q => q [] H1 (Ex.refl H1) .nil
theorem ob_cons {tr : TA} (h : EvO K b c ta σ H d) (hr : EvOB K b c tr σ H ds) : EvOB K b c (tCons ta tr) σ H (d :: ds) := fun H1 e _ q =>
  h H1 e _ fun v H2 e2 hd => hr H2 (e.trans e2) _ fun vs H3 e3 ha => q (v :: vs) H3 (e2.trans e3) (.cons (od_ex e3 hd) ha)
theorem eo_non : EvO K b c (tC .non) σ H .none := fun H1 _ _ q => q _ H1 (Ex.refl H1) .non
theorem eo_bl {x : Bool} : EvO K b c (tC (.bl x)) σ H (.bool x) := fun H1 _ _ q => q _ H1 (Ex.refl H1) (.bl x)
theorem eo_str {x : Str} : EvO K b c (tC (.str x)) σ H (.str x) := fun H1 _ _ q => q _ H1 (Ex.refl H1) (.str x)
theorem eo_int {i : Int} (h : Ev te σ H (.int i)) : EvO K b c te σ H (.int i) := eo_d (ed_int h)
theorem eo_tup {ta : TA} (h : EvOB K b c ta σ H ds) (hl : ds.length ≤ 100000) : EvO K b c (tTup ta) σ H (.tuple ds) := fun H1 e _ q =>
  h H1 e _ fun vs H2 e2 ha => ⟨sz_of (by rw [oda_len ha]; exact hl), fun p hp => q _ _ (e2.trans (Ex.new hp)) (.tup (.inl (.inl upd_same)) (oda_ex (Ex.new hp) ha))⟩
theorem eo_lst {ta : TA} (hb : BoxAt H b) (h : EvOB K b c ta σ H ds) (hl : ds.length ≤ 100000) : EvO K b c (tLstB ta) σ H (.list ds) := fun H1 e _ q =>
  h H1 e _ fun vs H2 e2 ha => ⟨sz_of (by rw [oda_len ha]; exact hl), fun p hp hs => q _ _ (e2.trans (Ex.new hp)) (.lst (box_ne (hb.ex (e.trans e2)) hp) upd_same (fun _ => hs) (oda_ex (Ex.new hp) ha))⟩
theorem eo_dict0 (hb : BoxAt H b) : EvO K b c tDNewK σ H (dictD []) := fun H1 e _ q p hp => q _ _ (Ex.new hp) (.dct (ks := []) (box_ne (hb.ex e) hp) upd_same)
theorem eo_dict1 {i j : Int} (hb : BoxAt H b) : EvO K b c (tDisp [(tC (.int i), tC (.int j))]) σ H (dictD [(.inl i, j)]) := fun H1 e _ q p hp =>
  ⟨upd_same, [(.inl i, .int j)], rfl, by show 1 ≤ 15; decide, q _ _ (Ex.mut (Ex.new hp) hp) (.dct (ks := [(.inl i, j)]) (box_ne (hb.ex e) hp) upd_same)⟩
theorem eo_dict2 {i j k l : Int} (hb : BoxAt H b) (hk : i ≠ k) : EvO K b c (tDisp [(tC (.int i), tC (.int j)), (tC (.int k), tC (.int l))]) σ H (dictD [(.inl i, j), (.inl k, l)]) := fun H1 e _ q p hp =>
  ⟨upd_same, [(.inl i, .int j), (.inl k, .int l)], rfl, by show 2 ≤ 15; decide, q _ _ (Ex.mut (Ex.new hp) hp) (.dct (ks := [(.inl i, j), (.inl k, l)]) (box_ne (hb.ex e) hp) (by
    rw [upd_same]
    congr 2
    show putK (putK ([] : List (Key × V)) (Sum.inl i) (.int j)) (Sum.inl k) (.int l) = _
    have e1 : putK ([] : List (Key × V)) (Sum.inl i) (.int j) = [(Sum.inl i, .int j)] := rfl
    rw [e1, putK_new (.int l) (by rw [valV_neg (fun z => hk (Sum.inl.inj z))]; rfl)]
    rfl))⟩
theorem eo_cat {xs ys : List PyData} (ha : EvO K b c ta σ H (.tuple xs)) (hb : EvO K b c tb σ H (.tuple ys)) (hl : xs.length + ys.length ≤ 100000) : EvO K b c (tOp (rCatA K) ta tb) σ H (.tuple (xs ++ ys)) := fun H1 e Q q =>
  ha H1 e _ fun v H2 e2 hv => hb H2 (e.trans e2) _ fun w H3 e3 hw => by
    have hv := od_ex e3 hv
    cases hv with
    | tup hs hx =>
      cases hw with
      | tup ht hy =>
        refine ⟨_, _, _, _, rfl, rfl, hs, ht, sz_of (by rw [oda_len hx, oda_len hy]; exact hl), fun z => ?_, fun _ z => ?_, fun _ _ p hp => ?_⟩
        · subst z
          cases hx
          exact q _ _ (e2.trans e3) (.tup ht hy)
        · subst z
          cases hy
          rw [List.append_nil] at q
          exact q _ _ (e2.trans e3) (.tup hs hx)
        · exact q _ _ ((e2.trans e3).trans (Ex.new hp)) (.tup (.inl (.inl upd_same)) (oda_ex (Ex.new hp) (oda_app hx hy)))
/-- list(t), of a tuple -/
theorem eo_list (hb : BoxAt H b) (h : EvO K b false te σ H (.tuple ds)) : EvO K b false (tCB (rListS K) (tCons te tNil)) σ H (.list ds) := fun H1 e Q q =>
  h H1 e _ fun v H2 e2 hv => by
    cases hv with
    | tup hs hx => exact ⟨_, _, rfl, .inr hs, fun p hp => q _ _ (e2.trans (Ex.new hp)) (.lst (box_ne (hb.ex (e.trans e2)) hp) upd_same (fun z => nomatch z) (oda_ex (Ex.new hp) hx))⟩
theorem cutV_take (xs : List V) (n : Nat) : cutV xs none (some (n : Int)) = xs.take n := by
  unfold cutV
  rw [HT.sIx_none, show HT.sIx xs.length xs.length (some (n : Int)) = min n xs.length from HT.sIx_nat xs.length xs.length n]
  show (xs.drop 0).take (min n xs.length - 0) = xs.take n
  rw [List.drop_zero, Nat.sub_zero, List.take_eq_take_iff]
  simp
/-- t[:n] -/
theorem eo_cut {n : Nat} {tn : TE} (h : EvO K b c te σ H (.tuple ds)) (hn : Ev tn σ H (.int (n : Int))) : EvO K b c (tSl (rSlA K) te tNoPart (tPart tn)) σ H (.tuple (ds.take n)) := fun H1 e Q q =>
  h H1 e _ fun v H2 e2 hv => hn H2 (e.trans e2) _ fun H3 e3 => by
    have hv := od_ex e3 hv
    cases hv with
    | tup hs hx =>
      rename_i a xs
      refine ⟨_, rfl, _, _, rfl, hs, fun hw => ?_, fun hw p hp => ?_⟩
      · have h2 := hw.2
        rw [show HT.sIx xs.length xs.length (some (n : Int)) = min n xs.length from HT.sIx_nat xs.length xs.length n] at h2
        have : ds.take n = ds := List.take_of_length_le (by rw [← oda_len hx]; omega)
        rw [this] at q
        exact q _ _ (e2.trans e3) (.tup hs hx)
      · refine q _ _ ((e2.trans e3).trans (Ex.new hp)) (.tup (.inl (.inl (by rw [upd_same, cutV_take]))) (oda_ex (Ex.new hp) (oda_take n hx)))
/-- range from below nought on -/
theorem s_forRN {D : Ends} {tu : TS} {ta : TA} {j : Nat} {lo n : Int} (h : EvA ta σ H [.int lo, .int n]) (hn : -1000 ≤ lo ∧ lo ≤ 1000 ∧ -1000 ≤ n ∧ n ≤ 1000) (Pv : Nat → L2.St → Hp → Prop) (h0 : ∀ H1, Ex H H1 → Pv 0 σ H1)
    (hs : ∀ (i : Nat) σ' H', lo + (i : Int) < n → Pv i σ' H' → tu { D with nx := Pv (i + 1), ct := Pv (i + 1), bk := D.nx } (σ'.set j (some (.int (lo + (i : Int))))) H') (hd : ∀ σ' H', Pv (n - lo).toNat σ' H' → D.nx σ' H') : tFor (iRng2 ta) (gName j) tu D σ H :=
  h H (Ex.refl H) _ fun H1 e => ⟨lo, n, rfl, ⟨by omega, by omega, by omega, by omega⟩, for_range (lo := lo) (n := (n - lo).toNat) Pv (h0 H1 e) (fun i σ' H' hi p => hs i σ' H' (by omega) p) hd⟩
theorem q_forRN {D : Ends} {tu tz : TS} {ta : TA} {j : Nat} {lo n : Int} (h : EvA ta σ H [.int lo, .int n]) (hn : -1000 ≤ lo ∧ lo ≤ 1000 ∧ -1000 ≤ n ∧ n ≤ 1000) (Pv : Nat → L2.St → Hp → Prop) (h0 : ∀ H1, Ex H H1 → Pv 0 σ H1)
    (hs : ∀ (i : Nat) σ' H', lo + (i : Int) < n → Pv i σ' H' → tu { D with nx := Pv (i + 1), ct := Pv (i + 1), bk := tz D } (σ'.set j (some (.int (lo + (i : Int))))) H') (hd : ∀ σ' H', Pv (n - lo).toNat σ' H' → tz D σ' H') : tSeq (tFor (iRng2 ta) (gName j) tu) tz D σ H := s_forRN (D := { D with nx := tz D }) h hn Pv h0 hs hd
end
/-! things for the asking -/
def Tg (K : PySem.W.Frag) (b : Addr) (H : Hp) (v : V) (d : PyData) : Prop := ∃ c, Od K b c H v d ∧ (c = true ∨ d.hasDict = false)
inductive TgAll (K : PySem.W.Frag) (b : Addr) (H : Hp) : List V → List PyData → Prop
  | nil : TgAll K b H [] []
  | cons {v : V} {vs : List V} {d : PyData} {ds : List PyData} : Tg K b H v d → TgAll K b H vs ds → TgAll K b H (v :: vs) (d :: ds)
def EvTB (K : PySem.W.Frag) (b : Addr) (ta : TA) (σ : L2.St) (H : Hp) (ds : List PyData) : Prop := ∀ H1, Ex H H1 → ∀ Q : List V → Hp → Prop, (∀ vs H2, Ex H1 H2 → TgAll K b H2 vs ds → Q vs H2) → ta σ H1 Q
def EvTF (K : PySem.W.Frag) (b : Addr) (te : TE) (σ : L2.St) (H : Hp) (ds : List PyData) : Prop := ∀ H1, Ex H H1 → ∀ Q : VK, (∀ p xs H2, H1 p = none → Ex H1 H2 → H2 p = some (.lst xs) → TgAll K b H2 xs ds → Q (.ref p) H2) → te σ H1 Q
section
variable {K : PySem.W.Frag} {b : Addr} {c : Bool} {σ : L2.St} {H H' : Hp} {ta tb te tl : TE} {t : TT} {v : V} {d : PyData} {ds es : List PyData} {D : Ends} {tz tu : TS} {i : Nat}
theorem tg_bk (x : Bk b H H') (h : Tg K b H v d) : Tg K b H' v d := by
  obtain ⟨c, h1, h2⟩ := h
  exact ⟨c, od_bk x h1, h2⟩
theorem tg_ex (e : Ex H H') (h : Tg K b H v d) : Tg K b H' v d := tg_bk (bk_ex e) h
theorem tga_ex (e : Ex H H') : ∀ {vs : List V} {ds : List PyData}, TgAll K b H vs ds → TgAll K b H' vs ds
  | _, _, .nil => .nil
  | _, _, .cons h t => .cons (tg_ex e h) (tga_ex e t)
theorem tga_len : ∀ {vs : List V} {ds : List PyData}, TgAll K b H vs ds → vs.length = ds.length
  | _, _, .nil => rfl
  | _, _, .cons _ t => by rw [List.length_cons, List.length_cons, tga_len t]
theorem tga_get : ∀ {vs : List V} {ds : List PyData} {i : Nat} {v : V}, TgAll K b H vs ds → vs[i]? = some v → ∃ d, ds[i]? = some d ∧ Tg K b H v d
  | _, _, _, _, .nil, e => by simp at e
  | _, _, 0, _, .cons h _, e => by simp at e; subst e; exact ⟨_, rfl, h⟩
  | _, _, i + 1, v, .cons _ t, e => by
    obtain ⟨d, h1, h2⟩ := tga_get (i := i) (v := v) t (by simpa using e)
    exact ⟨d, by simpa using h1, h2⟩
theorem tga_app : ∀ {vs ws : List V} {ds es : List PyData}, TgAll K b H vs ds → TgAll K b H ws es → TgAll K b H (vs ++ ws) (ds ++ es)
  | _, _, _, _, .nil, s => s
  | _, _, _, _, .cons h t, s => .cons h (tga_app t s)
theorem tb_nil : EvTB K b tNil σ H [] := fun H1 _ _ q => q [] H1 (Ex.refl H1) .nil
theorem tb_cons {tr : TA} (h : EvO K b true ta σ H d) (hr : EvTB K b tr σ H ds) : EvTB K b (tCons ta tr) σ H (d :: ds) := fun H1 e _ q =>
  h H1 e _ fun v H2 e2 hd => hr H2 (e.trans e2) _ fun vs H3 e3 ha => q (v :: vs) H3 (e2.trans e3) (.cons ⟨true, od_ex e3 hd, .inl rfl⟩ ha)
theorem tb_consF {tr : TA} (h : EvO K b false ta σ H d) (hd : d.hasDict = false) (hr : EvTB K b tr σ H ds) : EvTB K b (tCons ta tr) σ H (d :: ds) := fun H1 e _ q =>
  h H1 e _ fun v H2 e2 ho => hr H2 (e.trans e2) _ fun vs H3 e3 ha => q (v :: vs) H3 (e2.trans e3) (.cons ⟨false, od_ex e3 ho, .inr hd⟩ ha)
theorem tf_lst {ta : TA} (h : EvTB K b ta σ H ds) (hl : ds.length ≤ 100000) : EvTF K b (tLst ta) σ H ds := fun H1 e _ q =>
  h H1 e _ fun vs H2 e2 ha => ⟨sz_of (by rw [tga_len ha]; exact hl), fun p hp => q p vs _ (fresh_back e2 hp) (e2.trans (Ex.new hp)) upd_same (tga_ex (Ex.new hp) ha)⟩
theorem tf_catLF {p : Addr} {xs : List V} (ha : Ev ta σ H (.ref p)) (hp : H p = some (.lst xs)) (hx : TgAll K b H xs ds) (hb : EvTF K b tb σ H es) (hl : ds.length + es.length ≤ 100000) : EvTF K b (tOp rCat ta tb) σ H (ds ++ es) := fun H1 e Q q =>
  ha H1 e _ fun H2 e2 => hb H2 (e.trans e2) _ fun r ys H3 _ e3 hr hy =>
    ⟨_, _, _, _, rfl, rfl, ((e.trans e2).trans e3) p _ hp, hr, sz_of (by rw [tga_len hx, tga_len hy]; exact hl), fun n hn =>
      q n _ _ (fresh_back (e2.trans e3) hn) ((e2.trans e3).trans (Ex.new hn)) upd_same (tga_ex (Ex.new hn) (tga_app (tga_ex ((e.trans e2).trans e3) hx) hy))⟩
theorem q_asgTF (h : EvTF K b te σ H ds) (k : ∀ p xs H1, H p = none → Ex H H1 → H1 p = some (.lst xs) → TgAll K b H1 xs ds → tz D (σ.set i (some (.ref p))) H1) : tSeq (tAsg te (gName i)) tz D σ H := h H (Ex.refl H) _ k
theorem s_forTg {g : TG} (h : EvTF K b tl σ H ds) (Pv : Nat → L2.St → Hp → Prop) (h0 : ∀ H1, Ex H H1 → Pv 0 σ H1)
    (hs : ∀ H1 i x d σ' H', Ex H H1 → Ex H1 H' → ds[i]? = some d → Tg K b H' x d → Pv i σ' H' → g x σ' H' fun σ2 H2 => tu { D with nx := fun σ3 H3 => Ex H1 H3 ∧ Pv (i + 1) σ3 H3, ct := fun σ3 H3 => Ex H1 H3 ∧ Pv (i + 1) σ3 H3, bk := D.nx } σ2 H2)
    (hd : ∀ σ' H', Ex H H' → Pv ds.length σ' H' → D.nx σ' H') : tFor (iList K tl) g tu D σ H :=
  h H (Ex.refl H) _ fun p xs H1 np e1 hp hx => ⟨p, rfl, ⟨xs, sq_of hp⟩, for_list (xs := xs) (fun i σ' H' => Ex H1 H' ∧ Pv i σ' H') ⟨Ex.refl _, h0 H1 e1⟩ (fun i σ' H' _ hw => sq_of (hw.1 p _ hp)) (fun i x σ' H' hi hw => by
      obtain ⟨d, h1, h2⟩ := tga_get (tga_ex hw.1 hx) hi
      exact hs H1 i x d σ' H' e1 hw.1 h1 h2 hw.2) (fun σ' H' hw => hd σ' H' (e1.trans hw.1) (by rw [← tga_len hx]; exact hw.2))⟩
/-- [..][take], things in the list -/
theorem q_menuO {ta : TA} {tk : TE} (hl : EvOB K b true ta σ H ds) (hz : ds.length ≤ 1000) (hb : BoxAt H b) (hi : ∀ H', Ex H H' → BoxAt H' b → EvK K b tk σ H' (fun d => ∃ r : Int, d = .int r ∧ 0 ≤ r ∧ r < (ds.length : Int)))
    (k : ∀ v d H2, d ∈ ds → Od K b true H2 v d → BoxAt H2 b → Bk b H H2 → tz D (σ.set i (some v)) H2) : tSeq (tAsg (tOp (rIxL K) (tLst ta) tk) (gName i)) tz D σ H :=
  hl H (Ex.refl H) _ fun xs H1 e1 hx => ⟨sz_of (by rw [oda_len hx]; omega), fun p hp => hi _ (e1.trans (Ex.new hp)) (hb.ex (e1.trans (Ex.new hp))) _ fun v d H2 hr hv hb2 x2 => by
    obtain ⟨r, rfl, r0, r1⟩ := hr
    cases hv
    obtain ⟨m, rfl⟩ : ∃ m : Nat, r = (m : Int) := ⟨r.toNat, by omega⟩
    have hm : m < ds.length := by omega
    have np : p ≠ b := box_ne (hb.ex e1) hp
    obtain ⟨w, hw, hd⟩ := oda_get' (oda_bk x2 (oda_ex (Ex.new hp) hx)) (List.getElem?_eq_getElem hm)
    exact ⟨p, xs, (m : Int), w, rfl, rfl, sq_of (x2.bx p _ np upd_same), atI_nat hw, k w _ H2 (List.getElem_mem hm) hd hb2 ((bk_ex (e1.trans (Ex.new hp))).trans x2)⟩⟩
/-- repr(x) -/
theorem ev_rep (h : Ev te σ H v) (hv : Tg K b H v d) (hs : showOk d) : Ev (tCB (rRep K) (tCons te tNil)) σ H (.str d.shown) := fun H1 e Q q => h H1 e _ fun H2 e2 => by
  obtain ⟨c, h1, h2⟩ := hv
  exact ⟨b, c, v, d, rfl, od_ex (e.trans e2) h1, h2, hs, q H2 e2⟩
/-- the items of a tuple that pass, as they are -/
theorem ne_lcT {a : Addr} {xs : List V} {j : Nat} {vs : List Nat} (f : V → Bool) (h : Ev tl σ H (.ref a)) (hx : SqT K H a xs) (hz : xs.length < 50000) (hw : ∀ x, wipe ((wipe σ vs).set j (some x)) vs = wipe σ vs) (hj : ∀ x, ((wipe σ vs).set j (some x))[j]? = some (some x))
    (ht : ∀ (x : V) H1, Ex H H1 → x ∈ xs → EvT t ((wipe σ vs).set j (some x)) H1 (f x)) : Ev (tOp (rNe0 K) (tLc (iTup K tl) (gName j) t (tVar j) vs) (tLst tNil)) σ H (.bl (xs.any f)) := fun H0 e Q q => h H0 e _ fun H1 e1 => ⟨a, rfl, ⟨xs, ex_t (e.trans e1) hx⟩, fun Dl hD => by
  have e01 := e.trans e1
  refine lc_tup (xs := xs) (fun i H' => H1 Dl = none ∧ Ex H1 H' ∧ H' Dl = some (.lst ((xs.take i).filter f))) ⟨hD, Ex.new hD, upd_same⟩ (fun i H' _ p => ex_t (e01.trans p.2.1) hx) (fun i x H' hi p => ⟨hw x, ?_⟩) (fun H' p => ?_)
  · obtain ⟨p1, p2, p3⟩ := p
    refine ht x H' (e01.trans p2) (List.mem_of_getElem? hi) H' (Ex.refl H') _ fun H3 e3 => ?_
    have en := filter_take_succ (f := f) hi
    cases hb : f x with
    | true =>
      rw [hb, if_pos rfl] at en
      refine iteT ⟨x, hj x, _, e3 Dl _ p3, sz_lt ?_, p1, Ex.mut (p2.trans e3) p1, by rw [upd_same, en]⟩
      have h1 := List.length_filter_le f (xs.take i)
      have h2 : (xs.take i).length ≤ xs.length := by rw [List.length_take]; exact Nat.min_le_right _ _
      omega
    | false =>
      rw [hb, if_neg Bool.false_ne_true, List.append_nil] at en
      refine iteF ⟨p1, p2.trans e3, by rw [en]; exact e3 Dl _ p3⟩
  · obtain ⟨p1, p2, p3⟩ := p
    rw [List.take_of_length_le (Nat.le_refl _)] at p3
    refine ⟨sz_of (by show 0 ≤ 100000; decide), fun r hr => ⟨Dl, r, _, rfl, rfl, sq_of (Ex.new hr Dl _ p3), sq_of upd_same, ?_⟩⟩
    rw [any_filter f xs]
    exact q _ ((e1.trans p2).trans (Ex.new hr))⟩
end
/-! ### the program's curves and lots -/
theorem free_of {cells : List (Str × Addr)} {names : List (Str × NameKind)} (h : (names.all fun y => !(decide (y.2 = .free)) || (cells.lookup y.1).isSome) = true) : ∀ y ∈ names, y.2 = .free → ∃ c, cells.lookup y.1 = some c := fun y hy e => by
  have q := List.all_eq_true.mp h y hy
  rw [decide_eq_true e] at q
  exact Option.isSome_iff_exists.mp q
theorem tyx_ex {K : PySem.W.Frag} {H H' : Hp} {v : V} {t : String} (e : Ex H H') (ty : TyX K H v (.type t)) : TyX K H' v (.type t) := by
  cases ty with
  | base b =>
    cases b with
    | non => exact .base .non
    | bl x => exact .base (.bl x)
    | int i => exact .base (.int i)
    | str x => exact .base (.str x)
    | flt x => exact .base (.flt x)
    | lst h => exact .base (.lst (e _ _ h))
    | frz h => exact .base (.frz (e _ _ h))
    | tup h => exact .base (.tup (e _ _ h))
    | dK h => exact .base (.dK (e _ _ h))
    | dT h => exact .base (.dT (e _ _ h))
  | byt b => exact .byt b
  | set h => exact .set (e _ _ h)
  | kList h c => exact .kList h c
  | kTuple h c => exact .kTuple h c
  | kDict h c => exact .kDict h c
  | fTuple h => exact .fTuple (e _ _ h)
  | fDict h => exact .fDict (e _ _ h)
theorem ty_sqt {K : PySem.W.Frag} {H : Hp} {a : Addr} {xs : List V} (h : SqT K H a xs) : TyX K H (.ref a) (.type "tuple") := by
  rcases h with (h | ⟨o, h⟩) | ⟨o, its, n, hk, hc, _⟩
  · exact .base (.tup h)
  · exact .fTuple h
  · exact .kTuple hk hc
/-- a def whose code object stands at c -/
structure Dc (K : PySem.W.Frag) (mg : Str → Option Value) (x : Str) (st : Stmt) (ps : List Str) (f : Addr) (fd : FuncData) (c : Addr) : Prop where
  F : Fun K x x st f fd
  g : mg x = some (.ref f)
  b : Binds K fd ps []
  cd : ∃ (oc : Value) (od : Option Addr) (kV doc pm : Value) (an : Option Addr) (ct : Value) (osl : Array (Option Value)), fd = PySem.W.fnOf x x (defArgs st) (defBody st) (defScope st) .none kV doc pm an (.ref c) ct ∧ K.lookup f = some ⟨oc, od, .func fd, osl⟩ ∧ PySem.W.codeIn K (.ref c) x = true
theorem Dc.ok {P : Program} {w : World} {K : PySem.W.Frag} {mg : Str → Option Value} {base : Heap} {x : Str} {st : Stmt} {f c : Addr} {fd : FuncData} {N ps : List Str} {k : Nat} {sp : Sp} (D : Dc K mg x st ps f fd c) (S : FnScope N ps (defScope st)) (len : ∀ vs H Q E, sp vs H Q E → vs.length = ps.length)
    (hbody : ∀ (A : Around) (outer : List Env) (s : Shared) (H : Hp) (vs : List V) (Q : VK) (E : XK), Room k (A.deeper (envOfC x (defScope st) s.heap.objs.size f (.ref c))) → sp vs H Q E →
      ∃ t, PSs (cxOf CX0 P w K mg base N x (defScope st) f (.ref c) A outer s H E).nox (defBody st) t ∧ t { nx := fun _ H' => Q .non H', rt := Q } (start N vs) H) : FnOk P w K mg base CX0 (k + 1) f fd ps sp := by
  obtain ⟨oc, od, kV, doc, pm, an, ct, osl, rfl, lk, hcd⟩ := D.cd
  refine fn_of lk hcd S len fun A outer s H vs Q E hr hsp => ?_
  obtain ⟨t, h, q⟩ := hbody A outer s H vs Q E hr hsp
  exact ⟨t, h.nox, q⟩
def risingL (ns : List Int) : Bool := (List.range (min ns.length (ns.drop 1).length)).all fun i => decide (ns.getD i 0 < (ns.drop 1).getD i 0)
def curve2 : V → V → Bool
  | .int m, .int d => decide (1 ≤ d) && decide (d ≤ 6) && (decide (d < m) && decide (m ≤ 9))
  | _, _ => false
def curveB : List V → Bool
  | [x, y] => curve2 x y
  | _ => false
def okC (m d : Int) : Prop := 1 ≤ d ∧ d ≤ 6 ∧ d < m ∧ m ≤ 9
theorem cut1 (xs : List V) : cutV xs (some 1) none = xs.drop 1 := by
  unfold cutV
  rw [show HT.sIx xs.length 0 (some 1) = min 1 xs.length from HT.sIx_nat xs.length 0 1, HT.sIx_none]
  cases xs with
  | nil => rfl
  | cons x r =>
    rw [show min 1 (x :: r).length = 1 by rw [List.length_cons]; omega]
    show List.take ((x :: r).length - 1) r = r
    rw [List.length_cons, Nat.add_sub_cancel, List.take_length]
section
variable {P : Program} {w : World} {K : PySem.W.Frag} {mg : Str → Option Value} {base : Heap}
/-- what a thing is handed in as: its type, its items' types where it is a tuple -/
def Typed (K : PySem.W.Frag) (H : Hp) (v : V) : Prop := ∃ t, t ∈ tyNames ∧ TyX K H v (.type t)
theorem Typed.ex {H H' : Hp} {v : V} (e : Ex H H') (h : Typed K H v) : Typed K H' v := by
  obtain ⟨t, ht, h⟩ := h
  exact ⟨t, ht, tyx_ex e h⟩
theorem typed_int {H : Hp} {i : Int} : Typed K H (.int i) := ⟨"int", by decide, .base (.int i)⟩
theorem ev_wholeT {σ : L2.St} {H : Hp} {te : TE} {v : V} {E : XK} (h : Ev te σ H v) (ht : Typed K H v) : ∃ b, (b = true ↔ ∃ i, v = .int i) ∧ Ev (tCall (spWhole K) [] E (tCons te tNil)) σ H (.bl b) := by
  obtain ⟨t, h1, h2⟩ := ht
  refine ⟨t == "int", ⟨fun e => ty_int_inv h2 (eq_of_beq e), fun e => ?_⟩, ev_whole h h1 fun H1 e => tyx_ex e h2⟩
  obtain ⟨i, rfl⟩ := e
  rw [ty_of_int h2]
  rfl
end
section
variable {P : Program} {w : World} {K : PySem.W.Frag} {mg : Str → Option Value} {base : Heap}
/-! is_curve -/
def ThC (K : PySem.W.Frag) (H : Hp) (v : V) (b : Bool) : Prop := (∃ t, t ∈ tyNames ∧ t ≠ "tuple" ∧ TyX K H v (.type t) ∧ b = false) ∨ ∃ a xs, v = .ref a ∧ SqT K H a xs ∧ (∀ y ∈ xs, Typed K H y) ∧ b = curveB xs
def spIsC (K : PySem.W.Frag) : Sp := fun vs H Q _ => ∃ (v : V) (b : Bool), vs = [v] ∧ ThC K H v b ∧ ∀ H2, Ex H H2 → Q (.bl b) H2
def tupGood : Bool := tyNames.all fun t => decide (kitB t "tuple" = some (t == "tuple"))
theorem tup_good : tupGood = true := by decide +kernel
theorem ty_tup {t : String} (h : t ∈ tyNames) : kitB t "tuple" = some (t == "tuple") := of_decide_eq_true (List.all_eq_true.mp tup_good t h)
theorem ok_is_curve {f fw : Addr} {fd fdw : FuncData} {k : Nat} {t1 t2 : Tok} (D : Df K mg "is_curve" s_is_curve ["thing"] f fd) (D_is_whole : Df K mg "is_whole" s_is_whole ["thing"] fw fdw) (B : Bt mg) (c_MOST_DEEP : mg "MOST_DEEP" = some (.int 6 t1)) (c_MOST_CORNERS : mg "MOST_CORNERS" = some (.int 9 t2)) : FnOk P w K mg base CX0 (k + 2) f fd ["thing"] (spIsC K) := by
  have G_is_whole : FnOk P w K mg base CX0 (k + 1) fw fdw ["thing"] (spWhole K) := ok_is_whole D_is_whole B
  refine D.F.ok sc_is_curve (fun vs H Q E h => ?_) (fun cdv A outer s H vs Q E hr h => ?_)
  · obtain ⟨a, ns, rfl, _⟩ := h
    rfl
  · obtain ⟨v, b, rfl, hv, q⟩ := h
    refine ⟨_, (pss_cons (ps_if (PW.pt (pw_or (pt_not (pt_val (pe_callB (show CallR _ _ (rIsi K) from call_isi) (by rfl) B.isinstance_ (by decide +kernel) (pa_cons (pv 0) (pa_cons (pe_bltn (v := .ty "tuple") (by rfl) B.tuple_ (by decide +kernel) rfl) pa_nil))))) (pw_or1 (pt_cmpR op_ne (pe_callB (show CallR _ _ (rLenS K) from call_len_seq) (by rfl) B.len_ (by decide +kernel) (pa_cons (pv 0) pa_nil)) pe_int (nomark _)))))   (pss_one (ps_ret pe_bl))   pss_nil)  (pss_cons (ps_asg (pv 0) (pg_tup (by rfl) (pgs_cons (pg_name (i := 1) sc_is_curve.nd rfl (.inl rfl)) (pgs_cons (pg_name (i := 2) sc_is_curve.nd rfl (.inl rfl)) pgs_nil))))  (pss_cons (ps_if (PW.pt (pw_or (pt_not (pt_val (pe_call G_is_whole (hr.mono (by omega)) (by rfl) D_is_whole.g D_is_whole.F.kp D_is_whole.b .nil pass0 (pa_cons (pv 1) pa_nil)))) (pw_or1 (pt_not (pt_val (pe_call G_is_whole (hr.mono (by omega)) (by rfl) D_is_whole.g D_is_whole.F.kp D_is_whole.b .nil pass0 (pa_cons (pv 2) pa_nil)))))))   (pss_one (ps_ret pe_bl))   pss_nil)  (pss_one (ps_ret (pe_and (pe_chain op_le op_le pe_int (pv 2) (pe_glob (v := .int 6) rfl c_MOST_DEEP ⟨_, rfl⟩)) (pe_one (pe_chain op_lt op_le (pv 2) (pv 1) (pe_glob (v := .int 9) rfl c_MOST_CORNERS ⟨_, rfl⟩))))))))), ?_⟩
    rcases hv with ⟨t, ht, hnt, ty, rfl⟩ | ⟨a, xs, rfl, hS, hty, rfl⟩
    · have e0 : (t == "tuple") = false := beq_eq_false_iff_ne.mpr hnt
      refine q_when (b := true) (fun H1 e1 Q' q' => ?_) (fun _ H1 e1 => s_ret ev_c fun H2 e2 => q H2 (e1.trans e2)) (fun hb => by cases hb)
      refine (et_not (et_B (ev_isi (K := K) (ev_var rfl) ev_c (fun H2 e2 => tyx_ex e2 ty) (ty_tup ht)))) H1 e1 _ fun H2 e2 => ?_
      rw [e0]
      exact iteT (q' H2 e2)
    · by_cases h2 : xs.length = 2
      · obtain ⟨x, y, rfl⟩ : ∃ x y, xs = [x, y] := by
          match xs, h2 with
          | [x, y], _ => exact ⟨x, y, rfl⟩
        refine q_when (b := false) (et_is (et_or (et_not (et_B (ev_isi (K := K) (ev_var rfl) ev_c (fun H2 e2 => tyx_ex e2 (ty_sqt hS)) (ty_tup (t := "tuple") (by decide))))) (fun _ => et_test (ev_op (fun H1 e1 Q' q' => ⟨_, rfl, a, [x, y], rfl, .inr (ex_t e1 hS), q' H1 (Ex.refl H1)⟩) ev_c (rv_ne rfl)))) rfl) (fun hb => by cases hb) (fun _ H1 e1 => ?_)
        refine ⟨_, rfl, a, [x, y], rfl, ex_t e1 hS, rfl, _, _, rfl, _, _, rfl, rfl, ?_⟩
        obtain ⟨b1, hb1, w1⟩ := ev_wholeT (K := K) (σ := [some (.ref a), some x, some y]) (te := tVar 1) (E := E0) (ev_var rfl) ((hty x (by simp)).ex e1)
        obtain ⟨b2, hb2, w2⟩ := ev_wholeT (K := K) (σ := [some (.ref a), some x, some y]) (te := tVar 2) (E := E0) (ev_var rfl) ((hty y (by simp)).ex e1)
        refine q_when (et_or (et_not (et_B w1)) (fun _ => et_not (et_B w2))) (fun hb H2 e2 => ?_) (fun hb H2 e2 => ?_)
        · refine s_ret ev_c fun H3 e3 => ?_
          have hc : curveB [x, y] = false := by
            show curve2 x y = false
            cases x with
            | int i =>
              cases y with
              | int j =>
                rw [hb1.mpr ⟨i, rfl⟩, hb2.mpr ⟨j, rfl⟩] at hb
                cases hb
              | _ => rfl
            | _ => rfl
          rw [hc] at q
          exact q H3 ((e1.trans e2).trans e3)
        · have hb3 : b1 = true ∧ b2 = true := by
            cases b1 <;> cases b2 <;> first | exact ⟨rfl, rfl⟩ | cases hb
          obtain ⟨i, rfl⟩ := hb1.mp hb3.1
          obtain ⟨j, rfl⟩ := hb2.mp hb3.2
          refine s_ret (ev_andV (ev_chain ev_c (ev_var rfl) ev_c rv_I0 rv_I0) (fun _ => ev_chain (ev_var rfl) (ev_var rfl) ev_c rv_I0 rv_I0)) fun H3 e3 => ?_
          exact q H3 ((e1.trans e2).trans e3)
      · have hc : curveB xs = false := by
          match xs with
          | [] => rfl
          | [_] => rfl
          | [_, _] => exact absurd rfl h2
          | _ :: _ :: _ :: _ => rfl
        rw [hc] at q
        refine q_when (b := true) (et_is (et_or (et_not (et_B (ev_isi (K := K) (ev_var rfl) ev_c (fun H2 e2 => tyx_ex e2 (ty_sqt hS)) (ty_tup (t := "tuple") (by decide))))) (fun _ => et_test (ev_op (fun H1 e1 Q' q' => ⟨_, rfl, a, xs, rfl, .inr (ex_t e1 hS), q' H1 (Ex.refl H1)⟩) ev_c (rv_ne rfl)))) ?_) (fun _ H1 e1 => s_ret ev_c fun H2 e2 => q H2 (e1.trans e2)) (fun hb => by cases hb)
        rw [dec_int, decide_eq_false (show ¬ ((xs.length : Int) = 2) by omega)]
        rfl
end
section
variable {P : Program} {w : World} {K : PySem.W.Frag} {mg : Str → Option Value} {base : Heap}
/-! the law's curve -/
def spCurve (K : PySem.W.Frag) : Sp := fun vs H Q _ => ∃ b, vs = [.ref b] ∧ BoxAt H b ∧ ∀ v m d H2, okC m d → Dt K H2 v (curveD m d) → BoxAt H2 b → Bk b H H2 → Q v H2
theorem ok_curve {f ft fm : Addr} {fd fdt fdm : FuncData} {k : Nat} (D : Df K mg "_law_curve" s__law_curve ["_law_box_here"] f fd) (D__law_take : Df K mg "_law_take" s__law_take ["_law_box_here", "_law_wide"] ft fdt) (D__law_more : Df K mg "_law_more" s__law_more ["_law_box_here"] fm fdm) (B : Bt mg) : FnOk P w K mg base CX0 (k + 3) f fd ["_law_box_here"] (spCurve K) := by
  have G__law_take : FnOk P w K mg base CX0 (k + 2) ft fdt ["_law_box_here", "_law_wide"] spTake := ok_take D__law_take D__law_more B
  refine D.F.ok sc__law_curve (fun vs H Q E h => ?_) (fun cdv A outer s H vs Q E hr h => ?_)
  · obtain ⟨b, rfl, _⟩ := h
    rfl
  · obtain ⟨b, rfl, hb, q⟩ := h
    refine ⟨_, (pss_cons (ps_set (i := 1) sc__law_curve.nd rfl (.inl rfl) (pe_op op_add pe_int (pe_call G__law_take (hr.mono (by omega)) (by rfl) D__law_take.g D__law_take.F.kp D__law_take.b .nil pass0 (pa_cons (pv 0) (pa_cons pe_int pa_nil)))))  (pss_one (ps_ret (pe_tup (pa_cons (pe_op op_add (pe_op op_add (pv 1) pe_int) (pe_call G__law_take (hr.mono (by omega)) (by rfl) D__law_take.g D__law_take.F.kp D__law_take.b .nil pass0 (pa_cons (pv 0) (pa_cons (pe_op op_sub pe_int (pv 1)) pa_nil)))) (pa_cons (pv 1) pa_nil)))))), ?_⟩
    refine q_asgK (K := K) (b := b) (ek_opI (f := fun i j => i + j) ev_c fun H1 e1 => ek_take rfl (hb.ex e1) ev_c (by decide) (by decide)) fun v d H1 hp hv hb1 x1 => ?_
    obtain ⟨r, rfl, r0, r1⟩ := hp
    cases hv
    refine (ek_opI (K := K) (b := b) (f := fun i j => i + j) (σ := [some (.ref b), some (.int (1 + r))]) (H := H1) (ta := tOp (rI0 fun i j => .int (i + j)) (tVar 1) (tC (.int 1))) (ev_op (ev_var rfl) ev_c rv_I0) fun H2 e2 => ek_take (wd := 9 - (1 + r)) rfl (hb1.ex e2) (ev_op ev_c (ev_var rfl) rv_I0) (by omega) (by omega)) _ fun v d H2 hp hv hb2 x2 => ?_
    obtain ⟨r', rfl, r0', r1'⟩ := hp
    cases hv
    refine ⟨_, rfl, sz_of (by show 2 ≤ 100000; decide), fun p hp => ?_⟩
    have e3 : Ex H2 (upd H2 p (.tup [.int (1 + r + 1 + r'), .int (1 + r)])) := Ex.new hp
    exact q _ (1 + r + 1 + r') (1 + r) _ ⟨by omega, by omega, by omega, by omega⟩ (.tup (st_of upd_same) (.cons (.int _) (.cons (.int _) .nil))) (hb2.ex e3) ((x1.trans x2).trans (bk_ex e3))
theorem q_curve {D : Ends} {tz : TS} {σ : L2.St} {H : Hp} {i j : Nat} {b : Addr} {E : XK} (hj : σ[j]? = some (some (.ref b))) (hb : BoxAt H b) (k : ∀ v m d H2, okC m d → Dt K H2 v (curveD m d) → BoxAt H2 b → Bk b H H2 → tz D (σ.set i (some v)) H2) : tSeq (tAsg (tCall (spCurve K) [] E (tCons (tVar j) tNil)) (gName i)) tz D σ H :=
  ⟨_, hj, b, rfl, hb, k⟩
end
/-! ### things short enough to be shown -/
mutual
def leafOk : PyData → Bool
  | .none => true
  | .bool _ => true
  | .int i => decide (i.natAbs < 10 ^ 40)
  | .str x => x.cps.toList.all fun c => decide (c < 16 ^ 8)
  | .list xs => leafOkAll xs
  | .tuple xs => leafOkAll xs
  | .dict kvs => leafOkKv kvs
def leafOkAll : List PyData → Bool
  | [] => true
  | x :: xs => leafOk x && leafOkAll xs
def leafOkKv : List (PyData × PyData) → Bool
  | [] => true
  | (k, v) :: r => leafOk k && leafOk v && leafOkKv r
end
mutual
theorem leaf_of : ∀ d : PyData, leafOk d = true → d.leavesShort 50 = true ∧ d.showable = true
  | .none, _ => ⟨rfl, rfl⟩
  | .bool _, _ => ⟨rfl, rfl⟩
  | .int i, h => by
    have h : i.natAbs < 10 ^ 40 := by simpa [leafOk] using h
    refine ⟨?_, ?_⟩
    · have e := int_text_length_le10 (k := 40) (by decide) h
      have e2 : (PyData.shown (.int i)).length ≤ 50 := by
        show (Str.ofString (toString i)).length ≤ 50
        rw [PySem.ofString_length]
        omega
      simpa [PyData.leavesShort] using e2
    · have : i.natAbs.log2 < 1920 := PySem.Spec.log2_small (Nat.lt_trans h (by decide +kernel))
      simpa [PyData.showable] using this
  | .str x, h => ⟨by simpa [leafOk, PyData.leavesShort] using h, rfl⟩
  | .list xs, h => by
    have := leaf_all xs (by simpa [leafOk] using h)
    exact ⟨by simpa [PyData.leavesShort] using this.1, by simpa [PyData.showable] using this.2⟩
  | .tuple xs, h => by
    have := leaf_all xs (by simpa [leafOk] using h)
    exact ⟨by simpa [PyData.leavesShort] using this.1, by simpa [PyData.showable] using this.2⟩
  | .dict kvs, h => by
    have := leaf_kv kvs (by simpa [leafOk] using h)
    exact ⟨by simpa [PyData.leavesShort] using this.1, by simpa [PyData.showable] using this.2⟩
theorem leaf_all : ∀ xs : List PyData, leafOkAll xs = true → PyData.leavesShortAll 50 xs = true ∧ PyData.showableAll xs = true
  | [], _ => ⟨rfl, rfl⟩
  | x :: xs, h => by
    have h : leafOk x = true ∧ leafOkAll xs = true := by simpa [leafOkAll] using h
    have h1 := leaf_of x h.1
    have h2 := leaf_all xs h.2
    exact ⟨by simp [PyData.leavesShortAll, h1.1, h2.1], by simp [PyData.showableAll, h1.2, h2.2]⟩
theorem leaf_kv : ∀ kvs : List (PyData × PyData), leafOkKv kvs = true → PyData.leavesShortKv 50 kvs = true ∧ PyData.showableKv kvs = true
  | [], _ => ⟨rfl, rfl⟩
  | (k, v) :: r, h => by
    have h : (leafOk k = true ∧ leafOk v = true) ∧ leafOkKv r = true := by simpa [leafOkKv] using h
    have h1 := leaf_of k h.1.1
    have h2 := leaf_of v h.1.2
    have h3 := leaf_kv r h.2
    exact ⟨by simp [PyData.leavesShortKv, h1.1, h2.1, h3.1], by simp [PyData.showableKv, h1.2, h2.2, h3.2]⟩
end
def okT (d : PyData) : Bool := leafOk d && decide (d.bulk ≤ 10000) && decide (d.depth ≤ 40)
theorem show_of {d : PyData} (h : okT d = true) : showOk d := by
  unfold okT at h
  simp only [Bool.and_eq_true, decide_eq_true_eq] at h
  obtain ⟨⟨h1, h2⟩, h3⟩ := h
  obtain ⟨g1, g2⟩ := leaf_of d h1
  have g3 := PyData.shown_le_bulk 50 (by decide) d g1
  refine ⟨g2, h3, Nat.le_trans g3 ?_⟩
  have : sizeLine = 16777216 := rfl
  rw [this]
  omega
/-! ### what is looked at here -/
def isCurveD : PyData → Bool
  | .tuple [.int m, .int d] => decide (1 ≤ d) && decide (d ≤ 6) && (decide (d < m) && decide (m ≤ 9))
  | _ => false
section
variable {K : PySem.W.Frag} {b : Addr} {c : Bool} {H : Hp}
theorem oda_typed : ∀ {xs : List V} {ds : List PyData}, OdAll K b c H xs ds → ∀ y ∈ xs, Typed K H y
  | _, _, .nil, _, hy => nomatch hy
  | _, _, .cons h t, y, hy => by
    rcases List.mem_cons.mp hy with rfl | hy
    · exact ⟨_, tyD_in _, od_ty h⟩
    · exact oda_typed t y hy
theorem curve_eq {xs : List V} {ds : List PyData} (h : OdAll K b c H xs ds) : curveB xs = isCurveD (.tuple ds) := by
  cases h with
  | nil => rfl
  | cons h1 t =>
    cases t with
    | nil => cases h1 <;> rfl
    | cons h2 t =>
      cases t with
      | nil => cases h1 <;> cases h2 <;> rfl
      | cons h3 t => cases h1 <;> cases h2 <;> rfl
theorem th_of {v : V} {d : PyData} (h : Od K b c H v d) : ThC K H v (isCurveD d) := by
  have ty := od_ty h
  cases h with
  | tup hs hx => exact .inr ⟨_, _, rfl, hs, oda_typed hx, (curve_eq hx).symm⟩
  | non => exact .inl ⟨_, tyD_in _, by decide, ty, rfl⟩
  | bl y => exact .inl ⟨_, tyD_in _, by show "bool" ≠ "tuple"; decide, ty, rfl⟩
  | int i => exact .inl ⟨_, tyD_in _, by show "int" ≠ "tuple"; decide, ty, rfl⟩
  | str y => exact .inl ⟨_, tyD_in _, by show "str" ≠ "tuple"; decide, ty, rfl⟩
  | lst n h m a => exact .inl ⟨_, tyD_in _, by show "list" ≠ "tuple"; decide, ty, rfl⟩
  | dct n h => exact .inl ⟨_, tyD_in _, by show "dict" ≠ "tuple"; decide, ty, rfl⟩
end
def oddV : V → Bool
  | .int _ => false
  | _ => true
section
variable {P : Program} {w : World} {K : PySem.W.Frag} {mg : Str → Option Value} {base : Heap}
def spIs (K : PySem.W.Frag) : Sp := fun vs H Q _ => ∃ (v : V) (b : Bool), vs = [v] ∧ ThC K H v b ∧ ∀ H2, Ex H H2 → Q (.bl b) H2
theorem ok_is {f : Addr} {fd : FuncData} {k : Nat} (D : Df K mg "_law_is" s__law_is ["_law_thing"] f fd) (B : Bt mg) : FnOk P w K mg base CX0 (k + 1) f fd ["_law_thing"] (spIs K) := by
  refine D.F.ok sc__law_is (fun vs H Q E h => ?_) (fun cdv A outer s H vs Q E hr h => ?_)
  · obtain ⟨a, ns, rfl, _⟩ := h
    rfl
  · obtain ⟨v, b, rfl, hv, q⟩ := h
    refine ⟨_, (pss_cons (ps_if (PW.pt (pw_or (pt_not (pt_val (pe_callB (show CallR _ _ (rIsi K) from call_isi) (by rfl) B.isinstance_ (by decide +kernel) (pa_cons (pv 0) (pa_cons (pe_bltn (v := .ty "tuple") (by rfl) B.tuple_ (by decide +kernel) rfl) pa_nil))))) (pw_or1 (pt_cmpR op_ne (pe_callB (show CallR _ _ (rLenS K) from call_len_seq) (by rfl) B.len_ (by decide +kernel) (pa_cons (pv 0) pa_nil)) pe_int (nomark _)))))   (pss_one (ps_ret pe_bl))   pss_nil)  (pss_cons (ps_if (pt_cmpR (show OpR _ _ (rNe0 K) from op_ne0 hr.units) (pe_lc (own := [("_law_one", 1)]) rfl sc__law_is.nd (pi_tup (pv 0)) (blkOk_by (own := [("_law_one", 1)]) (N := N__law_is) (sc := defScope s__law_is) (by decide +kernel)) (fun _ _ _ _ _ => (pg_name (i := 1) sc__law_is.nd rfl (.inl rfl))) (fun _ _ _ _ _ => pts_one (PW.pt (pw_or (pt_val (pe_callB (show CallR _ _ (rIsi K) from call_isi) (by rfl) B.isinstance_ (by decide +kernel) (pa_cons (pv 1) (pa_cons (pe_bltn (v := .ty "bool") (by rfl) B.bool_ (by decide +kernel) rfl) pa_nil)))) (pw_or1 (pt_not (pt_val (pe_callB (show CallR _ _ (rIsi K) from call_isi) (by rfl) B.isinstance_ (by decide +kernel) (pa_cons (pv 1) (pa_cons (pe_bltn (v := .ty "int") (by rfl) B.int_ (by decide +kernel) rfl) pa_nil))))))))) (fun _ _ _ _ _ => (pv 1))) (pe_lst pa_nil) (nomark _))   (pss_one (ps_ret pe_bl))   pss_nil)  (pss_one (ps_ret (pe_and (pe_chain op_le op_le pe_int (pe_ix (show IxR _ (rIxT K) from ix_tup) (pv 0) pe_int (fun _ _ => rfl)) pe_int) (pe_one (pe_chain op_lt op_le (pe_ix (show IxR _ (rIxT K) from ix_tup) (pv 0) pe_int (fun _ _ => rfl)) (pe_ix (show IxR _ (rIxT K) from ix_tup) (pv 0) pe_int (fun _ _ => rfl)) pe_int))))))), ?_⟩
    rcases hv with ⟨t, ht, hnt, ty, rfl⟩ | ⟨a, xs, rfl, hS, hty, rfl⟩
    · have e0 : (t == "tuple") = false := beq_eq_false_iff_ne.mpr hnt
      refine q_when (b := true) (fun H1 e1 Q' q' => ?_) (fun _ H1 e1 => s_ret ev_c fun H2 e2 => q H2 (e1.trans e2)) (fun hb => by cases hb)
      refine (et_not (et_B (ev_isi (K := K) (ev_var rfl) ev_c (fun H2 e2 => tyx_ex e2 ty) (ty_tup ht)))) H1 e1 _ fun H2 e2 => ?_
      rw [e0]
      exact iteT (q' H2 e2)
    · by_cases h2 : xs.length = 2
      · obtain ⟨x, y, rfl⟩ : ∃ x y, xs = [x, y] := by
          match xs, h2 with
          | [x, y], _ => exact ⟨x, y, rfl⟩
        refine q_when (b := false) (et_is (et_or (et_not (et_B (ev_isi (K := K) (ev_var rfl) ev_c (fun H2 e2 => tyx_ex e2 (ty_sqt hS)) (ty_tup (t := "tuple") (by decide))))) (fun _ => et_test (ev_op (fun H1 e1 Q' q' => ⟨_, rfl, a, [x, y], rfl, .inr (ex_t e1 hS), q' H1 (Ex.refl H1)⟩) ev_c (rv_ne rfl)))) rfl) (fun hb => by cases hb) (fun _ H1 e1 => ?_)
        refine q_when (b := [x, y].any oddV) (et_test (ne_lcT (K := K) oddV (ev_var rfl) (ex_t e1 hS) (by show 2 < 50000; decide) (fun _ => rfl) (fun _ => rfl) (fun z H2 e2 hz => ?_))) (fun hb H2 e2 => ?_) (fun hb H2 e2 => ?_)
        · obtain ⟨t, t1, t2⟩ := (hty z hz).ex (e1.trans e2)
          obtain ⟨p, r, hp, hr', hpr⟩ := ty_ib t1
          refine et_is (et_or (et_B (ev_isi (K := K) (ev_var rfl) ev_c (fun H3 e3 => tyx_ex e3 t2) hr')) (fun _ => et_not (et_B (ev_isi (K := K) (ev_var rfl) ev_c (fun H3 e3 => tyx_ex e3 t2) hp)))) ?_
          have e3 : (r || !p) = !(t == "int") := by
            rw [← hpr]
            cases p <;> cases r <;> rfl
          rw [e3]
          cases hb : (t == "int") with
          | true =>
            obtain ⟨i, rfl⟩ := ty_int_inv t2 (eq_of_beq hb)
            rfl
          | false =>
            cases z with
            | int i => rw [ty_of_int t2] at hb; cases hb
            | _ => rfl
        · refine s_ret ev_c fun H3 e3 => ?_
          have hc : curveB [x, y] = false := by
            show curve2 x y = false
            cases x with
            | int i =>
              cases y with
              | int j => cases hb
              | _ => rfl
            | _ => rfl
          rw [hc] at q
          exact q H3 ((e1.trans e2).trans e3)
        · obtain ⟨i, j, rfl, rfl⟩ : ∃ i j, x = .int i ∧ y = .int j := by
            cases x with
            | int i =>
              cases y with
              | int j => exact ⟨i, j, rfl, rfl⟩
              | _ => cases hb
            | _ => cases hb
          have hS2 := ex_t (e1.trans e2) hS
          have i0 : ∀ H3, Ex H2 H3 → Ev (tOp (rIxT K) (tVar 0) (tC (.int 0))) _ H3 (.int i) := fun H3 e3 => ev_int (K := K) (ed_ixT (ds := [.int i, .int j]) (ed_var (σ := [some (.ref a), none]) rfl (.tup (ex_t e3 hS2) (.cons (.int i) (.cons (.int j) .nil)))) ev_c rfl)
          have i1 : ∀ H3, Ex H2 H3 → Ev (tOp (rIxT K) (tVar 0) (tC (.int 1))) _ H3 (.int j) := fun H3 e3 => ev_int (K := K) (ed_ixT (ds := [.int i, .int j]) (ed_var (σ := [some (.ref a), none]) rfl (.tup (ex_t e3 hS2) (.cons (.int i) (.cons (.int j) .nil)))) ev_c rfl)
          refine s_ret (ev_andV (ev_chain ev_c (i1 H2 (Ex.refl H2)) ev_c rv_I0 rv_I0) (fun _ => ev_chain (i1 H2 (Ex.refl H2)) (i0 H2 (Ex.refl H2)) ev_c rv_I0 rv_I0)) fun H3 e3 => ?_
          exact q H3 ((e1.trans e2).trans e3)
      · have hc : curveB xs = false := by
          match xs with
          | [] => rfl
          | [_] => rfl
          | [_, _] => exact absurd rfl h2
          | _ :: _ :: _ :: _ => rfl
        rw [hc] at q
        refine q_when (b := true) (et_is (et_or (et_not (et_B (ev_isi (K := K) (ev_var rfl) ev_c (fun H2 e2 => tyx_ex e2 (ty_sqt hS)) (ty_tup (t := "tuple") (by decide))))) (fun _ => et_test (ev_op (fun H1 e1 Q' q' => ⟨_, rfl, a, xs, rfl, .inr (ex_t e1 hS), q' H1 (Ex.refl H1)⟩) ev_c (rv_ne rfl)))) ?_) (fun _ H1 e1 => s_ret ev_c fun H2 e2 => q H2 (e1.trans e2)) (fun hb => by cases hb)
        rw [dec_int, decide_eq_false (show ¬ ((xs.length : Int) = 2) by omega)]
        rfl
/-! the asking -/
def spRight (K : PySem.W.Frag) : Sp := fun vs H Q _ => ∃ (b : Addr) (v : V) (d : PyData), vs = [v] ∧ Tg K b H v d ∧ showOk d ∧ ∀ H2, Ex H H2 → Q (.bl true) H2
theorem ok_right {f fi fc : Addr} {fd fdi fdc : FuncData} {k : Nat} (D : Df K mg "_law_right" s__law_right ["_law_thing"] f fd) (D__law_is : Df K mg "_law_is" s__law_is ["_law_thing"] fi fdi) (D_is_curve : Df K mg "is_curve" s_is_curve ["thing"] fc fdc) (B : Bt mg)
    (G_is_curve : FnOk P w K mg base CX0 2 fc fdc ["thing"] (spIsC K)) : FnG P w K mg base (k + 3) f fd ["_law_thing"] (spRight K) := by
  have G__law_is : FnOk P w K mg base CX0 1 fi fdi ["_law_thing"] (spIs K) := ok_is (k := 0) D__law_is B
  refine okG D.F sc__law_right (fun vs H Q E h => ?_) (fun cdv A outer s H vs Q E gd hr h => ?_)
  · obtain ⟨b, v, d, rfl, _⟩ := h
    rfl
  · obtain ⟨b, v, d, rfl, hv, hs, q⟩ := h
    refine ⟨_, (pss_cons (ps_set (i := 1) sc__law_right.nd rfl (.inl rfl) (pe_callB (show CallR _ _ (rRep K) from call_rep gd hr.units) (by rfl) B.repr_ (by decide +kernel) (pa_cons (pv 0) pa_nil)))  (pss_cons (ps_set (i := 2) sc__law_right.nd rfl (.inl rfl) (pe_call G_is_curve (hr.mono (by omega)) (by rfl) D_is_curve.g D_is_curve.F.kp D_is_curve.b .nil pass0 (pa_cons (pv 0) pa_nil)))  (pss_one (ps_ret (pe_and (pe_callB (show CallR _ _ (rIsi K) from call_isi) (by rfl) B.isinstance_ (by decide +kernel) (pa_cons (pv 2) (pa_cons (pe_bltn (v := .ty "bool") (by rfl) B.bool_ (by decide +kernel) rfl) pa_nil))) (pe_and (pe_cmpR op_eq (pv 2) (pe_call G__law_is (hr.mono (by omega)) (by rfl) D__law_is.g D__law_is.F.kp D__law_is.b .nil pass0 (pa_cons (pv 0) pa_nil)) (nomark _)) (pe_one (pe_cmpR op_eq (pe_callB (show CallR _ _ (rRep K) from call_rep gd hr.units) (by rfl) B.repr_ (by decide +kernel) (pa_cons (pv 0) pa_nil)) (pv 1) (nomark _))))))))), ?_⟩
    obtain ⟨c, ho, hc⟩ := hv
    have tg : ∀ {H1 : Hp}, Ex H H1 → Tg K b H1 v d := fun e => ⟨c, od_ex e ho, hc⟩
    refine q_asg (v := .str d.shown) (ev_rep (K := K) (ev_var rfl) (tg (Ex.refl H)) hs) fun H1 e1 => ?_
    refine q_asg (v := .bl (isCurveD d)) (fun H2 e2 Q' q' => ⟨_, rfl, v, _, rfl, th_of (od_ex (e1.trans e2) ho), fun H3 e3 => q' H3 e3⟩) fun H2 e2 => ?_
    refine s_ret (v := .bl true) (ev_is (ev_andV (ev_isi (K := K) (ev_var rfl) ev_c (fun _ _ => .base (.bl _)) (ty := "bool") (b := true) (by decide +kernel)) (fun _ => ev_andV (ev_op (ev_var rfl) (fun H3 e3 Q' q' => ⟨_, rfl, v, _, rfl, th_of (od_ex ((e1.trans e2).trans e3) ho), fun H4 e4 => q' H4 e4⟩) (rv_eq rfl)) (fun _ => ev_op (ev_rep (K := K) (ev_var rfl) (tg (e1.trans e2)) hs) (ev_var rfl) (rv_eq rfl)))) ?_) fun H3 e3 => q H3 ((e1.trans e2).trans e3)
    simp
end
def odds1 : List PyData := [.none, .bool true, .bool false, .str "3", .int (10 ^ 29), .int (0 - 10 ^ 29), .tuple [.int 4], .list [.int 4], dictD [(.inl 4, 1)], .str ""]
def some1 (m d : Int) (o : PyData) : List PyData := [.tuple [o, .int d], .tuple [.int m, o], .tuple [o, o], .tuple ([.int m, .int d] ++ [o]), .list [.int m, .int d], o]
def some2 (m d : Int) : List PyData := [.tuple [curveD m d], .list [curveD m d], .tuple ([.int m, .int d].take 1)]
def some3 (m d : Int) : List PyData := [.tuple [.int 2, .bool true], .tuple [.bool true, .int 1], .tuple [.bool false, .int 1], .tuple [.int m, .int 1], .tuple [.int (d + 1), .int d], .tuple [], dictD [(.inl 0, 4), (.inl 1, 2)], dictD [(.inl 1, 2), (.inl 0, 9)]]
def all1 : Bool := (List.range 6).all fun i => (List.range 9).all fun j => odds1.all fun o => ((some1 ((j : Int) + 1) ((i : Int) + 1) o ++ some2 ((j : Int) + 1) ((i : Int) + 1)) ++ some3 ((j : Int) + 1) ((i : Int) + 1)).all okT
theorem all_1 : all1 = true := by decide +kernel
theorem facts1 {m d : Int} (h : okC m d) {o : PyData} (ho : o ∈ odds1) : ∀ x ∈ (some1 m d o ++ some2 m d) ++ some3 m d, okT x = true := by
  obtain ⟨h1, h2, h3, h4⟩ := h
  have a := List.all_eq_true.mp (List.all_eq_true.mp (List.all_eq_true.mp all_1 (d - 1).toNat (List.mem_range.mpr (by omega))) (m - 1).toNat (List.mem_range.mpr (by omega))) o ho
  rw [show (((d - 1).toNat : Nat) : Int) + 1 = d by omega, show (((m - 1).toNat : Nat) : Int) + 1 = m by omega] at a
  exact List.all_eq_true.mp a
def all1r : Bool := (List.range 14).all fun i => (List.range 11).all fun j => okT (.tuple [.int (-2 + (i : Int)), .int (-2 + (j : Int))])
theorem all_1r : all1r = true := by decide +kernel
section
variable {P : Program} {w : World} {K : PySem.W.Frag} {mg : Str → Option Value} {base : Heap}
theorem ev_right {σ : L2.St} {H : Hp} {te : TE} {b : Addr} {c : Bool} {d : PyData} {E : XK} (h : EvO K b c te σ H d) (hc : c = true ∨ d.hasDict = false) (hs : okT d = true) : Ev (tCall (spRight K) [] E (tCons te tNil)) σ H (.bl true) := fun H1 e Q q =>
  h H1 e _ fun v H2 e2 hv => ⟨b, v, d, rfl, ⟨c, hv, hc⟩, show_of hs, fun H3 e3 => q H3 (e2.trans e3)⟩
theorem ev_rightV {σ : L2.St} {H : Hp} {b : Addr} {v : V} {d : PyData} {i : Nat} {E : XK} (hi : σ[i]? = some (some v)) (h : Tg K b H v d) (hs : okT d = true) : Ev (tCall (spRight K) [] E (tCons (tVar i) tNil)) σ H (.bl true) := fun H1 e Q q =>
  ⟨v, hi, b, v, d, rfl, tg_ex e h, show_of hs, fun H3 e3 => q H3 e3⟩
theorem ok_law {f fw fc f5 f6 f7 f8 f9 f10 : Addr} {fd dw dc d5 d6 d7 d8 d9 d10 : FuncData} {t1 t2 : Tok} (D : Df K mg "law" s_law ["_law_script"] f fd) (D_is_whole : Df K mg "is_whole" s_is_whole ["thing"] fw dw) (D_is_curve : Df K mg "is_curve" s_is_curve ["thing"] fc dc)
    (D__law_box : Df K mg "_law_box" s__law_box ["_law_script", "_law_k"] f5 d5) (D__law_more : Df K mg "_law_more" s__law_more ["_law_box_here"] f6 d6) (D__law_take : Df K mg "_law_take" s__law_take ["_law_box_here", "_law_wide"] f7 d7) (D__law_curve : Df K mg "_law_curve" s__law_curve ["_law_box_here"] f8 d8)
    (D__law_is : Df K mg "_law_is" s__law_is ["_law_thing"] f9 d9) (D__law_right : Df K mg "_law_right" s__law_right ["_law_thing"] f10 d10) (B : Bt mg) (c_MOST_DEEP : mg "MOST_DEEP" = some (.int 6 t1)) (c_MOST_CORNERS : mg "MOST_CORNERS" = some (.int 9 t2)) : FnG P w K mg base 5 f fd ["_law_script"] (spLawY K [] []) := by
  have G_is_curve : FnOk P w K mg base CX0 2 fc dc ["thing"] (spIsC K) := ok_is_curve (k := 0) D_is_curve D_is_whole B c_MOST_DEEP c_MOST_CORNERS
  have G__law_right : FnG P w K mg base 3 f10 d10 ["_law_thing"] (spRight K) := ok_right (k := 0) D__law_right D__law_is D_is_curve B G_is_curve
  have G__law_box : FnOk P w K mg base CX0 1 f5 d5 ["_law_script", "_law_k"] (spBox K) := ok_box D__law_box B
  have G__law_take : FnOk P w K mg base CX0 2 f7 d7 ["_law_box_here", "_law_wide"] spTake := ok_take D__law_take D__law_more B
  have G__law_curve : FnOk P w K mg base CX0 3 f8 d8 ["_law_box_here"] (spCurve K) := ok_curve D__law_curve D__law_take D__law_more B
  refine okG D.F sc_law (fun vs H Q E h => ?_) (fun cdv A outer s H vs Q E gd hr h => ?_)
  · obtain ⟨a, ns, rfl, _⟩ := h
    rfl
  · obtain ⟨a, ns, rfl, hS, hlen, _, _, q⟩ := h
    refine ⟨_, (pss_cons (ps_for PassesOwn.never rfl (pi_range2 (by rfl) B.range_ (pa_cons (pe_un un_neg pe_int) (pa_cons pe_int pa_nil))) (pg_name (i := 1) sc_law.nd rfl (.inl rfl))   (pss_one (ps_for PassesOwn.never rfl (pi_range2 (by rfl) B.range_ (pa_cons (pe_un un_neg pe_int) (pa_cons pe_int pa_nil))) (pg_name (i := 2) sc_law.nd rfl (.inl rfl))   (pss_one (ps_if (pt_not (pt_val (pe_callG (E := E0) G__law_right gd (hr.mono (by omega)) (by rfl) D__law_right.g D__law_right.F.kp D__law_right.b (pa_cons (pe_tup (pa_cons (pv 1) (pa_cons (pv 2) pa_nil))) pa_nil))))   (pss_one (ps_ret pe_bl))   pss_nil)))))  (pss_cons (ps_for PassesOwn.never rfl (pi_range1 (by rfl) B.range_ (pa_cons (pe_callB (call_max2 rfl) (by rfl) B.max_ (by decide +kernel) (pa_cons pe_int (pa_cons (pe_callB (call_min2 rfl) (by rfl) B.min_ (by decide +kernel) (pa_cons (pe_callB (show CallR _ _ (rLenS K) from call_len_seq) (by rfl) B.len_ (by decide +kernel) (pa_cons (pv 0) pa_nil)) (pa_cons pe_int pa_nil))) pa_nil))) pa_nil)) (pg_name (i := 3) sc_law.nd rfl (.inl rfl))   (pss_cons (ps_set (i := 4) sc_law.nd rfl (.inl rfl) (pe_call G__law_box (hr.mono (by omega)) (by rfl) D__law_box.g D__law_box.F.kp D__law_box.b .nil pass0 (pa_cons (pv 0) (pa_cons (pv 3) pa_nil))))  (pss_cons (ps_set (i := 5) sc_law.nd rfl (.inl rfl) (pe_ix (show IxR _ (rIxL K) from ix_list) (pe_lst (pa_cons pe_non (pa_cons pe_bl (pa_cons pe_bl (pa_cons pe_str (pa_cons (pe_op op_pow pe_int pe_int) (pa_cons (pe_op op_sub pe_int (pe_op op_pow pe_int pe_int)) (pa_cons (pe_tup (pa_cons pe_int pa_nil)) (pa_cons (pe_lstB (pa_cons pe_int pa_nil)) (pa_cons (pe_disp (pps_cons pe_int pe_int pps_nil) rfl rfl (by decide) (by decide)) (pa_cons pe_str pa_nil))))))))))) (pe_call G__law_take (hr.mono (by omega)) (by rfl) D__law_take.g D__law_take.F.kp D__law_take.b .nil pass0 (pa_cons (pv 4) (pa_cons pe_int pa_nil))) (fun _ _ => rfl)))  (pss_cons (ps_set (i := 6) sc_law.nd rfl (.inl rfl) (pe_call G__law_curve (hr.mono (by omega)) (by rfl) D__law_curve.g D__law_curve.F.kp D__law_curve.b .nil pass0 (pa_cons (pv 4) pa_nil)))  (pss_cons (ps_set (i := 7) sc_law.nd rfl (.inl rfl) (pe_lst (pa_cons (pe_tup (pa_cons (pv 5) (pa_cons (pe_ix (show IxR _ (rIxT K) from ix_tup) (pv 6) pe_int (fun _ _ => rfl)) pa_nil))) (pa_cons (pe_tup (pa_cons (pe_ix (show IxR _ (rIxT K) from ix_tup) (pv 6) pe_int (fun _ _ => rfl)) (pa_cons (pv 5) pa_nil))) (pa_cons (pe_tup (pa_cons (pv 5) (pa_cons (pv 5) pa_nil))) (pa_cons (pe_op (show OpR _ _ (rCatA K) from op_catA) (pv 6) (pe_tup (pa_cons (pv 5) pa_nil))) (pa_cons (pe_callTy (show CallR _ _ (rListS K) from call_list_of) (by rfl) B.list_ (by decide +kernel) (pa_cons (pv 6) pa_nil)) (pa_cons (pv 5) pa_nil))))))))  (pss_cons (ps_set (i := 7) sc_law.nd rfl (.inl rfl) (pe_op op_cat (pv 7) (pe_lst (pa_cons (pe_tup (pa_cons (pv 6) pa_nil)) (pa_cons (pe_lstB (pa_cons (pv 6) pa_nil)) (pa_cons (pe_slice (show SlR _ (rSlA K) from sl_tupA) (pv 6) po_none (po_some pe_int)) pa_nil))))))  (pss_one (ps_for PassesOwn.never rfl (pi_list (pe_op op_cat (pv 7) (pe_lst (pa_cons (pe_tup (pa_cons pe_int (pa_cons pe_bl pa_nil))) (pa_cons (pe_tup (pa_cons pe_bl (pa_cons pe_int pa_nil))) (pa_cons (pe_tup (pa_cons pe_bl (pa_cons pe_int pa_nil))) (pa_cons (pe_tup (pa_cons (pe_ix (show IxR _ (rIxT K) from ix_tup) (pv 6) pe_int (fun _ _ => rfl)) (pa_cons pe_int pa_nil))) (pa_cons (pe_tup (pa_cons (pe_op op_add (pe_ix (show IxR _ (rIxT K) from ix_tup) (pv 6) pe_int (fun _ _ => rfl)) pe_int) (pa_cons (pe_ix (show IxR _ (rIxT K) from ix_tup) (pv 6) pe_int (fun _ _ => rfl)) pa_nil))) (pa_cons (pe_tup pa_nil) (pa_cons (pe_disp (pps_cons pe_int pe_int (pps_cons pe_int pe_int pps_nil)) rfl rfl (by decide) (by decide)) (pa_cons (pe_disp (pps_cons pe_int pe_int (pps_cons pe_int pe_int pps_nil)) rfl rfl (by decide) (by decide)) pa_nil))))))))))) (pg_name (i := 8) sc_law.nd rfl (.inl rfl))   (pss_one (ps_if (pt_not (pt_val (pe_callG (E := E0) G__law_right gd (hr.mono (by omega)) (by rfl) D__law_right.g D__law_right.F.kp D__law_right.b (pa_cons (pv 8) pa_nil))))   (pss_one (ps_ret pe_bl))   pss_nil))))))))))  (pss_one (ps_ret pe_bl)))), ?_⟩
    refine q_forRN (lo := -2) (n := 12) (ea_cons (ev_un ev_c ru_neg) (ea_cons ev_c ea_nil)) (by decide) (fun i σ' H' => ∃ y1 y2 : Option V, σ' = [some (.ref a), y1, y2, none, none, none, none, none, none] ∧ Ex H H') (fun H2 e2 => ⟨_, _, rfl, e2⟩) ?_ ?_
    · rintro i σ' Hs hi ⟨y1, y2, rfl, es⟩
      refine s_forRN (lo := -2) (n := 9) (ea_cons (ev_un ev_c ru_neg) (ea_cons ev_c ea_nil)) (by decide) (fun j σ' H' => ∃ y2 : Option V, σ' = [some (.ref a), some (.int (-2 + (i : Int))), y2, none, none, none, none, none, none] ∧ Ex H H') (fun H2 e2 => ⟨_, rfl, es.trans e2⟩) ?_ (fun σ' H' h => ?_)
      · rintro j σ' Ht hj ⟨y2, rfl, et⟩
        refine s_when (b := false) (et_not (et_B (ev_right (K := K) (b := 0) (c := true) (d := .tuple [.int (-2 + (i : Int)), .int (-2 + (j : Int))]) (eo_tup (ob_cons (eo_int (ev_var rfl)) (ob_cons (eo_int (ev_var rfl)) ob_nil)) (by show 2 ≤ 100000; decide)) (.inl rfl) ?_))) (fun hb => by cases hb) (fun _ H1 e1 => ⟨_, rfl, et.trans e1⟩)
        exact List.all_eq_true.mp (List.all_eq_true.mp all_1r i (List.mem_range.mpr (by omega))) j (List.mem_range.mpr (by omega))
      · obtain ⟨y2, rfl, et⟩ := h
        exact ⟨_, _, rfl, et⟩
    rintro σ' H0 ⟨y1, y2, rfl, e0⟩
    have hS0 := ex_l e0 hS
    obtain ⟨n, n0, n1, hn⟩ := ev_cells (K := K) (H := H0) (σ := [some (.ref a), y1, y2, none, none, none, none, none, none]) (ta := tVar 0) (c := 3) (ev_var rfl) hS0 (by decide)
    refine q_forR1 (n := n) (ea_cons hn ea_nil) ⟨by omega, by omega⟩ (fun i σ' H' => ∃ y3 y4 y5 y6 y7 y8 : Option V, σ' = [some (.ref a), y1, y2, y3, y4, y5, y6, y7, y8] ∧ Ex H0 H') (fun H2 e3 => ⟨_, _, _, _, _, _, rfl, e3⟩) ?_ ?_
    · rintro i σ' Hs hi ⟨y3, y4, y5, y6, y7, y8, rfl, es⟩
      refine q_box (ev_var rfl) (ex_l es hS0) (ev_var rfl) (by omega) (by omega) fun b H2 nb e2 hb => ?_
      refine q_menuO (K := K) (b := b) (ds := odds1) (ob_cons eo_non (ob_cons eo_bl (ob_cons eo_bl (ob_cons eo_str (ob_cons (eo_int (ev_op ev_c ev_c (rv_I (show CPow 10 29 from ⟨by decide, by decide, by decide⟩)))) (ob_cons (eo_int (ev_op ev_c (ev_op ev_c ev_c (rv_I (show CPow 10 29 from ⟨by decide, by decide, by decide⟩))) rv_I0)) (ob_cons (eo_tup (ob_cons (eo_int ev_c) ob_nil) (by show 1 ≤ 100000; decide)) (ob_cons (eo_lst hb (ob_cons (eo_int ev_c) ob_nil) (by show 1 ≤ 100000; decide)) (ob_cons (eo_dict1 hb) (ob_cons eo_str ob_nil)))))))))) (by decide) hb (fun H' e' hb' => ek_take (K := K) rfl hb' ev_c (by decide) (by decide)) fun v o H3 ho hod hb3 x3 => ?_
      have e3 : Ex Hs H3 := ex_bx e2 x3 nb
      refine q_curve (K := K) rfl hb3 fun cv m d H4 hc hcv hb4 x4 => ?_
      have e4 : Ex Hs H4 := ex_bx e3 x4 nb
      have hod4 := od_bk x4 hod
      have fs := facts1 hc ho
      have cm : ∀ {σ : L2.St} {H5 : Hp}, σ[6]? = some (some cv) → Ex H4 H5 → Ev (tOp (rIxT K) (tVar 6) (tC (.int 0))) σ H5 (.int m) := fun h6 e => ev_int (K := K) (ed_ixT (ds := [.int m, .int d]) (ed_var h6 (dt_ex e hcv)) ev_c rfl)
      have cd : ∀ {σ : L2.St} {H5 : Hp}, σ[6]? = some (some cv) → Ex H4 H5 → Ev (tOp (rIxT K) (tVar 6) (tC (.int 1))) σ H5 (.int d) := fun h6 e => ev_int (K := K) (ed_ixT (ds := [.int m, .int d]) (ed_var h6 (dt_ex e hcv)) ev_c rfl)
      have vo : ∀ {σ : L2.St} {H5 : Hp}, σ[5]? = some (some v) → Ex H4 H5 → EvO K b true (tVar 5) σ H5 o := fun h5 e => eo_var h5 (od_ex e hod4)
      have vc : ∀ {σ : L2.St} {H5 : Hp} {c : Bool}, σ[6]? = some (some cv) → Ex H4 H5 → EvO K b c (tVar 6) σ H5 (curveD m d) := fun h6 e => eo_d (ed_var h6 (dt_ex e hcv))
      refine q_asgTF (K := K) (b := b) (ds := some1 m d o) (tf_lst (tb_cons (eo_tup (ob_cons (vo rfl (Ex.refl _)) (ob_cons (eo_int (cd rfl (Ex.refl _))) ob_nil)) (by show 2 ≤ 100000; decide)) (tb_cons (eo_tup (ob_cons (eo_int (cm rfl (Ex.refl _))) (ob_cons (vo rfl (Ex.refl _)) ob_nil)) (by show 2 ≤ 100000; decide)) (tb_cons (eo_tup (ob_cons (vo rfl (Ex.refl _)) (ob_cons (vo rfl (Ex.refl _)) ob_nil)) (by show 2 ≤ 100000; decide))
        (tb_cons (eo_cat (xs := [.int m, .int d]) (ys := [o]) (vc rfl (Ex.refl _)) (eo_tup (ob_cons (vo rfl (Ex.refl _)) ob_nil) (by show 1 ≤ 100000; decide)) (by show 3 ≤ 100000; decide)) (tb_consF (eo_list (ds := [.int m, .int d]) hb4 (vc rfl (Ex.refl _))) rfl (tb_cons (vo rfl (Ex.refl _)) tb_nil)))))) (by show 6 ≤ 100000; decide)) fun p5 xs5 H5 np5 e5 hp5 hx5 => ?_
      refine q_asgTF (K := K) (b := b) (ds := some1 m d o ++ some2 m d) (tf_catLF (ev_var rfl) hp5 hx5 (tf_lst (tb_cons (eo_tup (ob_cons (vc rfl e5) ob_nil) (by show 1 ≤ 100000; decide)) (tb_cons (eo_lst (hb4.ex e5) (ob_cons (vc rfl e5) ob_nil) (by show 1 ≤ 100000; decide)) (tb_cons (eo_cut (n := 1) (vc rfl e5) ev_c) tb_nil))) (by show 3 ≤ 100000; decide)) (by show 9 ≤ 100000; decide)) fun p6 xs6 H6 np6 e6 hp6 hx6 => ?_
      have e56 := e5.trans e6
      refine s_forTg (K := K) (b := b) (ds := (some1 m d o ++ some2 m d) ++ some3 m d) (tf_catLF (ev_var rfl) hp6 hx6 (tf_lst (tb_cons (eo_tup (ob_cons (eo_int ev_c) (ob_cons eo_bl ob_nil)) (by show 2 ≤ 100000; decide)) (tb_cons (eo_tup (ob_cons eo_bl (ob_cons (eo_int ev_c) ob_nil)) (by show 2 ≤ 100000; decide)) (tb_cons (eo_tup (ob_cons eo_bl (ob_cons (eo_int ev_c) ob_nil)) (by show 2 ≤ 100000; decide))
        (tb_cons (eo_tup (ob_cons (eo_int (cm rfl e56)) (ob_cons (eo_int ev_c) ob_nil)) (by show 2 ≤ 100000; decide)) (tb_cons (eo_tup (ob_cons (eo_int (ev_op (cd rfl e56) ev_c rv_I0)) (ob_cons (eo_int (cd rfl e56)) ob_nil)) (by show 2 ≤ 100000; decide)) (tb_cons (eo_tup ob_nil (by decide)) (tb_cons (eo_dict2 (hb4.ex e56) (by decide)) (tb_cons (eo_dict2 (hb4.ex e56) (by decide)) tb_nil)))))))) (by show 8 ≤ 100000; decide)) (by show 17 ≤ 100000; decide))
        (fun _ σ' H' => ∃ y8 : Option V, σ' = [some (.ref a), y1, y2, some (.int (i : Int)), some (.ref b), some v, some cv, some (.ref p6), y8]) (fun H7 e7 => ⟨_, rfl⟩) ?_ ?_
      · rintro H7 t x dx σ' H8 e7 e8 ht hx ⟨y8, rfl⟩
        exact s_when (b := false) (et_not (et_B (ev_rightV (K := K) rfl hx (fs dx (List.mem_of_getElem? ht))))) (fun hb => by cases hb) (fun _ H9 e9 => ⟨e8.trans e9, _, rfl⟩)
      · rintro σ' H8 e8 ⟨y8, rfl⟩
        exact ⟨_, _, _, _, _, _, rfl, (es.trans e4).trans (e56.trans e8)⟩
    · rintro σ' H' ⟨y3, y4, y5, y6, y7, y8, rfl, es⟩
      exact s_ret ev_c fun H2 e3 => q H2 (fun p hp => nomatch hp)
end
theorem all_mk {l : PySem.W.OpenLaw} {w : World} {K : PySem.W.Frag} {h : Heap} {mg : Str → Option Value} {fa f1 f5 f7 f8 f9 f10 f11 f12 f13  : Addr} (X : K.In h) (G : h.Ns mainGlobals mg) (hfa : mg "law" = some (.ref fa)) (O : ∀ nm ∈ ([] : List Str), ∀ f, mg nm = some (.ref f) → LamX.OwnTab K f h)
    {od1 an1 od5 an5 od7 an7 od8 an8 od9 an9 od10 an10 od11 an11 od12 an12 od13 an13  : Option Addr} {sl1 sl5 sl7 sl8 sl9 sl10 sl11 sl12 sl13  : Array (Option Value)} {oc1 kV1 dc1 pm1 cd1 ct1 oc5 kV5 dc5 pm5 cd5 ct5 oc7 kV7 dc7 pm7 cd7 ct7 oc8 kV8 dc8 pm8 cd8 ct8 oc9 kV9 dc9 pm9 cd9 ct9 oc10 kV10 dc10 pm10 cd10 ct10 oc11 kV11 dc11 pm11 cd11 ct11 oc12 kV12 dc12 pm12 cd12 ct12 oc13 kV13 dc13 pm13 cd13 ct13  : Value} {tk_MOST_DEEP tk_MOST_CORNERS : Tok}
    (a1 : PySem.W.nsIn K mainGlobals "is_whole" = some (some (.ref f1))) (l1 : K.lookup f1 = some ⟨oc1, od1, .func (PySem.W.fnOf "is_whole" "is_whole" (defArgs s_is_whole) (defBody s_is_whole) (defScope s_is_whole) .none kV1 dc1 pm1 an1 cd1 ct1), sl1⟩) (c1 : PySem.W.codeIn K cd1 "is_whole" = true) (k1 : PySem.W.keepIn K (.ref f1) = true)
    (a5 : PySem.W.nsIn K mainGlobals "is_curve" = some (some (.ref f5))) (l5 : K.lookup f5 = some ⟨oc5, od5, .func (PySem.W.fnOf "is_curve" "is_curve" (defArgs s_is_curve) (defBody s_is_curve) (defScope s_is_curve) .none kV5 dc5 pm5 an5 cd5 ct5), sl5⟩) (c5 : PySem.W.codeIn K cd5 "is_curve" = true) (k5 : PySem.W.keepIn K (.ref f5) = true)
    (a7 : PySem.W.nsIn K mainGlobals "_law_box" = some (some (.ref f7))) (l7 : K.lookup f7 = some ⟨oc7, od7, .func (PySem.W.fnOf "_law_box" "_law_box" (defArgs s__law_box) (defBody s__law_box) (defScope s__law_box) .none kV7 dc7 pm7 an7 cd7 ct7), sl7⟩) (c7 : PySem.W.codeIn K cd7 "_law_box" = true) (k7 : PySem.W.keepIn K (.ref f7) = true)
    (a8 : PySem.W.nsIn K mainGlobals "_law_more" = some (some (.ref f8))) (l8 : K.lookup f8 = some ⟨oc8, od8, .func (PySem.W.fnOf "_law_more" "_law_more" (defArgs s__law_more) (defBody s__law_more) (defScope s__law_more) .none kV8 dc8 pm8 an8 cd8 ct8), sl8⟩) (c8 : PySem.W.codeIn K cd8 "_law_more" = true) (k8 : PySem.W.keepIn K (.ref f8) = true)
    (a9 : PySem.W.nsIn K mainGlobals "_law_take" = some (some (.ref f9))) (l9 : K.lookup f9 = some ⟨oc9, od9, .func (PySem.W.fnOf "_law_take" "_law_take" (defArgs s__law_take) (defBody s__law_take) (defScope s__law_take) .none kV9 dc9 pm9 an9 cd9 ct9), sl9⟩) (c9 : PySem.W.codeIn K cd9 "_law_take" = true) (k9 : PySem.W.keepIn K (.ref f9) = true)
    (a10 : PySem.W.nsIn K mainGlobals "_law_curve" = some (some (.ref f10))) (l10 : K.lookup f10 = some ⟨oc10, od10, .func (PySem.W.fnOf "_law_curve" "_law_curve" (defArgs s__law_curve) (defBody s__law_curve) (defScope s__law_curve) .none kV10 dc10 pm10 an10 cd10 ct10), sl10⟩) (c10 : PySem.W.codeIn K cd10 "_law_curve" = true) (k10 : PySem.W.keepIn K (.ref f10) = true)
    (a11 : PySem.W.nsIn K mainGlobals "_law_is" = some (some (.ref f11))) (l11 : K.lookup f11 = some ⟨oc11, od11, .func (PySem.W.fnOf "_law_is" "_law_is" (defArgs s__law_is) (defBody s__law_is) (defScope s__law_is) .none kV11 dc11 pm11 an11 cd11 ct11), sl11⟩) (c11 : PySem.W.codeIn K cd11 "_law_is" = true) (k11 : PySem.W.keepIn K (.ref f11) = true)
    (a12 : PySem.W.nsIn K mainGlobals "_law_right" = some (some (.ref f12))) (l12 : K.lookup f12 = some ⟨oc12, od12, .func (PySem.W.fnOf "_law_right" "_law_right" (defArgs s__law_right) (defBody s__law_right) (defScope s__law_right) .none kV12 dc12 pm12 an12 cd12 ct12), sl12⟩) (c12 : PySem.W.codeIn K cd12 "_law_right" = true) (k12 : PySem.W.keepIn K (.ref f12) = true)
    (a13 : PySem.W.nsIn K mainGlobals "law" = some (some (.ref f13))) (l13 : K.lookup f13 = some ⟨oc13, od13, .func (PySem.W.fnOf "law" "law" (defArgs s_law) (defBody s_law) (defScope s_law) .none kV13 dc13 pm13 an13 cd13 ct13), sl13⟩) (c13 : PySem.W.codeIn K cd13 "law" = true) (k13 : PySem.W.keepIn K (.ref f13) = true)
    (z_isinstance : PySem.W.nsIn K mainGlobals "isinstance" = some none)    (z_int : PySem.W.nsIn K mainGlobals "int" = some none)    (z_bool : PySem.W.nsIn K mainGlobals "bool" = some none)    (z_tuple : PySem.W.nsIn K mainGlobals "tuple" = some none)    (z_len : PySem.W.nsIn K mainGlobals "len" = some none)    (z_range : PySem.W.nsIn K mainGlobals "range" = some none)    (z_abs : PySem.W.nsIn K mainGlobals "abs" = some none)    (z_divmod : PySem.W.nsIn K mainGlobals "divmod" = some none)    (z_repr : PySem.W.nsIn K mainGlobals "repr" = some none)    (z_max : PySem.W.nsIn K mainGlobals "max" = some none)    (z_min : PySem.W.nsIn K mainGlobals "min" = some none)    (z_list : PySem.W.nsIn K mainGlobals "list" = some none)    (y_MOST_DEEP : PySem.W.nsIn K mainGlobals "MOST_DEEP" = some (some (.int 6 tk_MOST_DEEP)))    (y_MOST_CORNERS : PySem.W.nsIn K mainGlobals "MOST_CORNERS" = some (some (.int 9 tk_MOST_CORNERS))) :
    LawG l w K 5 "_law_script" mg fa h := by
  have e := hfa.symm.trans (PySem.W.mg_of X G a13)
  cases e
  have F1 := fun_mk (st := s_is_whole) l1 c1 k1
  have b1 := F1.binds (ps := ["thing"]) fun _ _ _ _ _ _ us hl => match us, hl with | [_], _ => rfl
  have D_is_whole : Df K mg "is_whole" s_is_whole ["thing"] _ _ := ⟨F1, PySem.W.mg_of X G a1, b1⟩
  have F5 := fun_mk (st := s_is_curve) l5 c5 k5
  have b5 := F5.binds (ps := ["thing"]) fun _ _ _ _ _ _ us hl => match us, hl with | [_], _ => rfl
  have D_is_curve : Df K mg "is_curve" s_is_curve ["thing"] _ _ := ⟨F5, PySem.W.mg_of X G a5, b5⟩
  have F7 := fun_mk (st := s__law_box) l7 c7 k7
  have b7 := F7.binds (ps := ["_law_script", "_law_k"]) fun _ _ _ _ _ _ us hl => match us, hl with | [_, _], _ => rfl
  have D__law_box : Df K mg "_law_box" s__law_box ["_law_script", "_law_k"] _ _ := ⟨F7, PySem.W.mg_of X G a7, b7⟩
  have F8 := fun_mk (st := s__law_more) l8 c8 k8
  have b8 := F8.binds (ps := ["_law_box_here"]) fun _ _ _ _ _ _ us hl => match us, hl with | [_], _ => rfl
  have D__law_more : Df K mg "_law_more" s__law_more ["_law_box_here"] _ _ := ⟨F8, PySem.W.mg_of X G a8, b8⟩
  have F9 := fun_mk (st := s__law_take) l9 c9 k9
  have b9 := F9.binds (ps := ["_law_box_here", "_law_wide"]) fun _ _ _ _ _ _ us hl => match us, hl with | [_, _], _ => rfl
  have D__law_take : Df K mg "_law_take" s__law_take ["_law_box_here", "_law_wide"] _ _ := ⟨F9, PySem.W.mg_of X G a9, b9⟩
  have F10 := fun_mk (st := s__law_curve) l10 c10 k10
  have b10 := F10.binds (ps := ["_law_box_here"]) fun _ _ _ _ _ _ us hl => match us, hl with | [_], _ => rfl
  have D__law_curve : Df K mg "_law_curve" s__law_curve ["_law_box_here"] _ _ := ⟨F10, PySem.W.mg_of X G a10, b10⟩
  have F11 := fun_mk (st := s__law_is) l11 c11 k11
  have b11 := F11.binds (ps := ["_law_thing"]) fun _ _ _ _ _ _ us hl => match us, hl with | [_], _ => rfl
  have D__law_is : Df K mg "_law_is" s__law_is ["_law_thing"] _ _ := ⟨F11, PySem.W.mg_of X G a11, b11⟩
  have F12 := fun_mk (st := s__law_right) l12 c12 k12
  have b12 := F12.binds (ps := ["_law_thing"]) fun _ _ _ _ _ _ us hl => match us, hl with | [_], _ => rfl
  have D__law_right : Df K mg "_law_right" s__law_right ["_law_thing"] _ _ := ⟨F12, PySem.W.mg_of X G a12, b12⟩
  have F13 := fun_mk (st := s_law) l13 c13 k13
  have b13 := F13.binds (ps := ["_law_script"]) fun _ _ _ _ _ _ us hl => match us, hl with | [_], _ => rfl
  have D_law : Df K mg "law" s_law ["_law_script"] _ _ := ⟨F13, PySem.W.mg_of X G a13, b13⟩
  have B : Bt mg := ⟨PySem.W.mg_none_of X G z_isinstance, PySem.W.mg_none_of X G z_int, PySem.W.mg_none_of X G z_bool, PySem.W.mg_none_of X G z_tuple, PySem.W.mg_none_of X G z_len, PySem.W.mg_none_of X G z_range, PySem.W.mg_none_of X G z_abs, PySem.W.mg_none_of X G z_divmod, PySem.W.mg_none_of X G z_repr, PySem.W.mg_none_of X G z_max, PySem.W.mg_none_of X G z_min, PySem.W.mg_none_of X G z_list⟩
  have c_MOST_DEEP := PySem.W.mg_of X G y_MOST_DEEP
  have c_MOST_CORNERS := PySem.W.mg_of X G y_MOST_CORNERS
  refine ⟨PySem.W.fnOf "law" "law" (defArgs s_law) (defBody s_law) (defScope s_law) .none kV13 dc13 pm13 an13 cd13 ct13, [], [], fun p hp => (nomatch hp), fun p hp => (nomatch hp), fun p hp => (nomatch hp), fun s v => .of_eq rfl, fun base _ _ TB => ?_⟩
  exact ok_law D_law D_is_whole D_is_curve D__law_box D__law_more D__law_take D__law_curve D__law_is D__law_right B c_MOST_DEEP c_MOST_CORNERS
end CF
open PySem PySem.W PyProof.Rows
set_option maxHeartbeats 0 in
theorem PySem.Challenge.cw_curvefaces_k01_curves_known_holds : PySem.Challenge.rw_curvefaces_k01_curves_known.Holds := by
  w_on; o_law; k_head; (case hw => w_witness2)
  k_fill
  refine CF.walk_G (l := PySem.Challenge.rw_curvefaces_k01_curves_known) (k := 5) (x := "_law_script") [] rfl rfl ⟨rfl, by decide, by decide⟩ (by decide +kernel) (fun w h Y => PySem.W.kIn_of Y) ?F
  case F =>
    intro w mg fa h KX G hmg O
    refine' CF.all_mk KX G hmg O ?a1 ?l1 ?c1 ?k1 ?a5 ?l5 ?c5 ?k5 ?a7 ?l7 ?c7 ?k7 ?a8 ?l8 ?c8 ?k8 ?a9 ?l9 ?c9 ?k9 ?a10 ?l10 ?c10 ?k10 ?a11 ?l11 ?c11 ?k11 ?a12 ?l12 ?c12 ?k12 ?a13 ?l13 ?c13 ?k13 ?z_isinstance ?z_int ?z_bool ?z_tuple ?z_len ?z_range ?z_abs ?z_divmod ?z_repr ?z_max ?z_min ?z_list ?y_MOST_DEEP ?y_MOST_CORNERS
    (case a1 => k_is)
    (case l1 => k_is)
    (case c1 => k_is)
    (case k1 => k_is)
    (case a5 => k_is)
    (case l5 => k_is)
    (case c5 => k_is)
    (case k5 => k_is)
    (case a7 => k_is)
    (case l7 => k_is)
    (case c7 => k_is)
    (case k7 => k_is)
    (case a8 => k_is)
    (case l8 => k_is)
    (case c8 => k_is)
    (case k8 => k_is)
    (case a9 => k_is)
    (case l9 => k_is)
    (case c9 => k_is)
    (case k9 => k_is)
    (case a10 => k_is)
    (case l10 => k_is)
    (case c10 => k_is)
    (case k10 => k_is)
    (case a11 => k_is)
    (case l11 => k_is)
    (case c11 => k_is)
    (case k11 => k_is)
    (case a12 => k_is)
    (case l12 => k_is)
    (case c12 => k_is)
    (case k12 => k_is)
    (case a13 => k_is)
    (case l13 => k_is)
    (case c13 => k_is)
    (case k13 => k_is)
    (case z_isinstance => k_is)
    (case z_int => k_is)
    (case z_bool => k_is)
    (case z_tuple => k_is)
    (case z_len => k_is)
    (case z_range => k_is)
    (case z_abs => k_is)
    (case z_divmod => k_is)
    (case z_repr => k_is)
    (case z_max => k_is)
    (case z_min => k_is)
    (case z_list => k_is)
    (case y_MOST_DEEP => k_is)
    (case y_MOST_CORNERS => k_is)
