import PyProof.Rows.All
import Wide.All
import OpenK.AllK
import Wide.FinOn
import PySem.Challenge.RW_curvefaces_k02_lots_panes_faces_known
import HandS.ForMost
import HandS.TupAny
import HandS.Flow
import HandS.IsInst
import HandS.Evl
import HandS.Deep
import HandS.Walk
import HandS.EndOwn
import HandS.Nested
import HandS.Zip0
import HandS.Zip
import HandS.EndTab
import HandS.AnyAll
import KE.GoesZip
import KE.GoesEnum
import KE.GoesMore
import HandS.SetFor
import PyProof.GenCompD
import PyProof.GenCompT
import HandS.Conv
import HandS.Dict
import HandS.RaiseMore
import HandS.TupSets
import HandS.CallLocal
import HandS.NoneIn
import HandS.Lambda
import HandS.Style
import HandS.Strs
import HandS.Set
set_option Elab.async false
set_option linter.all false
set_option maxRecDepth 100000
set_option maxHeartbeats 1000000
namespace CF
open PySem PySem.Spec PyProof.Rows L2 Evl
/-! ### data without lists: none, bools, ints, texts, tuples; it stays whatever is done to lists -/
mutual
inductive Dt (K : PySem.W.Frag) (H : Hp) : V → PyData → Prop
  | non : Dt K H .non .none
  | bl (b : Bool) : Dt K H (.bl b) (.bool b)
  | int (i : Int) : Dt K H (.int i) (.int i)
  | str (x : Str) : Dt K H (.str x) (.str x)
  | tup {a : Addr} {xs : List V} {ds : List PyData} : SqT K H a xs → DtAll K H xs ds → Dt K H (.ref a) (.tuple ds)
inductive DtAll (K : PySem.W.Frag) (H : Hp) : List V → List PyData → Prop
  | nil : DtAll K H [] []
  | cons {v : V} {vs : List V} {d : PyData} {ds : List PyData} : Dt K H v d → DtAll K H vs ds → DtAll K H (v :: vs) (d :: ds)
end
/-- what is a tuple (or locked) stays -/
def Tx (H H' : Hp) : Prop := ∀ a u, Rd H a (.tup u) → Rd H' a (.tup u)
theorem Tx.refl (H : Hp) : Tx H H := fun _ _ h => h
theorem Tx.trans {H H1 H2 : Hp} (a : Tx H H1) (b : Tx H1 H2) : Tx H H2 := fun c u h => b c u (a c u h)
theorem tx_of {H H' : Hp} (e : Ex H H') : Tx H H' := fun _ _ h => ex_rd e h
/-- a store at a list -/
theorem tx_lst {H : Hp} {D : Addr} {o : HO} {xs : List V} (h : H D = some (.lst xs)) : Tx H (upd H D o) := fun a u r => by
  have n : a ≠ D := fun z => by
    subst z
    rcases r with r | ⟨o, r⟩ <;> (rw [h] at r; cases r)
  rcases r with r | ⟨o, r⟩
  · exact .inl (by rw [upd_ne n]; exact r)
  · exact .inr ⟨o, by rw [upd_ne n]; exact r⟩
theorem tx_sq {K : PySem.W.Frag} {H H' : Hp} {a : Addr} {xs : List V} (e : Tx H H') (h : SqT K H a xs) : SqT K H' a xs := by
  rcases h with h | h
  · exact .inl (e _ _ h)
  · exact .inr h
mutual
theorem dt_tx {K : PySem.W.Frag} {H H' : Hp} (e : Tx H H') : ∀ {v : V} {d : PyData}, Dt K H v d → Dt K H' v d
  | _, _, .non => .non
  | _, _, .bl b => .bl b
  | _, _, .int i => .int i
  | _, _, .str x => .str x
  | _, _, .tup h a => .tup (tx_sq e h) (dta_tx e a)
theorem dta_tx {K : PySem.W.Frag} {H H' : Hp} (e : Tx H H') : ∀ {vs : List V} {ds : List PyData}, DtAll K H vs ds → DtAll K H' vs ds
  | _, _, .nil => .nil
  | _, _, .cons h t => .cons (dt_tx e h) (dta_tx e t)
end
theorem dt_ex {K : PySem.W.Frag} {H H' : Hp} (e : Ex H H') {v : V} {d : PyData} (h : Dt K H v d) : Dt K H' v d := dt_tx (tx_of e) h
theorem dta_ex {K : PySem.W.Frag} {H H' : Hp} (e : Ex H H') {vs : List V} {ds : List PyData} (h : DtAll K H vs ds) : DtAll K H' vs ds := dta_tx (tx_of e) h
mutual
theorem dt_dp {K : PySem.W.Frag} {H : Hp} : ∀ {v : V} {d : PyData}, Dt K H v d → Dp K H v d
  | _, _, .non => .non
  | _, _, .bl b => .bl b
  | _, _, .int i => .int i
  | _, _, .str x => .str x
  | _, _, .tup h a => .tup h (dta_dp a)
theorem dta_dp {K : PySem.W.Frag} {H : Hp} : ∀ {vs : List V} {ds : List PyData}, DtAll K H vs ds → DpAll K H vs ds
  | _, _, .nil => .nil
  | _, _, .cons h t => .cons (dt_dp h) (dta_dp t)
end
section
variable {K : PySem.W.Frag} {H : Hp}
theorem dta_len : ∀ {vs : List V} {ds : List PyData}, DtAll K H vs ds → vs.length = ds.length
  | _, _, .nil => rfl
  | _, _, .cons _ t => by rw [List.length_cons, List.length_cons, dta_len t]
theorem dta_get : ∀ {vs : List V} {ds : List PyData} {i : Nat} {v : V}, DtAll K H vs ds → vs[i]? = some v → ∃ d, ds[i]? = some d ∧ Dt K H v d
  | _, _, _, _, .nil, e => by simp at e
  | _, _, 0, _, .cons h _, e => by simp at e; subst e; exact ⟨_, rfl, h⟩
  | _, _, i + 1, v, .cons _ t, e => by
    obtain ⟨d, h1, h2⟩ := dta_get (i := i) (v := v) t (by simpa using e)
    exact ⟨d, by simpa using h1, h2⟩
theorem dta_get' : ∀ {vs : List V} {ds : List PyData} {i : Nat} {d : PyData}, DtAll K H vs ds → ds[i]? = some d → ∃ v, vs[i]? = some v ∧ Dt K H v d
  | _, _, _, _, .nil, e => by simp at e
  | _, _, 0, _, .cons h _, e => by simp at e; subst e; exact ⟨_, rfl, h⟩
  | _, _, i + 1, d, .cons _ t, e => by
    obtain ⟨v, h1, h2⟩ := dta_get' (i := i) (d := d) t (by simpa using e)
    exact ⟨v, by simpa using h1, h2⟩
theorem dta_app : ∀ {vs ws : List V} {ds es : List PyData}, DtAll K H vs ds → DtAll K H ws es → DtAll K H (vs ++ ws) (ds ++ es)
  | _, _, _, _, .nil, s => s
  | _, _, _, _, .cons h t, s => .cons h (dta_app t s)
theorem dta_one {v : V} {d : PyData} (h : Dt K H v d) : DtAll K H [v] [d] := .cons h .nil
theorem dta_take : ∀ {vs : List V} {ds : List PyData} (n : Nat), DtAll K H vs ds → DtAll K H (vs.take n) (ds.take n)
  | _, _, 0, _ => .nil
  | _, _, _ + 1, .nil => .nil
  | _, _, n + 1, .cons h t => .cons h (dta_take n t)
theorem dta_drop : ∀ {vs : List V} {ds : List PyData} (n : Nat), DtAll K H vs ds → DtAll K H (vs.drop n) (ds.drop n)
  | _, _, 0, r => r
  | _, _, _ + 1, .nil => .nil
  | _, _, n + 1, .cons _ t => dta_drop n t
theorem dta_ints : ∀ (l : List Int), DtAll K H (l.map V.int) (l.map PyData.int)
  | [] => .nil
  | i :: l => .cons (.int i) (dta_ints l)
theorem dta_ints_inv : ∀ {vs : List V} {l : List Int}, DtAll K H vs (l.map PyData.int) → vs = l.map V.int
  | _, [], .nil => rfl
  | _, i :: l, .cons h t => by
    cases h
    rw [dta_ints_inv t]
    rfl
end

/-! ### a new address apart -/
theorem ne_free {H : Hp} {p q : Addr} {o : HO} (h : H q = some o) (n : H p = none) : p ≠ q := fun e => by
  subst e; rw [n] at h; cases h

/-! ### what evaluates to which data -/
def EvD (K : PySem.W.Frag) (te : TE) (σ : L2.St) (H : Hp) (d : PyData) : Prop := ∀ H1, Ex H H1 → ∀ Q : VK, (∀ v H2, Ex H1 H2 → Dt K H2 v d → Q v H2) → te σ H1 Q
/-- a new list of data -/
def EvF (K : PySem.W.Frag) (te : TE) (σ : L2.St) (H : Hp) (ds : List PyData) : Prop := ∀ H1, Ex H H1 → ∀ Q : VK, (∀ p xs H2, H1 p = none → Ex H1 H2 → H2 p = some (.lst xs) → DtAll K H2 xs ds → Q (.ref p) H2) → te σ H1 Q
def EvB (K : PySem.W.Frag) (ta : TA) (σ : L2.St) (H : Hp) (ds : List PyData) : Prop := ∀ H1, Ex H H1 → ∀ Q : List V → Hp → Prop, (∀ vs H2, Ex H1 H2 → DtAll K H2 vs ds → Q vs H2) → ta σ H1 Q
section
variable {K : PySem.W.Frag} {σ : L2.St} {H H' : Hp} {ta tb te tx : TE} {t u : TT} {x y z v : V} {r : R2} {d : PyData} {ds es : List PyData}
theorem EvD.mono (e : Ex H H') (h : EvD K te σ H d) : EvD K te σ H' d := fun H1 a Q q => h H1 (e.trans a) Q q
theorem EvF.mono (e : Ex H H') (h : EvF K te σ H ds) : EvF K te σ H' ds := fun H1 a Q q => h H1 (e.trans a) Q q
theorem ed_var {i : Nat} (h : σ[i]? = some (some v)) (hd : Dt K H v d) : EvD K (tVar i) σ H d := fun H1 e _ q => ⟨v, h, q v H1 (Ex.refl H1) (dt_ex e hd)⟩
theorem ed_ev (h : Ev te σ H v) (hd : Dt K H v d) : EvD K te σ H d := fun H1 e Q q => h H1 e Q fun H2 e2 => q v H2 e2 (dt_ex (e.trans e2) hd)
theorem ev_int {i : Int} (h : EvD K te σ H (.int i)) : Ev te σ H (.int i) := fun H1 e Q q => h H1 e Q fun v H2 e2 hd => by
  cases hd
  exact q H2 e2
theorem ev_bl {b : Bool} (h : EvD K te σ H (.bool b)) : Ev te σ H (.bl b) := fun H1 e Q q => h H1 e Q fun v H2 e2 hd => by
  cases hd
  exact q H2 e2
theorem ev_str {s : Str} (h : EvD K te σ H (.str s)) : Ev te σ H (.str s) := fun H1 e Q q => h H1 e Q fun v H2 e2 hd => by
  cases hd
  exact q H2 e2
theorem ed_int {i : Int} (h : Ev te σ H (.int i)) : EvD K te σ H (.int i) := ed_ev h (.int i)
theorem ed_bl {b : Bool} (h : Ev te σ H (.bl b)) : EvD K te σ H (.bool b) := ed_ev h (.bl b)
theorem ed_is {e : PyData} (h : EvD K te σ H d) (q : d = e) : EvD K te σ H e := q ▸ h
theorem ef_is (h : EvF K te σ H ds) (q : ds = es) : EvF K te σ H es := q ▸ h
theorem eb_nil : EvB K tNil σ H [] := fun H1 _ _ q => q [] H1 (Ex.refl H1) .nil
theorem eb_cons {tr : TA} (h : EvD K ta σ H d) (hr : EvB K tr σ H ds) : EvB K (tCons ta tr) σ H (d :: ds) := fun H1 e _ q =>
  h H1 e _ fun v H2 e2 hd => hr H2 (e.trans e2) _ fun vs H3 e3 ha => q (v :: vs) H3 (e2.trans e3) (.cons (dt_ex e3 hd) ha)
theorem ed_tup {ta : TA} (h : EvB K ta σ H ds) (hl : ds.length ≤ 100000) : EvD K (tTup ta) σ H (.tuple ds) := fun H1 e _ q =>
  h H1 e _ fun vs H2 e2 ha => ⟨sz_of (by rw [dta_len ha]; exact hl), fun p hp => q _ _ (e2.trans (Ex.new hp)) (.tup (.inl (.inl upd_same)) (dta_ex (Ex.new hp) ha))⟩
theorem ef_lst {ta : TA} (h : EvB K ta σ H ds) (hl : ds.length ≤ 100000) : EvF K (tLst ta) σ H ds := fun H1 e _ q =>
  h H1 e _ fun vs H2 e2 ha => ⟨sz_of (by rw [dta_len ha]; exact hl), fun p hp => q p vs _ (fresh_back e2 hp) (e2.trans (Ex.new hp)) upd_same (dta_ex (Ex.new hp) ha)⟩
/-- t + u -/
theorem ed_cat {xs ys : List PyData} (ha : EvD K ta σ H (.tuple xs)) (hb : EvD K tb σ H (.tuple ys)) (hl : xs.length + ys.length ≤ 100000) : EvD K (tOp (rCatA K) ta tb) σ H (.tuple (xs ++ ys)) := fun H1 e Q q =>
  ha H1 e _ fun v H2 e2 hv => hb H2 (e.trans e2) _ fun w H3 e3 hw => by
    have hv := dt_ex e3 hv
    cases hv with
    | tup hs hx =>
      cases hw with
      | tup ht hy =>
        rename_i a vs b ws
        refine ⟨_, _, _, _, rfl, rfl, hs, ht, sz_of (by rw [dta_len hx, dta_len hy]; exact hl), fun z => ?_, fun _ z => ?_, fun _ _ p hp => ?_⟩
        · subst z
          cases hx
          exact q _ _ (e2.trans e3) (.tup ht hy)
        · subst z
          cases hy
          rw [List.append_nil] at q
          exact q _ _ (e2.trans e3) (.tup hs hx)
        · exact q _ _ ((e2.trans e3).trans (Ex.new hp)) (.tup (.inl (.inl upd_same)) (dta_ex (Ex.new hp) (dta_app hx hy)))
theorem atI_dta {vs : List V} {i : Int} (h : DtAll K H vs ds) (e : atI ds i = some d) : ∃ v, atI vs i = some v ∧ Dt K H v d := by
  unfold atI at e ⊢
  rw [dta_len h]
  cases q : ixN ds.length i with
  | none => rw [q] at e; cases e
  | some j =>
    rw [q] at e
    exact dta_get' h e
theorem ed_ixT {i : Int} (ha : EvD K ta σ H (.tuple ds)) (hb : Ev tb σ H (.int i)) (h : atI ds i = some d) : EvD K (tOp (rIxT K) ta tb) σ H d := fun H1 e Q q =>
  ha H1 e _ fun v H2 e2 hv => hb H2 (e.trans e2) _ fun H3 e3 => by
    have hv := dt_ex e3 hv
    cases hv with
    | tup hs hx =>
      obtain ⟨w, hw, hd⟩ := atI_dta hx h
      exact ⟨_, _, i, w, rfl, rfl, hs, hw, q w H3 (e2.trans e3) hd⟩
/-- xs[i] of a list that stands -/
theorem ed_ixL {i : Int} {a : Addr} {xs : List V} (ha : Ev ta σ H (.ref a)) (hs : SqL K H a xs) (hx : DtAll K H xs ds) (hb : Ev tb σ H (.int i)) (h : atI ds i = some d) : EvD K (tOp (rIxL K) ta tb) σ H d := fun H1 e Q q =>
  ha H1 e _ fun H2 e2 => hb H2 (e.trans e2) _ fun H3 e3 => by
    obtain ⟨w, hw, hd⟩ := atI_dta (dta_ex ((e.trans e2).trans e3) hx) h
    exact ⟨_, _, i, w, rfl, rfl, ex_l ((e.trans e2).trans e3) hs, hw, q w H3 (e2.trans e3) hd⟩
/-- [..][i]: of a list made on the way -/
theorem ed_ixF {i : Int} (ha : EvF K ta σ H ds) (hb : Ev tb σ H (.int i)) (h : atI ds i = some d) : EvD K (tOp (rIxL K) ta tb) σ H d := fun H1 e Q q =>
  ha H1 e _ fun p xs H2 _ e2 hp hx => hb H2 (e.trans e2) _ fun H3 e3 => by
    obtain ⟨w, hw, hd⟩ := atI_dta (dta_ex e3 hx) h
    exact ⟨_, _, i, w, rfl, rfl, sq_of (e3 p _ hp), hw, q w H3 (e2.trans e3) hd⟩
theorem ev_lenT (ha : EvD K ta σ H (.tuple ds)) : Ev (tCB (rLenS K) (tCons ta tNil)) σ H (.int (ds.length : Int)) := fun H1 e Q q =>
  ha H1 e _ fun v H2 e2 hv => by
    cases hv with
    | tup hs hx =>
      refine ⟨_, _, rfl, .inr hs, ?_⟩
      rw [dta_len hx]
      exact q H2 e2
theorem ev_lenF (ha : EvF K ta σ H ds) : Ev (tCB (rLenS K) (tCons ta tNil)) σ H (.int (ds.length : Int)) := fun H1 e Q q =>
  ha H1 e _ fun p xs H2 _ e2 hp hx => ⟨p, xs, rfl, .inl (sq_of hp), by rw [dta_len hx]; exact q H2 e2⟩
theorem ev_lenD {a : Addr} {xs : List V} (ha : Ev ta σ H (.ref a)) (hs : SqL K H a xs) (hx : DtAll K H xs ds) : Ev (tCB (rLenS K) (tCons ta tNil)) σ H (.int (ds.length : Int)) := by
  rw [← dta_len hx]
  exact ev_len ha hs
/-- xs + ys -/
theorem ef_catLF {p : Addr} {xs : List V} (ha : Ev ta σ H (.ref p)) (hp : H p = some (.lst xs)) (hx : DtAll K H xs ds) (hb : EvF K tb σ H es) (hl : ds.length + es.length ≤ 100000) : EvF K (tOp rCat ta tb) σ H (ds ++ es) := fun H1 e Q q =>
  ha H1 e _ fun H2 e2 => hb H2 (e.trans e2) _ fun b ys H3 _ e3 hb' hy =>
    ⟨_, _, _, _, rfl, rfl, ((e.trans e2).trans e3) p _ hp, hb', sz_of (by rw [dta_len hx, dta_len hy]; exact hl), fun n hn =>
      q n _ _ (fresh_back (e2.trans e3) hn) ((e2.trans e3).trans (Ex.new hn)) upd_same (dta_ex (Ex.new hn) (dta_app (dta_ex ((e.trans e2).trans e3) hx) hy))⟩
theorem ef_catFF (ha : EvF K ta σ H ds) (hb : EvF K tb σ H es) (hl : ds.length + es.length ≤ 100000) : EvF K (tOp rCat ta tb) σ H (ds ++ es) := fun H1 e Q q =>
  ha H1 e _ fun p xs H2 np e2 hp hx => hb H2 (e.trans e2) _ fun b ys H3 _ e3 hb' hy =>
    ⟨_, _, _, _, rfl, rfl, e3 p _ hp, hb', sz_of (by rw [dta_len hx, dta_len hy]; exact hl), fun n hn =>
      q n _ _ (fresh_back (e2.trans e3) hn) ((e2.trans e3).trans (Ex.new hn)) upd_same (dta_ex (Ex.new hn) (dta_app (dta_ex e3 hx) hy))⟩
/-! calls of defs that hand on data -/
def spD (K : PySem.W.Frag) (pre : List PyData → Prop) (f : List PyData → PyData) : Sp := fun vs H Q _ => ∃ ds, DtAll K H vs ds ∧ pre ds ∧ ∀ v H2, Ex H H2 → Dt K H2 v (f ds) → Q v H2
def spF (K : PySem.W.Frag) (pre : List PyData → Prop) (f : List PyData → List PyData) : Sp := fun vs H Q _ => ∃ ds, DtAll K H vs ds ∧ pre ds ∧ ∀ p xs H2, H p = none → Ex H H2 → H2 p = some (.lst xs) → DtAll K H2 xs (f ds) → Q (.ref p) H2
theorem ed_call {pre : List PyData → Prop} {f : List PyData → PyData} {E : XK} {ta : TA} (h : EvB K ta σ H ds) (hp : pre ds) : EvD K (tCall (spD K pre f) [] E ta) σ H (f ds) := fun H1 e Q q =>
  h H1 e _ fun vs H2 e2 ha => by
    show spD K pre f (vs ++ []) H2 Q E
    rw [List.append_nil]
    exact ⟨ds, ha, hp, fun v H3 e3 hd => q v H3 (e2.trans e3) hd⟩
theorem ef_call {pre : List PyData → Prop} {f : List PyData → List PyData} {E : XK} {ta : TA} (h : EvB K ta σ H ds) (hp : pre ds) : EvF K (tCall (spF K pre f) [] E ta) σ H (f ds) := fun H1 e Q q =>
  h H1 e _ fun vs H2 e2 ha => by
    show spF K pre f (vs ++ []) H2 Q E
    rw [List.append_nil]
    exact ⟨ds, ha, hp, fun p xs H3 np e3 hx hd => q p xs H3 (fresh_back e2 np) (e2.trans e3) hx hd⟩
/-! == and != -/
theorem ev_eqDD {d e : PyData} (ha : EvD K ta σ H d) (hb : EvD K tb σ H e) (sd : SeqAt.shaped d = true) (se : SeqAt.shaped e = true) : Ev (tOp (rEqD K) ta tb) σ H (.bl (PyData.eqv d e)) := fun H1 e1 Q q =>
  ha H1 e1 _ fun v H2 e2 hv => hb H2 (e1.trans e2) _ fun w H3 e3 hw => ⟨d, e, dt_dp (dt_ex e3 hv), dt_dp hw, sd, se, q H3 (e2.trans e3)⟩
theorem ev_neDD {d e : PyData} (ha : EvD K ta σ H d) (hb : EvD K tb σ H e) (sd : SeqAt.shaped d = true) (se : SeqAt.shaped e = true) : Ev (tOp (rNeD K) ta tb) σ H (.bl (!PyData.eqv d e)) := fun H1 e1 Q q =>
  ha H1 e1 _ fun v H2 e2 hv => hb H2 (e1.trans e2) _ fun w H3 e3 hw => ⟨d, e, dt_dp (dt_ex e3 hv), dt_dp hw, sd, se, q H3 (e2.trans e3)⟩
theorem ev_neFF (ha : EvF K ta σ H ds) (hb : EvF K tb σ H es) (sd : SeqAt.shaped (.list ds) = true) (se : SeqAt.shaped (.list es) = true) : Ev (tOp (rNeD K) ta tb) σ H (.bl (!PyData.eqv (.list ds) (.list es))) := fun H1 e1 Q q =>
  ha H1 e1 _ fun p xs H2 _ e2 hp hx => hb H2 (e1.trans e2) _ fun r ys H3 _ e3 hr hy => ⟨_, _, .lst (sq_of (e3 p _ hp)) (dta_dp (dta_ex e3 hx)), .lst (sq_of hr) (dta_dp hy), sd, se, q H3 (e2.trans e3)⟩
theorem ev_eqFF (ha : EvF K ta σ H ds) (hb : EvF K tb σ H es) (sd : SeqAt.shaped (.list ds) = true) (se : SeqAt.shaped (.list es) = true) : Ev (tOp (rEqD K) ta tb) σ H (.bl (PyData.eqv (.list ds) (.list es))) := fun H1 e1 Q q =>
  ha H1 e1 _ fun p xs H2 _ e2 hp hx => hb H2 (e1.trans e2) _ fun r ys H3 _ e3 hr hy => ⟨_, _, .lst (sq_of (e3 p _ hp)) (dta_dp (dta_ex e3 hx)), .lst (sq_of hr) (dta_dp hy), sd, se, q H3 (e2.trans e3)⟩
/-- lists that stand -/
theorem rv_neL {a b : Addr} {xs ys : List V} (h1 : SqL K H a xs) (hx : DtAll K H xs ds) (h2 : SqL K H b ys) (hy : DtAll K H ys es) (sd : SeqAt.shaped (.list ds) = true) (se : SeqAt.shaped (.list es) = true) : RV (rNeD K) (.ref a) (.ref b) H (.bl (!PyData.eqv (.list ds) (.list es))) := fun H1 e Q q =>
  ⟨_, _, .lst (ex_l e h1) (dta_dp (dta_ex e hx)), .lst (ex_l e h2) (dta_dp (dta_ex e hy)), sd, se, q H1 (Ex.refl H1)⟩
/-! comprehensions -/
def Cd (K : PySem.W.Frag) (H : Hp) (Dl : Addr) (ds : List PyData) (H' : Hp) : Prop := H Dl = none ∧ Ex H H' ∧ ∃ acc, H' Dl = some (.lst acc) ∧ DtAll K H' acc ds
theorem cd_turn {H H' : Hp} {Dl : Addr} {ds : List PyData} {b : Bool} {d : PyData} {σ2 : L2.St} (p : Cd K H Dl ds H') (hi : ds.length < 50000) (ht : EvT t σ2 H' b) (he : b = true → EvD K te σ2 H' d) :
    t σ2 H' fun b H3 => if b = true then te σ2 H3 fun y H4 => ∃ acc, H4 Dl = some (.lst acc) ∧ acc.length < sizeLine ∧ Cd K H Dl (ds ++ [d]) (upd H4 Dl (.lst (acc ++ [y]))) else Cd K H Dl ds H3 := by
  obtain ⟨p1, p2, acc, p3, p4⟩ := p
  refine ht H' (Ex.refl H') _ fun H3 e3 => ?_
  cases b with
  | true =>
    show te σ2 H3 fun y H4 => _
    refine (he rfl) H3 e3 _ fun y H4 e4 hd => ⟨acc, e4 Dl _ (e3 Dl _ p3), sz_lt (by rw [dta_len p4]; omega), p1, Ex.mut ((p2.trans e3).trans e4) p1, _, upd_same, ?_⟩
    exact dta_tx (tx_lst (e4 Dl _ (e3 Dl _ p3))) (dta_app (dta_ex (e3.trans e4) p4) (dta_one hd))
  | false => exact ⟨p1, p2.trans e3, acc, e3 Dl _ p3, dta_ex e3 p4⟩
theorem filter_take_succ {α : Type} {f : α → Bool} {l : List α} {i : Nat} {a : α} (h : l[i]? = some a) : (l.take (i + 1)).filter f = (l.take i).filter f ++ (if f a = true then [a] else []) := by
  rw [List.take_add_one, h, List.filter_append]
  show _ ++ List.filter f [a] = _
  rw [List.filter_cons]
  cases f a <;> rfl
/-- the turn of a comprehension over things as .. filtered by f, told by g -/
theorem cd_step {α : Type} {f : α → Bool} {g : α → PyData} {l : List α} {H H' : Hp} {Dl : Addr} {i : Nat} {a : α} {σ2 : L2.St} (p : Cd K H Dl (((l.take i).filter f).map g) H') (hl : l.length < 50000) (ha : l[i]? = some a) (ht : EvT t σ2 H' (f a)) (he : f a = true → EvD K te σ2 H' (g a)) :
    t σ2 H' fun b H3 => if b = true then te σ2 H3 fun y H4 => ∃ acc, H4 Dl = some (.lst acc) ∧ acc.length < sizeLine ∧ Cd K H Dl (((l.take (i + 1)).filter f).map g) (upd H4 Dl (.lst (acc ++ [y]))) else Cd K H Dl (((l.take (i + 1)).filter f).map g) H3 := by
  have hz : (((l.take i).filter f).map g).length < 50000 := by
    rw [List.length_map]
    have h1 := List.length_filter_le f (l.take i)
    have h2 : (l.take i).length ≤ l.length := by rw [List.length_take]; exact Nat.min_le_right _ _
    omega
  obtain ⟨p1, p2, acc, p3, p4⟩ := p
  refine ht H' (Ex.refl H') _ fun H3 e3 => ?_
  have e1 := filter_take_succ (f := f) ha
  cases hb : f a with
  | true =>
    rw [hb, if_pos rfl] at e1
    refine iteT ?_
    refine he hb H3 e3 _ fun y H4 e4 hd => ⟨acc, e4 Dl _ (e3 Dl _ p3), sz_lt (by rw [dta_len p4]; omega), p1, Ex.mut ((p2.trans e3).trans e4) p1, _, upd_same, ?_⟩
    rw [e1, List.map_append]
    exact dta_tx (tx_lst (e4 Dl _ (e3 Dl _ p3))) (dta_app (dta_ex (e3.trans e4) p4) (dta_one hd))
  | false =>
    rw [hb, if_neg Bool.false_ne_true, List.append_nil] at e1
    refine iteF ?_
    rw [e1]
    exact ⟨p1, p2.trans e3, acc, e3 Dl _ p3, dta_ex e3 p4⟩
/-- over a list that stands -/
theorem ef_lcL {a : Addr} {xs : List V} {tl : TE} {j : Nat} {vs : List Nat} (f : PyData → Bool) (g : PyData → PyData) (h : Ev tl σ H (.ref a)) (hx : SqL K H a xs) (hd : DtAll K H xs ds) (hz : ds.length < 50000) (hw : ∀ x, wipe ((wipe σ vs).set j (some x)) vs = wipe σ vs)
    (ht : ∀ (d : PyData) (x : V) H1, Ex H H1 → d ∈ ds → Dt K H1 x d → EvT t ((wipe σ vs).set j (some x)) H1 (f d)) (he : ∀ (d : PyData) (x : V) H1, Ex H H1 → d ∈ ds → Dt K H1 x d → f d = true → EvD K te ((wipe σ vs).set j (some x)) H1 (g d)) :
    EvF K (tLc (iList K tl) (gName j) t te vs) σ H ((ds.filter f).map g) := fun H0 e Q q => h H0 e _ fun H1 e1 => ⟨a, rfl, ⟨xs, ex_l (e.trans e1) hx⟩, fun Dl hD =>
  lc_list (xs := xs) (fun i H' => Cd K H1 Dl (((ds.take i).filter f).map g) H') ⟨hD, Ex.new hD, [], upd_same, .nil⟩ (fun i H' _ p => ex_l ((e.trans e1).trans p.2.1) hx) (fun i x H' hi p => by
      obtain ⟨d, h1, h2⟩ := dta_get (dta_ex ((e.trans e1).trans p.2.1) hd) hi
      have hm := List.mem_of_getElem? h1
      have e3 := (e.trans e1).trans p.2.1
      exact ⟨hw x, cd_step p hz h1 (ht d x H' e3 hm h2) (fun hf => he d x H' e3 hm h2 hf)⟩)
    (fun H' p => by
      obtain ⟨p1, p2, acc, p3, p4⟩ := p
      have e5 : ds.take xs.length = ds := List.take_of_length_le (by rw [dta_len hd]; exact Nat.le_refl _)
      rw [e5] at p4
      exact q Dl acc H' (fresh_back e1 p1) (e1.trans p2) p3 p4)⟩
/-- over a tuple -/
theorem ef_lcT {tl : TE} {j : Nat} {vs : List Nat} (f : PyData → Bool) (g : PyData → PyData) (h : EvD K tl σ H (.tuple ds)) (hz : ds.length < 50000) (hw : ∀ x, wipe ((wipe σ vs).set j (some x)) vs = wipe σ vs)
    (ht : ∀ (d : PyData) (x : V) H1, Ex H H1 → d ∈ ds → Dt K H1 x d → EvT t ((wipe σ vs).set j (some x)) H1 (f d)) (he : ∀ (d : PyData) (x : V) H1, Ex H H1 → d ∈ ds → Dt K H1 x d → f d = true → EvD K te ((wipe σ vs).set j (some x)) H1 (g d)) :
    EvF K (tLc (iTup K tl) (gName j) t te vs) σ H ((ds.filter f).map g) := fun H0 e Q q => h H0 e _ fun v H1 e1 hv => by
  cases hv with
  | tup hx hd =>
    rename_i a xs
    exact ⟨a, rfl, ⟨xs, hx⟩, fun Dl hD =>
      lc_tup (xs := xs) (fun i H' => Cd K H1 Dl (((ds.take i).filter f).map g) H') ⟨hD, Ex.new hD, [], upd_same, .nil⟩ (fun i H' _ p => ex_t p.2.1 hx) (fun i x H' hi p => by
          obtain ⟨d, h1, h2⟩ := dta_get (dta_ex p.2.1 hd) hi
          have hm := List.mem_of_getElem? h1
          have e3 := (e.trans e1).trans p.2.1
          exact ⟨hw x, cd_step p hz h1 (ht d x H' e3 hm h2) (fun hf => he d x H' e3 hm h2 hf)⟩)
        (fun H' p => by
          obtain ⟨p1, p2, acc, p3, p4⟩ := p
          have e5 : ds.take xs.length = ds := List.take_of_length_le (by rw [dta_len hd]; exact Nat.le_refl _)
          rw [e5] at p4
          exact q Dl acc H' (fresh_back e1 p1) (e1.trans p2) p3 p4)⟩
/-- over a list made on the way -/
theorem ef_lcF {tl : TE} {j : Nat} {vs : List Nat} (f : PyData → Bool) (g : PyData → PyData) (h : EvF K tl σ H ds) (hz : ds.length < 50000) (hw : ∀ x, wipe ((wipe σ vs).set j (some x)) vs = wipe σ vs)
    (ht : ∀ (d : PyData) (x : V) H1, Ex H H1 → d ∈ ds → Dt K H1 x d → EvT t ((wipe σ vs).set j (some x)) H1 (f d)) (he : ∀ (d : PyData) (x : V) H1, Ex H H1 → d ∈ ds → Dt K H1 x d → f d = true → EvD K te ((wipe σ vs).set j (some x)) H1 (g d)) :
    EvF K (tLc (iList K tl) (gName j) t te vs) σ H ((ds.filter f).map g) := fun H0 e Q q => h H0 e _ fun a xs H1 ha e1 hx hd => ⟨a, rfl, ⟨xs, sq_of hx⟩, fun Dl hD =>
  lc_list (xs := xs) (fun i H' => Cd K H1 Dl (((ds.take i).filter f).map g) H') ⟨hD, Ex.new hD, [], upd_same, .nil⟩ (fun i H' _ p => sq_of (p.2.1 a _ hx)) (fun i x H' hi p => by
      obtain ⟨d, h1, h2⟩ := dta_get (dta_ex p.2.1 hd) hi
      have hm := List.mem_of_getElem? h1
      have e3 := (e.trans e1).trans p.2.1
      exact ⟨hw x, cd_step p hz h1 (ht d x H' e3 hm h2) (fun hf => he d x H' e3 hm h2 hf)⟩)
    (fun H' p => by
      obtain ⟨p1, p2, acc, p3, p4⟩ := p
      have e5 : ds.take xs.length = ds := List.take_of_length_le (by rw [dta_len hd]; exact Nat.le_refl _)
      rw [e5] at p4
      exact q Dl acc H' (fresh_back e1 p1) (e1.trans p2) p3 p4)⟩
/-- the ints lo, lo + 1, .. below hi -/
def upTo (lo hi : Int) : List Int := (List.range (hi - lo).toNat).map fun (i : Nat) => lo + (i : Int)
theorem upTo_get {lo hi : Int} {i : Nat} (h : i < (hi - lo).toNat) : (upTo lo hi)[i]? = some (lo + (i : Int)) := by
  unfold upTo
  rw [List.getElem?_map, List.getElem?_range h]
  rfl
theorem upTo_len (lo hi : Int) : (upTo lo hi).length = (hi - lo).toNat := by
  unfold upTo
  rw [List.length_map, List.length_range]
theorem ef_lcR2 {ta : TA} {j : Nat} {vs : List Nat} {lo hi : Int} (f : Int → Bool) (g : Int → PyData) (h : EvA ta σ H [.int lo, .int hi]) (hn : -10000 ≤ lo ∧ lo ≤ 10000 ∧ -10000 ≤ hi ∧ hi ≤ 10000) (hw : ∀ x, wipe ((wipe σ vs).set j (some x)) vs = wipe σ vs)
    (ht : ∀ (i : Int) H1, Ex H H1 → lo ≤ i → i < hi → EvT t ((wipe σ vs).set j (some (.int i))) H1 (f i)) (he : ∀ (i : Int) H1, Ex H H1 → lo ≤ i → i < hi → f i = true → EvD K te ((wipe σ vs).set j (some (.int i))) H1 (g i)) :
    EvF K (tLc (iRng2 ta) (gName j) t te vs) σ H (((upTo lo hi).filter f).map g) := fun H0 e Q q => h H0 e _ fun H1 e1 => ⟨lo, hi, rfl, ⟨by omega, by omega, by omega, by omega⟩, fun Dl hD =>
  lc_range (lo := lo) (n := (hi - lo).toNat) (fun i H' => Cd K H1 Dl ((((upTo lo hi).take i).filter f).map g) H') ⟨hD, Ex.new hD, [], upd_same, .nil⟩ (fun i H' hi p => by
      have e3 := (e.trans e1).trans p.2.1
      exact ⟨hw _, cd_step p (by rw [upTo_len]; omega) (upTo_get hi) (ht _ H' e3 (by omega) (by omega)) (fun hf => he _ H' e3 (by omega) (by omega) hf)⟩)
    (fun H' p => by
      obtain ⟨p1, p2, acc, p3, p4⟩ := p
      have e5 : (upTo lo hi).take (hi - lo).toNat = upTo lo hi := List.take_of_length_le (by rw [upTo_len]; exact Nat.le_refl _)
      rw [e5] at p4
      exact q Dl acc H' (fresh_back e1 p1) (e1.trans p2) p3 p4)⟩
theorem ef_lcR1 {ta : TA} {j : Nat} {vs : List Nat} {hi : Int} (f : Int → Bool) (g : Int → PyData) (h : EvA ta σ H [.int hi]) (hn : -10000 ≤ hi ∧ hi ≤ 10000) (hw : ∀ x, wipe ((wipe σ vs).set j (some x)) vs = wipe σ vs)
    (ht : ∀ (i : Int) H1, Ex H H1 → 0 ≤ i → i < hi → EvT t ((wipe σ vs).set j (some (.int i))) H1 (f i)) (he : ∀ (i : Int) H1, Ex H H1 → 0 ≤ i → i < hi → f i = true → EvD K te ((wipe σ vs).set j (some (.int i))) H1 (g i)) :
    EvF K (tLc (iRng1 ta) (gName j) t te vs) σ H (((upTo 0 hi).filter f).map g) := fun H0 e Q q => h H0 e _ fun H1 e1 => ⟨hi, rfl, by omega, by omega, fun Dl hD =>
  lc_range (lo := 0) (n := hi.toNat) (fun i H' => Cd K H1 Dl ((((upTo 0 hi).take i).filter f).map g) H') ⟨hD, Ex.new hD, [], upd_same, .nil⟩ (fun i H' hi p => by
      have e3 := (e.trans e1).trans p.2.1
      exact ⟨hw _, cd_step p (by rw [upTo_len]; omega) (upTo_get (by omega)) (ht _ H' e3 (by omega) (by omega)) (fun hf => he _ H' e3 (by omega) (by omega) hf)⟩)
    (fun H' p => by
      obtain ⟨p1, p2, acc, p3, p4⟩ := p
      have e5 : (upTo 0 hi).take hi.toNat = upTo 0 hi := List.take_of_length_le (by rw [upTo_len]; omega)
      rw [e5] at p4
      exact q Dl acc H' (fresh_back e1 p1) (e1.trans p2) p3 p4)⟩
theorem et_yes : EvT tYes σ H true := fun H1 _ _ q => q H1 (Ex.refl H1)
theorem ev_chain {r r' : R2} {tc : TE} {a b : Bool} (ha : Ev ta σ H x) (hb : Ev tb σ H y) (hc : Ev tc σ H z) (h1 : RV r x y H (.bl a)) (h2 : RV r' y z H (.bl b)) : Ev (tChain r r' ta tb tc) σ H (.bl (a && b)) := fun H1 e Q q =>
  ha H1 e _ fun H2 e2 => hb H2 (e.trans e2) _ fun H3 e3 => h1 H3 ((e.trans e2).trans e3) _ fun H4 e4 => ⟨a, rfl, by
    cases a with
    | true => exact iteT (hc H4 (((e.trans e2).trans e3).trans e4) _ fun H5 e5 => h2 H5 ((((e.trans e2).trans e3).trans e4).trans e5) Q fun H6 e6 => q H6 ((((e2.trans e3).trans e4).trans e5).trans e6))
    | false => exact iteF (q H4 ((e2.trans e3).trans e4))⟩
/-- x or y, x a tuple -/
theorem ed_orT (ha : EvD K ta σ H (.tuple ds)) (hb : ds = [] → EvD K tb σ H d) (hd : ds ≠ [] → d = .tuple ds) : EvD K (tOrT K ta tb) σ H d := fun H1 e Q q =>
  ha H1 e _ fun v H2 e2 hv => by
    cases hv with
    | tup hs hx =>
      rename_i a xs
      refine ⟨!xs.isEmpty, .inr (.inl ⟨xs, hs, rfl⟩), ?_⟩
      cases xs with
      | nil =>
        cases hx
        exact iteF (hb rfl H2 (e.trans e2) Q fun w H3 e3 hw => q w H3 (e2.trans e3) hw)
      | cons x xs =>
        refine iteT ?_
        have hne : ds ≠ [] := fun z => by
          subst z
          cases hx
        refine q _ H2 e2 ?_
        rw [hd hne]
        exact .tup hs hx
theorem ev_isi {ty c : String} {b : Bool} (ha : Ev ta σ H v) (hb : Ev tb σ H (.ty c)) (ht : ∀ H1, Ex H H1 → TyX K H1 v (.type ty)) (hk : kitB ty c = some b) : Ev (tCB (rIsi K) (tCons ta (tCons tb tNil))) σ H (.bl b) := fun H1 e Q q =>
  ha H1 e _ fun H2 e2 => hb H2 (e.trans e2) _ fun H3 e3 => ⟨v, .ty c, .type ty, .type c, b, rfl, .ty c, ht H3 ((e.trans e2).trans e3), kit_ty hk, q H3 (e2.trans e3)⟩
theorem ty_int {i : Int} : ∀ H1, Ex H H1 → TyX K H1 (.int i) (.type "int") := fun _ _ => .base (.int i)
theorem ev_min2 {i j : Int} (ha : Ev ta σ H (.int i)) (hb : Ev tb σ H (.int j)) : Ev (tCB (fun xs H Q => ∃ i j, xs = [.int i, .int j] ∧ Q (.int (if j < i then j else i)) H) (tCons ta (tCons tb tNil))) σ H (.int (if j < i then j else i)) := fun H1 e Q q =>
  ha H1 e _ fun H2 e2 => hb H2 (e.trans e2) _ fun H3 e3 => ⟨i, j, rfl, q H3 (e2.trans e3)⟩
/-- a def that hands back a value and leaves the heap -/
def spV (pre : List V → Hp → Prop) (f : List V → V) : Sp := fun vs H Q _ => pre vs H ∧ ∀ H2, Ex H H2 → Q (f vs) H2
theorem ev_spv {pre : List V → Hp → Prop} {f : List V → V} {E : XK} {ta : TA} {vs : List V} (h : EvA ta σ H vs) (hp : ∀ H1, Ex H H1 → pre vs H1) : Ev (tCall (spV pre f) [] E ta) σ H (f vs) := fun H1 e Q q =>
  h H1 e _ fun H2 e2 => by
    show spV pre f (vs ++ []) H2 Q E
    rw [List.append_nil]
    exact ⟨hp H2 (e.trans e2), fun H3 e3 => q H3 (e2.trans e3)⟩
end
section
variable {K : PySem.W.Frag} {σ : L2.St} {H H' : Hp} {te : TE} {d : PyData} {ds : List PyData} {D : Ends} {tz tu : TS} {i : Nat}
theorem s_asgF (h : EvF K te σ H ds) (k : ∀ p xs H1, H p = none → Ex H H1 → H1 p = some (.lst xs) → DtAll K H1 xs ds → D.nx (σ.set i (some (.ref p))) H1) : tAsg te (gName i) D σ H := h H (Ex.refl H) _ k
theorem q_asgF (h : EvF K te σ H ds) (k : ∀ p xs H1, H p = none → Ex H H1 → H1 p = some (.lst xs) → DtAll K H1 xs ds → tz D (σ.set i (some (.ref p))) H1) : tSeq (tAsg te (gName i)) tz D σ H := h H (Ex.refl H) _ k
theorem s_asgD (h : EvD K te σ H d) (k : ∀ v H1, Ex H H1 → Dt K H1 v d → D.nx (σ.set i (some v)) H1) : tAsg te (gName i) D σ H := h H (Ex.refl H) _ k
theorem q_asgD (h : EvD K te σ H d) (k : ∀ v H1, Ex H H1 → Dt K H1 v d → tz D (σ.set i (some v)) H1) : tSeq (tAsg te (gName i)) tz D σ H := h H (Ex.refl H) _ k
theorem s_retF (h : EvF K te σ H ds) (k : ∀ p xs H1, H p = none → Ex H H1 → H1 p = some (.lst xs) → DtAll K H1 xs ds → D.rt (.ref p) H1) : tRet te D σ H := h H (Ex.refl H) _ k
theorem s_retD (h : EvD K te σ H d) (k : ∀ v H1, Ex H H1 → Dt K H1 v d → D.rt v H1) : tRet te D σ H := h H (Ex.refl H) _ k
end
/-! ### lots as lists of ints -/
def lotD (l : List Int) : PyData := .tuple (l.map PyData.int)
theorem lotD_ix {l : List Int} {i : Int} {x : Int} (h : atI l i = some x) : atI (l.map PyData.int) i = some (.int x) := by
  unfold atI at h ⊢
  rw [List.length_map]
  cases q : ixN l.length i with
  | none => rw [q] at h; cases h
  | some j =>
    rw [q] at h
    show (l.map PyData.int)[j]? = _
    rw [List.getElem?_map, show l[j]? = some x from h]
    rfl
theorem dt_lot {K : PySem.W.Frag} {H : Hp} {v : V} {l : List Int} (h : Dt K H v (lotD l)) : ∃ a, v = .ref a ∧ SqT K H a (l.map V.int) := by
  unfold lotD at h
  cases h with
  | tup hs hx =>
    rw [dta_ints_inv hx] at hs
    exact ⟨_, rfl, hs⟩
theorem lot_dt {K : PySem.W.Frag} {H : Hp} {a : Addr} {l : List Int} (h : SqT K H a (l.map V.int)) : Dt K H (.ref a) (lotD l) := .tup h (dta_ints l)
theorem inV_ints (x : Int) : ∀ l : List Int, inV (.int x) (l.map V.int) = l.contains x := by
  intro l
  induction l with
  | nil => rfl
  | cons y r ih =>
    have e : inV (.int x) ((y :: r).map V.int) = (eqV (.int y) (.int x) || inV (.int x) (r.map V.int)) := rfl
    rw [e, ih, List.contains_cons]
    have e2 : eqV (.int y) (.int x) = (x == y) := by
      show (y == x) = (x == y)
      exact Bool.beq_comm
    rw [e2]
theorem flat_ints : ∀ l : List Int, (l.map V.int).all flatV = true
  | [] => rfl
  | x :: r => by
    show (true && (r.map V.int).all flatV) = true
    rw [flat_ints r]
    rfl
theorem lastD (l : List Int) (hne : l ≠ []) : atI l (-1) = some (l.getLast hne) := by
  have e : l = l.dropLast ++ [l.getLast hne] := (List.dropLast_concat_getLast hne).symm
  have := atI_last l.dropLast (l.getLast hne)
  rw [← e] at this
  exact this
theorem units1 {k : Nat} {A : Around} (r : Room k A) : A.units + 65 < cLine := by
  have := r.un
  omega
def topS (i : Nat) : Stmt := PySem.Challenge.pw_curvefaces_k02_lots_panes_faces_known.main.body.getD i (.Pass ⟨0, 0, 0, 0⟩)
abbrev s_is_whole : Stmt := topS 4
abbrev N_is_whole : List Str := ["thing"]
theorem sc_is_whole : FnScope N_is_whole ["thing"] (defScope s_is_whole) := ⟨rfl, rfl, rfl, by decide +kernel, rfl, by decide +kernel, by decide +kernel⟩
abbrev s_is_lot_of : Stmt := topS 5
abbrev N_is_lot_of : List Str := ["thing", "many", "least", "one"]
theorem sc_is_lot_of : FnScope N_is_lot_of ["thing", "many"] (defScope s_is_lot_of) := ⟨rfl, rfl, rfl, by decide +kernel, rfl, by decide +kernel, by decide +kernel⟩
abbrev s_odd_blocks : Stmt := topS 6
abbrev N_odd_blocks : List Str := ["many", "lot", "out_ahead", "at", "corner", "k"]
theorem sc_odd_blocks : FnScope N_odd_blocks ["many", "lot"] (defScope s_odd_blocks) := ⟨rfl, rfl, rfl, by decide +kernel, rfl, by decide +kernel, by decide +kernel⟩
abbrev s_has_pane : Stmt := topS 7
abbrev N_has_pane : List Str := ["many", "deep", "lot"]
theorem sc_has_pane : FnScope N_has_pane ["many", "deep", "lot"] (defScope s_has_pane) := ⟨rfl, rfl, rfl, by decide +kernel, rfl, by decide +kernel, by decide +kernel⟩
abbrev s_is_curve : Stmt := topS 11
abbrev N_is_curve : List Str := ["thing", "many", "deep"]
theorem sc_is_curve : FnScope N_is_curve ["thing"] (defScope s_is_curve) := ⟨rfl, rfl, rfl, by decide +kernel, rfl, by decide +kernel, by decide +kernel⟩
abbrev s_need_curve : Stmt := topS 12
abbrev N_need_curve : List Str := ["curve"]
theorem sc_need_curve : FnScope N_need_curve ["curve"] (defScope s_need_curve) := ⟨rfl, rfl, rfl, by decide +kernel, rfl, by decide +kernel, by decide +kernel⟩
abbrev s_is_lot : Stmt := topS 13
abbrev N_is_lot : List Str := ["thing", "curve"]
theorem sc_is_lot : FnScope N_is_lot ["thing", "curve"] (defScope s_is_lot) := ⟨rfl, rfl, rfl, by decide +kernel, rfl, by decide +kernel, by decide +kernel⟩
abbrev s_is_pane : Stmt := topS 14
abbrev N_is_pane : List Str := ["thing", "curve"]
theorem sc_is_pane : FnScope N_is_pane ["thing", "curve"] (defScope s_is_pane) := ⟨rfl, rfl, rfl, by decide +kernel, rfl, by decide +kernel, by decide +kernel⟩
abbrev s_is_face : Stmt := topS 15
abbrev N_is_face : List Str := ["thing", "curve"]
theorem sc_is_face : FnScope N_is_face ["thing", "curve"] (defScope s_is_face) := ⟨rfl, rfl, rfl, by decide +kernel, rfl, by decide +kernel, by decide +kernel⟩
abbrev s__law_box : Stmt := topS 17
abbrev N__law_box : List Str := ["_law_script", "_law_k", "_law_here", "_law_number", "_law_j", "_law_part"]
theorem sc__law_box : FnScope N__law_box ["_law_script", "_law_k"] (defScope s__law_box) := ⟨rfl, rfl, rfl, by decide +kernel, rfl, by decide +kernel, by decide +kernel⟩
abbrev s__law_more : Stmt := topS 18
abbrev N__law_more : List Str := ["_law_box_here", "_law_number", "_law_j"]
theorem sc__law_more : FnScope N__law_more ["_law_box_here"] (defScope s__law_more) := ⟨rfl, rfl, rfl, by decide +kernel, rfl, by decide +kernel, by decide +kernel⟩
abbrev s__law_take : Stmt := topS 19
abbrev N__law_take : List Str := ["_law_box_here", "_law_wide", "_law_rest_of", "_law_digit"]
theorem sc__law_take : FnScope N__law_take ["_law_box_here", "_law_wide"] (defScope s__law_take) := ⟨rfl, rfl, rfl, by decide +kernel, rfl, by decide +kernel, by decide +kernel⟩
abbrev s__law_curve : Stmt := topS 20
abbrev N__law_curve : List Str := ["_law_box_here", "_law_deep"]
theorem sc__law_curve : FnScope N__law_curve ["_law_box_here"] (defScope s__law_curve) := ⟨rfl, rfl, rfl, by decide +kernel, rfl, by decide +kernel, by decide +kernel⟩
abbrev s__law_lots : Stmt := topS 21
abbrev N__law_lots : List Str := ["_law_many", "_law_size", "_law_found", "_law_turn", "_law_longer", "_law_lot_here", "_law_corner"]
theorem sc__law_lots : FnScope N__law_lots ["_law_many", "_law_size"] (defScope s__law_lots) := ⟨rfl, rfl, rfl, by decide +kernel, rfl, by decide +kernel, by decide +kernel⟩
abbrev s__law_is_pane : Stmt := topS 22
abbrev N__law_is_pane : List Str := ["_law_curve_here", "_law_lot_here", "_law_apart", "_law_corner", "_law_place", "_law_one", "_law_other"]
theorem sc__law_is_pane : FnScope N__law_is_pane ["_law_curve_here", "_law_lot_here"] (defScope s__law_is_pane) := ⟨rfl, rfl, rfl, by decide +kernel, rfl, by decide +kernel, by decide +kernel⟩
abbrev s__law_panes : Stmt := topS 23
abbrev N__law_panes : List Str := ["_law_curve_here", "_law_lot_here"]
theorem sc__law_panes : FnScope N__law_panes ["_law_curve_here"] (defScope s__law_panes) := ⟨rfl, rfl, rfl, by decide +kernel, rfl, by decide +kernel, by decide +kernel⟩
abbrev s__law_has : Stmt := topS 24
abbrev N__law_has : List Str := ["_law_pane", "_law_lot_here", "_law_corner"]
theorem sc__law_has : FnScope N__law_has ["_law_pane", "_law_lot_here"] (defScope s__law_has) := ⟨rfl, rfl, rfl, by decide +kernel, rfl, by decide +kernel, by decide +kernel⟩
abbrev s__law_lot : Stmt := topS 25
abbrev N__law_lot : List Str := ["_law_box_here", "_law_many", "_law_share", "_law_corner"]
theorem sc__law_lot : FnScope N__law_lot ["_law_box_here", "_law_many"] (defScope s__law_lot) := ⟨rfl, rfl, rfl, by decide +kernel, rfl, by decide +kernel, by decide +kernel⟩
abbrev s__law_is_lot : Stmt := topS 26
abbrev N__law_is_lot : List Str := ["_law_thing", "_law_many", "_law_one"]
theorem sc__law_is_lot : FnScope N__law_is_lot ["_law_thing", "_law_many"] (defScope s__law_is_lot) := ⟨rfl, rfl, rfl, by decide +kernel, rfl, by decide +kernel, by decide +kernel⟩
abbrev s__law_right : Stmt := topS 27
abbrev N__law_right : List Str := ["_law_thing", "_law_curve_here", "_law_rows", "_law_held", "_law_good", "_law_dues", "_law_pane", "_law_found"]
theorem sc__law_right : FnScope N__law_right ["_law_thing", "_law_curve_here", "_law_rows"] (defScope s__law_right) := ⟨rfl, rfl, rfl, by decide +kernel, rfl, by decide +kernel, by decide +kernel⟩
abbrev s_law : Stmt := topS 28
abbrev N_law : List Str := ["_law_script", "_law_k", "_law_box_here", "_law_kind", "_law_curve_here", "_law_rows", "_law_pane", "_law_lot_here", "_law_some", "_law_thing", "_law_at", "_law_odd"]
theorem sc_law : FnScope N_law ["_law_script"] (defScope s_law) := ⟨rfl, rfl, rfl, by decide +kernel, rfl, by decide +kernel, by decide +kernel⟩
/-- the built-ins that the text uses are the built-ins -/
structure Bt (mg : Str → Option Value) : Prop where
  isinstance_ : mg "isinstance" = none
  int_ : mg "int" = none
  bool_ : mg "bool" = none
  tuple_ : mg "tuple" = none
  len_ : mg "len" = none
  enumerate_ : mg "enumerate" = none
  range_ : mg "range" = none
  abs_ : mg "abs" = none
  divmod_ : mg "divmod" = none
  list_ : mg "list" = none
  sorted_ : mg "sorted" = none
  set_ : mg "set" = none
  repr_ : mg "repr" = none
  max_ : mg "max" = none
  min_ : mg "min" = none
  str_ : mg "str" = none
/-- a def of the text: where it stands, its name, how its arguments bind -/
structure Df (K : PySem.W.Frag) (mg : Str → Option Value) (x : Str) (st : Stmt) (ps : List Str) (f : Addr) (fd : FuncData) : Prop where
  F : Fun K x x st f fd
  g : mg x = some (.ref f)
  b : Binds K fd ps []
structure All (K : PySem.W.Frag) (mg : Str → Option Value) where
  B : Bt mg
  f_is_whole : Addr
  fd_is_whole : FuncData
  D_is_whole : Df K mg "is_whole" s_is_whole ["thing"] f_is_whole fd_is_whole
  f_is_lot_of : Addr
  fd_is_lot_of : FuncData
  D_is_lot_of : Df K mg "is_lot_of" s_is_lot_of ["thing", "many"] f_is_lot_of fd_is_lot_of
  f_odd_blocks : Addr
  fd_odd_blocks : FuncData
  D_odd_blocks : Df K mg "odd_blocks" s_odd_blocks ["many", "lot"] f_odd_blocks fd_odd_blocks
  f_has_pane : Addr
  fd_has_pane : FuncData
  D_has_pane : Df K mg "has_pane" s_has_pane ["many", "deep", "lot"] f_has_pane fd_has_pane
  f_is_curve : Addr
  fd_is_curve : FuncData
  D_is_curve : Df K mg "is_curve" s_is_curve ["thing"] f_is_curve fd_is_curve
  f_need_curve : Addr
  fd_need_curve : FuncData
  D_need_curve : Df K mg "need_curve" s_need_curve ["curve"] f_need_curve fd_need_curve
  f_is_lot : Addr
  fd_is_lot : FuncData
  D_is_lot : Df K mg "is_lot" s_is_lot ["thing", "curve"] f_is_lot fd_is_lot
  f_is_pane : Addr
  fd_is_pane : FuncData
  D_is_pane : Df K mg "is_pane" s_is_pane ["thing", "curve"] f_is_pane fd_is_pane
  f_is_face : Addr
  fd_is_face : FuncData
  D_is_face : Df K mg "is_face" s_is_face ["thing", "curve"] f_is_face fd_is_face
  f__law_box : Addr
  fd__law_box : FuncData
  D__law_box : Df K mg "_law_box" s__law_box ["_law_script", "_law_k"] f__law_box fd__law_box
  f__law_more : Addr
  fd__law_more : FuncData
  D__law_more : Df K mg "_law_more" s__law_more ["_law_box_here"] f__law_more fd__law_more
  f__law_take : Addr
  fd__law_take : FuncData
  D__law_take : Df K mg "_law_take" s__law_take ["_law_box_here", "_law_wide"] f__law_take fd__law_take
  f__law_curve : Addr
  fd__law_curve : FuncData
  D__law_curve : Df K mg "_law_curve" s__law_curve ["_law_box_here"] f__law_curve fd__law_curve
  f__law_lots : Addr
  fd__law_lots : FuncData
  D__law_lots : Df K mg "_law_lots" s__law_lots ["_law_many", "_law_size"] f__law_lots fd__law_lots
  f__law_is_pane : Addr
  fd__law_is_pane : FuncData
  D__law_is_pane : Df K mg "_law_is_pane" s__law_is_pane ["_law_curve_here", "_law_lot_here"] f__law_is_pane fd__law_is_pane
  f__law_panes : Addr
  fd__law_panes : FuncData
  D__law_panes : Df K mg "_law_panes" s__law_panes ["_law_curve_here"] f__law_panes fd__law_panes
  f__law_has : Addr
  fd__law_has : FuncData
  D__law_has : Df K mg "_law_has" s__law_has ["_law_pane", "_law_lot_here"] f__law_has fd__law_has
  f__law_lot : Addr
  fd__law_lot : FuncData
  D__law_lot : Df K mg "_law_lot" s__law_lot ["_law_box_here", "_law_many"] f__law_lot fd__law_lot
  f__law_is_lot : Addr
  fd__law_is_lot : FuncData
  D__law_is_lot : Df K mg "_law_is_lot" s__law_is_lot ["_law_thing", "_law_many"] f__law_is_lot fd__law_is_lot
  f__law_right : Addr
  fd__law_right : FuncData
  D__law_right : Df K mg "_law_right" s__law_right ["_law_thing", "_law_curve_here", "_law_rows"] f__law_right fd__law_right
  t_MOST_DEEP : Tok
  c_MOST_DEEP : mg "MOST_DEEP" = some (.int 6 t_MOST_DEEP)
  t_MOST_CORNERS : Tok
  c_MOST_CORNERS : mg "MOST_CORNERS" = some (.int 9 t_MOST_CORNERS)
section
variable {P : Program} {w : World} {K : PySem.W.Frag} {mg : Str → Option Value} {base : Heap}
/-! ### the law's box -/
def BoxAt (H : Hp) (b : Addr) : Prop := ∃ n d : Int, H b = some (.lst [.int n, .int d])
/-- all that was tracked but b is as it was -/
def Bx (b : Addr) (H H' : Hp) : Prop := ∀ c o, c ≠ b → H c = some o → H' c = some o
theorem Bx.refl (b : Addr) (H : Hp) : Bx b H H := fun _ _ _ h => h
theorem Bx.trans {b : Addr} {H H1 H2 : Hp} (x : Bx b H H1) (y : Bx b H1 H2) : Bx b H H2 := fun c o n h => y c o n (x c o n h)
theorem bx_ex {b : Addr} {H H' : Hp} (e : Ex H H') : Bx b H H' := fun c o _ h => e c o h
theorem bx_set {b : Addr} {H H' : Hp} {o : HO} (e : Bx b H H') : Bx b H (upd H' b o) := fun c u n h => by
  rw [upd_ne n]
  exact e c u n h
theorem bx_tx {b : Addr} {H H' : Hp} {xs : List V} (e : Bx b H H') (h : H b = some (.lst xs)) : Tx H H' := fun a u r => by
  have n : a ≠ b := fun z => by
    subst z
    rcases r with r | ⟨o, r⟩ <;> (rw [h] at r; cases r)
  rcases r with r | ⟨o, r⟩
  · exact .inl (e a _ n r)
  · exact .inr ⟨o, e a _ n r⟩
theorem BoxAt.ex {H H' : Hp} {b : Addr} (e : Ex H H') (h : BoxAt H b) : BoxAt H' b := by
  obtain ⟨n, d, h⟩ := h
  exact ⟨n, d, e b _ h⟩
def spBox (K : PySem.W.Frag) : Sp := fun vs H Q _ => ∃ (a : Addr) (ns : List Int) (k : Int), vs = [.ref a, .int k] ∧ SqL K H a (ns.map V.int) ∧ 0 ≤ k ∧ k < 1000 ∧ ∀ p H2, H p = none → Ex H H2 → BoxAt H2 p → Q (.ref p) H2
theorem emod_in (x : Int) {m : Int} (h : 0 < m) : 0 ≤ x % m ∧ x % m < m := ⟨Int.emod_nonneg _ (by omega), Int.emod_lt_of_pos _ h⟩
theorem cm_r {i j : Int} (h1 : -(2 ^ 64) < j) (h2 : j < 2 ^ 64) : CMul i j := .inr ⟨h1, h2⟩
theorem cm_l {i j : Int} (h1 : -(2 ^ 64) < i) (h2 : i < 2 ^ 64) : CMul i j := .inl ⟨h1, h2⟩
theorem ev_abs {te : TE} {σ : L2.St} {H : Hp} {i : Int} (h : Ev te σ H (.int i)) : Ev (tCB (fun xs H Q => ∃ i, xs = [.int i] ∧ Q (.int (if i < 0 then -i else i)) H) (tCons te tNil)) σ H (.int (if i < 0 then -i else i)) := fun H1 e _ q =>
  h H1 e _ fun H2 e2 => ⟨i, rfl, q H2 e2⟩
theorem okk_box {f : Addr} {fd : FuncData} {k : Nat} (D : Df K mg "_law_box" s__law_box ["_law_script", "_law_k"] f fd) (B : Bt mg) : FnOk P w K mg base CX0 (k + 1) f fd ["_law_script", "_law_k"] (spBox K) := by
  refine D.F.ok sc__law_box (fun vs H Q E h => ?_) (fun cdv A outer s H vs Q E hr h => ?_)
  · obtain ⟨a, ns, k, rfl, _⟩ := h
    rfl
  · obtain ⟨a, ns, j, rfl, hS, k0, k1, q⟩ := h
    refine ⟨_, (pss_cons (ps_set (i := 2) sc__law_box.nd rfl (.inl rfl) (pe_op op_add (pe_op op_mul pe_int (pv 1)) pe_int))  (pss_cut (ps_if (pt_cmpR op_lt (pv 1) (pe_callB (show CallR _ _ (rLenS K) from call_len_seq) (by rfl) B.len_ (by decide +kernel) (pa_cons (pv 0) pa_nil)) (nomark _))   (pss_one (ps_set (i := 2) sc__law_box.nd rfl (.inl rfl) (pe_ix (show IxR _ (rIxL K) from ix_list) (pv 0) (pv 1) (fun _ _ => rfl))))   pss_nil)  (pss_cons (ps_if (pt_cmpR op_eq (pe_op op_mod (pv 2) pe_int) pe_int (nomark _))   (pss_one (ps_ret (pe_lst (pa_cons (pe_op op_fdiv (pv 2) pe_int) (pa_cons (pe_op op_mod (pe_callB call_abs (by rfl) B.abs_ (by decide +kernel) (pa_cons (pv 2) pa_nil)) pe_int) pa_nil)))))   pss_nil)  (pss_cons (ps_set (i := 3) sc__law_box.nd rfl (.inl rfl) pe_int)  (pss_cons (ps_for PassesOwn.never rfl (pi_range1 (by rfl) B.range_ (pa_cons pe_int pa_nil)) (pg_name (i := 4) sc__law_box.nd rfl (.inl rfl))   (pss_cons (ps_set (i := 5) sc__law_box.nd rfl (.inl rfl) (pe_op op_mod (pe_op op_add (pe_op op_add (pe_op op_mul (pe_op op_mod (pv 2) pe_int) pe_int) (pe_op op_mul pe_int (pv 4))) pe_int) pe_int))  (pss_cons (ps_set (i := 5) sc__law_box.nd rfl (.inl rfl) (pe_op op_mod (pe_op op_mul (pv 5) (pv 5)) pe_int))  (pss_one (ps_set (i := 3) sc__law_box.nd rfl (.inl rfl) (pe_op op_add (pe_op op_mul (pv 3) pe_int) (pe_op op_mod (pe_op op_mul (pv 5) (pe_op op_add (pv 5) pe_int)) pe_int)))))))  (pss_one (ps_ret (pe_lst (pa_cons (pv 3) (pa_cons (pe_op op_mod (pe_callB call_abs (by rfl) B.abs_ (by decide +kernel) (pa_cons (pv 2) pa_nil)) pe_int) pa_nil)))))))))), ?_⟩
    refine q_asg (v := .int (7919 * j + 13)) (ev_op (ev_op ev_c (ev_var rfl) (rv_I (cm_l (by decide) (by decide)))) ev_c rv_I0) fun H1 e1 => ?_
    refine q_cut (M := fun σ' H' => ∃ h : Int, σ' = [some (.ref a), some (.int j), some (.int h), none, none, none] ∧ Ex H H') ?_ ?_
    · refine s_when (et_test (ev_op (ev_var rfl) (ev_len (ev_var rfl) (ex_l e1 hS)) rv_I0)) (fun hb H2 e2 => ?_) (fun hb H2 e2 => ⟨_, rfl, e1.trans e2⟩)
      have hlt : j < ((ns.map V.int).length : Int) := of_decide_eq_true hb
      obtain ⟨m, rfl⟩ : ∃ m : Nat, j = (m : Int) := ⟨j.toNat, by omega⟩
      have hm : m < ns.length := by rw [List.length_map] at hlt; omega
      refine s_asg (v := .int ns[m]) (ev_op (ev_var rfl) (ev_var rfl) (rv_ixL (ex_l (e1.trans e2) hS) (atI_nat ?_))) fun H3 e3 => ⟨_, rfl, (e1.trans e2).trans e3⟩
      rw [List.getElem?_map, List.getElem?_eq_getElem hm]
      rfl
    · rintro σ' H2 ⟨x, rfl, e2⟩
      refine q_when (et_test (ev_op (ev_op (ev_var rfl) ev_c (rv_I (by show (0 : Int) < 2; decide))) ev_c (rv_eq rfl))) (fun _ H3 e3 => ?_) (fun _ H3 e3 => ?_)
      · refine s_retL (el_lst (ea_cons (ev_op (ev_var rfl) ev_c (rv_I ⟨by decide, by decide⟩)) (ea_cons (ev_op (ev_abs (ev_var rfl)) ev_c (rv_I (by show (0 : Int) < 2147483647; decide))) ea_nil)) (by show 2 ≤ 100000; decide)) fun p H4 np e4 hp => ?_
        exact q p H4 (fresh_back (e2.trans e3) np) ((e2.trans e3).trans e4) ⟨_, _, hp⟩
      · refine q_asg (v := .int 0) ev_c fun H4 e4 => ?_
        refine q_forR1 (n := 16) (ea_cons ev_c ea_nil) (by decide) (fun _ σ' H' => ∃ (n : Int) (y4 y5 : Option V), σ' = [some (.ref a), some (.int j), some (.int x), some (.int n), y4, y5] ∧ Ex H H')
          (fun H5 e5 => ⟨_, _, _, rfl, ((e2.trans e3).trans e4).trans e5⟩) ?_ ?_
        · rintro i σ' H' _ ⟨n, y4, y5, rfl, e5⟩
          have m1 := emod_in (x % 2147483647 * 48271 + 7919 * (i : Int) + 1) (m := 2147483647) (by decide)
          refine q_asg (v := .int ((x % 2147483647 * 48271 + 7919 * (i : Int) + 1) % 2147483647)) (ev_op (ev_op (ev_op (ev_op (ev_op (ev_var rfl) ev_c (rv_I (by show (0 : Int) < 2147483647; decide))) ev_c (rv_I (cm_r (by decide) (by decide)))) (ev_op ev_c (ev_var rfl) (rv_I (cm_l (by decide) (by decide)))) rv_I0) ev_c rv_I0) ev_c (rv_I (by show (0 : Int) < 2147483647; decide))) fun H6 e6 => ?_
          generalize (x % 2147483647 * 48271 + 7919 * (i : Int) + 1) % 2147483647 = y at m1 ⊢
          have m2 := emod_in (y * y) (m := 2147483629) (by decide)
          refine q_asg (v := .int (y * y % 2147483629)) (ev_op (ev_op (ev_var rfl) (ev_var rfl) (rv_I (cm_l (by omega) (by omega)))) ev_c (rv_I (by show (0 : Int) < 2147483629; decide))) fun H7 e7 => ?_
          generalize y * y % 2147483629 = z at m2 ⊢
          refine s_asg (v := .int (n * 2147483647 + z * (z + 13) % 2147483647)) (ev_op (ev_op (ev_var rfl) ev_c (rv_I (cm_r (by decide) (by decide)))) (ev_op (ev_op (ev_var rfl) (ev_op (ev_var rfl) ev_c rv_I0) (rv_I (cm_l (by omega) (by omega)))) ev_c (rv_I (by show (0 : Int) < 2147483647; decide))) rv_I0) fun H8 e8 => ?_
          exact ⟨_, _, _, rfl, ((e5.trans e6).trans e7).trans e8⟩
        · rintro σ' H' ⟨n, y4, y5, rfl, e5⟩
          refine s_retL (el_lst (ea_cons (ev_var rfl) (ea_cons (ev_op (ev_abs (ev_var rfl)) ev_c (rv_I (by show (0 : Int) < 2147483647; decide))) ea_nil)) (by show 2 ≤ 100000; decide)) fun p H6 np e6 hp => ?_
          exact q p H6 (fresh_back e5 np) (e5.trans e6) ⟨_, _, hp⟩
def spMore : Sp := fun vs H Q _ => ∃ (b : Addr) (n d : Int), vs = [.ref b] ∧ H b = some (.lst [.int n, .int d]) ∧ ∀ m d' H2, H2 b = some (.lst [.int n, .int d']) → Bx b H H2 → Q (.int m) H2
theorem okk_more {f : Addr} {fd : FuncData} {k : Nat} (D : Df K mg "_law_more" s__law_more ["_law_box_here"] f fd) (B : Bt mg) : FnOk P w K mg base CX0 (k + 1) f fd ["_law_box_here"] spMore := by
  refine D.F.ok sc__law_more (fun vs H Q E h => ?_) (fun cdv A outer s H vs Q E hr h => ?_)
  · obtain ⟨b, n, d, rfl, _⟩ := h
    rfl
  · obtain ⟨b, n, d, rfl, hb, q⟩ := h
    refine ⟨_, (pss_cons (ps_set (i := 1) sc__law_more.nd rfl (.inl rfl) pe_int)  (pss_cons (ps_for PassesOwn.never rfl (pi_range1 (by rfl) B.range_ (pa_cons pe_int pa_nil)) (pg_name (i := 2) sc__law_more.nd rfl (.inl rfl))   (pss_cons (ps_asg (pe_op op_mod (pe_op op_add (pe_op op_mul (pe_ix (show IxR _ (rIxL K) from ix_list) (pv 0) pe_int (fun _ _ => rfl)) pe_int) pe_int) pe_int) (pg_sub (pv 0) pe_int set_list))  (pss_one (ps_set (i := 1) sc__law_more.nd rfl (.inl rfl) (pe_op op_add (pe_op op_mul (pv 1) pe_int) (pe_op op_mod (pe_op op_fdiv (pe_ix (show IxR _ (rIxL K) from ix_list) (pv 0) pe_int (fun _ _ => rfl)) pe_int) pe_int))))))  (pss_one (ps_ret (pv 1))))), ?_⟩
    refine q_asg (v := .int 0) ev_c fun H1 e1 => ?_
    refine q_forR1 (n := 12) (ea_cons ev_c ea_nil) (by decide) (fun _ σ' H' => ∃ (m d' : Int) (y : Option V), σ' = [some (.ref b), some (.int m), y] ∧ H' b = some (.lst [.int n, .int d']) ∧ Bx b H H')
      (fun H2 e2 => ⟨_, _, _, rfl, e2 b _ (e1 b _ hb), bx_ex (e1.trans e2)⟩) ?_ ?_
    · rintro i σ' H' _ ⟨m, d', y, rfl, hb', x'⟩
      refine q_setL (j := 1) hb' (v := .int ((d' * 48271 + 30269) % 2147483647)) (ev_op (ev_op (ev_op (ev_op (ev_var rfl) ev_c (rv_ixL (v := .int d') (sq_of hb') rfl)) ev_c (rv_I (cm_r (by decide) (by decide)))) ev_c rv_I0) ev_c (rv_I (by show (0 : Int) < 2147483647; decide))) (ev_var rfl) ev_c (by show 1 < 2; decide) fun H2 e2 => ?_
      generalize (d' * 48271 + 30269) % 2147483647 = z
      have hb2 : upd H2 b (.lst ([V.int n, V.int d'].set 1 (.int z))) b = some (.lst [.int n, .int z]) := upd_same
      refine s_asg (v := .int (m * 65521 + z / 7 % 65521)) (ev_op (ev_op (ev_var rfl) ev_c (rv_I (cm_r (by decide) (by decide)))) (ev_op (ev_op (ev_op (ev_var rfl) ev_c (rv_ixL (v := .int z) (sq_of hb2) rfl)) ev_c (rv_I ⟨by decide, by decide⟩)) ev_c (rv_I (by show (0 : Int) < 65521; decide))) rv_I0) fun H3 e3 => ?_
      exact ⟨_, _, _, rfl, e3 b _ hb2, (bx_set (x'.trans (bx_ex e2))).trans (bx_ex e3)⟩
    · rintro σ' H' ⟨m, d', y, rfl, hb', x'⟩
      exact s_ret (ev_var rfl) fun H2 e2 => q m d' H2 (e2 b _ hb') (x'.trans (bx_ex e2))
def spTake : Sp := fun vs H Q _ => ∃ (b : Addr) (wd : Int), vs = [.ref b, .int wd] ∧ BoxAt H b ∧ 0 < wd ∧ wd < 1073741824 ∧ ∀ r H2, 0 ≤ r → r < wd → BoxAt H2 b → Bx b H H2 → Q (.int r) H2
theorem okk_take {f fm : Addr} {fd fdm : FuncData} {k : Nat} (D : Df K mg "_law_take" s__law_take ["_law_box_here", "_law_wide"] f fd) (D__law_more : Df K mg "_law_more" s__law_more ["_law_box_here"] fm fdm) (B : Bt mg) : FnOk P w K mg base CX0 (k + 2) f fd ["_law_box_here", "_law_wide"] spTake := by
  have G__law_more : FnOk P w K mg base CX0 (k + 1) fm fdm ["_law_box_here"] spMore := okk_more D__law_more B
  refine D.F.ok sc__law_take (fun vs H Q E h => ?_) (fun cdv A outer s H vs Q E hr h => ?_)
  · obtain ⟨b, n, rfl, _⟩ := h
    rfl
  · obtain ⟨b, wd, rfl, ⟨n, d, hb⟩, w0, w1, q⟩ := h
    refine ⟨_, (pss_cut (ps_if (pt_chain op_le op_lt pe_int (pe_ix (show IxR _ (rIxL K) from ix_list) (pv 0) pe_int (fun _ _ => rfl)) (pv 1))   (pss_one (ps_asg (pe_op op_add (pe_ix (show IxR _ (rIxL K) from ix_list) (pv 0) pe_int (fun _ _ => rfl)) (pe_op op_mul (pv 1) (pe_call G__law_more (hr.mono (by omega)) (by rfl) D__law_more.g D__law_more.F.kp D__law_more.b .nil pass0 (pa_cons (pv 0) pa_nil)))) (pg_sub (pv 0) pe_int set_list)))   pss_nil)  (pss_cons (ps_asg (pe_callB call_divmod (by rfl) B.divmod_ (by decide +kernel) (pa_cons (pe_ix (show IxR _ (rIxL K) from ix_list) (pv 0) pe_int (fun _ _ => rfl)) (pa_cons (pv 1) pa_nil))) (pg_tup (by rfl) (pgs_cons (pg_name (i := 2) sc__law_take.nd rfl (.inl rfl)) (pgs_cons (pg_name (i := 3) sc__law_take.nd rfl (.inl rfl)) pgs_nil))))  (pss_cons (ps_asg (pv 2) (pg_sub (pv 0) pe_int set_list))  (pss_one (ps_ret (pv 3)))))), ?_⟩
    refine q_cut (M := fun σ' H' => σ' = [some (.ref b), some (.int wd), none, none] ∧ (∃ n d : Int, H' b = some (.lst [.int n, .int d])) ∧ Bx b H H') ?_ ?_
    · refine s_when (et_test (ev_chain ev_c (ev_op (ev_var rfl) ev_c (rv_ixL (v := .int n) (sq_of hb) rfl)) (ev_var rfl) rv_I0 rv_I0)) (fun _ H1 e1 => ?_) (fun _ H1 e1 => ⟨rfl, ⟨_, _, e1 b _ hb⟩, bx_ex e1⟩)
      · have hb1 := e1 b _ hb
        refine ⟨_, rfl, b, _, 0, .int n, rfl, rfl, sq_of hb1, rfl, _, rfl, _, rfl, b, n, d, rfl, hb1, fun m d' H2 hb2 x2 => ?_⟩
        refine ⟨wd, m, rfl, rfl, cm_l (by omega) (by omega), n, wd * m, rfl, rfl, _, rfl, b, _, 0, 0, rfl, rfl, hb2, rfl, ?_⟩
        exact ⟨rfl, ⟨_, _, upd_same⟩, bx_set ((bx_ex e1).trans x2)⟩
    · rintro σ' H' ⟨rfl, ⟨n, d, hb'⟩, x'⟩
      refine ⟨_, rfl, b, _, 0, .int n, rfl, rfl, sq_of hb', rfl, _, rfl, n, wd, rfl, ⟨w0, w1⟩, fun p hp => ?_⟩
      have nb : b ≠ p := ne_of_none hb' hp
      refine ⟨p, _, rfl, st_of upd_same, rfl, _, _, rfl, _, _, rfl, rfl, ?_⟩
      refine ⟨_, rfl, _, rfl, b, _, 0, 0, rfl, rfl, (by rw [upd_ne nb]; exact hb'), rfl, ?_⟩
      refine ⟨_, rfl, ?_⟩
      have m1 := emod_in n w0
      exact q _ _ m1.1 m1.2 ⟨_, _, upd_same⟩ (bx_set (x'.trans (bx_ex (Ex.new hp))))
end
/-! ### what changes the box alone -/
structure Bk (b : Addr) (H H' : Hp) : Prop where
  bx : Bx b H H'
  tx : Tx H H'
theorem Bk.trans {b : Addr} {H H1 H2 : Hp} (x : Bk b H H1) (y : Bk b H1 H2) : Bk b H H2 := ⟨x.bx.trans y.bx, x.tx.trans y.tx⟩
theorem bk_ex {b : Addr} {H H' : Hp} (e : Ex H H') : Bk b H H' := ⟨bx_ex e, tx_of e⟩
theorem Bk.refl (b : Addr) (H : Hp) : Bk b H H := bk_ex (Ex.refl H)
theorem bk_of {b : Addr} {H H' : Hp} (h : BoxAt H b) (x : Bx b H H') : Bk b H H' := by
  obtain ⟨_, _, h⟩ := h
  exact ⟨x, bx_tx x h⟩
theorem ex_bx {b : Addr} {Hs H H' : Hp} (e : Ex Hs H) (x : Bk b H H') (n : Hs b = none) : Ex Hs H' := fun c o h => x.bx c o (ne_of_none h n) (e c o h)
theorem box_ne {H : Hp} {p b : Addr} (hb : BoxAt H b) (n : H p = none) : p ≠ b := by
  obtain ⟨_, _, hb⟩ := hb
  exact ne_free hb n
def EvK (K : PySem.W.Frag) (b : Addr) (te : TE) (σ : L2.St) (H : Hp) (p : PyData → Prop) : Prop := ∀ Q : VK, (∀ v d H2, p d → Dt K H2 v d → BoxAt H2 b → Bk b H H2 → Q v H2) → te σ H Q
section
variable {K : PySem.W.Frag} {b : Addr} {σ : L2.St} {H H' : Hp} {ta tb te tl : TE} {p p' : PyData → Prop} {d : PyData} {ds : List PyData} {D : Ends} {tz tu : TS} {i : Nat}
theorem ek_of (h : EvD K te σ H d) (hb : BoxAt H b) : EvK K b te σ H (fun e => e = d) := fun Q q => h H (Ex.refl H) Q fun v H2 e2 hv => q v d H2 rfl hv (hb.ex e2) (bk_ex e2)
theorem ek_mono (h : EvK K b te σ H p) (hp : ∀ d, p d → p' d) : EvK K b te σ H p' := fun Q q => h Q fun v d H2 h1 => q v d H2 (hp d h1)
theorem ek_take {j : Nat} {wd : Int} {E : XK} (hj : σ[j]? = some (some (.ref b))) (hb : BoxAt H b) (hw : Ev ta σ H (.int wd)) (w0 : 0 < wd) (w1 : wd < 1073741824) : EvK K b (tCall spTake [] E (tCons (tVar j) (tCons ta tNil))) σ H (fun d => ∃ r, d = .int r ∧ 0 ≤ r ∧ r < wd) := fun Q q =>
  ⟨_, hj, hw H (Ex.refl H) _ fun H2 e2 => ⟨b, wd, rfl, hb.ex e2, w0, w1, fun r H3 r0 r1 hb3 x3 => q _ (.int r) H3 ⟨r, rfl, r0, r1⟩ (.int r) hb3 ((bk_ex e2).trans (bk_of (hb.ex e2) x3))⟩⟩
/-- [..][take] -/
theorem ek_menu (hl : EvF K tl σ H ds) (hb : BoxAt H b) (hi : ∀ H', Ex H H' → BoxAt H' b → EvK K b ta σ H' (fun d => ∃ r : Int, d = .int r ∧ 0 ≤ r ∧ r < (ds.length : Int))) : EvK K b (tOp (rIxL K) tl ta) σ H (fun d => d ∈ ds) := fun Q q =>
  hl H (Ex.refl H) _ fun p xs H1 np e1 hp hx => hi H1 e1 (hb.ex e1) _ fun v d H2 hr hv hb2 x2 => by
    obtain ⟨r, rfl, r0, r1⟩ := hr
    cases hv
    obtain ⟨m, rfl⟩ : ∃ m : Nat, r = (m : Int) := ⟨r.toNat, by omega⟩
    have hm : m < ds.length := by omega
    obtain ⟨w, hw, hd⟩ := dta_get' (dta_tx x2.tx hx) (List.getElem?_eq_getElem hm)
    exact ⟨p, xs, (m : Int), w, rfl, rfl, sq_of (x2.bx p _ (box_ne hb np) hp), atI_nat hw, q w _ H2 (List.getElem_mem hm) hd hb2 ((bk_ex e1).trans x2)⟩
/-- i op take -/
theorem ek_opI {f : Int → Int → Int} {x : Int} {pr : Int → Prop} (ha : Ev ta σ H (.int x)) (hb : ∀ H', Ex H H' → EvK K b tb σ H' (fun d => ∃ r, d = .int r ∧ pr r)) : EvK K b (tOp (rI0 fun i j => .int (f i j)) ta tb) σ H (fun d => ∃ r, d = .int (f x r) ∧ pr r) := fun Q q =>
  ha H (Ex.refl H) _ fun H2 e2 => hb H2 e2 _ fun v d H3 hr hv hb3 x3 => by
    obtain ⟨r, rfl, hr⟩ := hr
    cases hv
    exact ⟨x, r, rfl, rfl, q _ _ H3 ⟨r, rfl, hr⟩ (.int _) hb3 ((bk_ex e2).trans x3)⟩
theorem q_asgK (h : EvK K b te σ H p) (k : ∀ v d H2, p d → Dt K H2 v d → BoxAt H2 b → Bk b H H2 → tz D (σ.set i (some v)) H2) : tSeq (tAsg te (gName i)) tz D σ H := h _ k
theorem s_asgK (h : EvK K b te σ H p) (k : ∀ v d H2, p d → Dt K H2 v d → BoxAt H2 b → Bk b H H2 → D.nx (σ.set i (some v)) H2) : tAsg te (gName i) D σ H := h _ k
/-- a box made -/
theorem q_box {a : Addr} {ns : List Int} {x : Int} {E : XK} (ha : Ev ta σ H (.ref a)) (hS : SqL K H a (ns.map V.int)) (hk : Ev tb σ H (.int x)) (x0 : 0 ≤ x) (x1 : x < 1000) (h : ∀ p H2, H p = none → Ex H H2 → BoxAt H2 p → tz D (σ.set i (some (.ref p))) H2) : tSeq (tAsg (tCall (spBox K) [] E (tCons ta (tCons tb tNil))) (gName i)) tz D σ H :=
  ha H (Ex.refl H) _ fun H1 e1 => hk H1 e1 _ fun H2 e2 => ⟨a, ns, x, rfl, ex_l (e1.trans e2) hS, x0, x1, fun p H3 np e3 hb => h p H3 (fresh_back (e1.trans e2) np) ((e1.trans e2).trans e3) hb⟩
/-! loops over a list made on the way -/
/-- nothing changes but new things -/
theorem s_forF {g : TG} (h : EvF K tl σ H ds) (Pv : Nat → L2.St → Hp → Prop) (h0 : ∀ H1, Ex H H1 → Pv 0 σ H1)
    (hs : ∀ H1 i x d σ' H', Ex H H1 → Ex H1 H' → ds[i]? = some d → Dt K H' x d → Pv i σ' H' → g x σ' H' fun σ2 H2 => tu { D with nx := fun σ3 H3 => Ex H1 H3 ∧ Pv (i + 1) σ3 H3, ct := fun σ3 H3 => Ex H1 H3 ∧ Pv (i + 1) σ3 H3, bk := D.nx } σ2 H2)
    (hd : ∀ σ' H', Ex H H' → Pv ds.length σ' H' → D.nx σ' H') : tFor (iList K tl) g tu D σ H :=
  h H (Ex.refl H) _ fun p xs H1 np e1 hp hx => ⟨p, rfl, ⟨xs, sq_of hp⟩, for_list (xs := xs) (fun i σ' H' => Ex H1 H' ∧ Pv i σ' H') ⟨Ex.refl _, h0 H1 e1⟩ (fun i σ' H' _ hw => sq_of (hw.1 p _ hp)) (fun i x σ' H' hi hw => by
      obtain ⟨d, h1, h2⟩ := dta_get (dta_ex hw.1 hx) hi
      exact hs H1 i x d σ' H' e1 hw.1 h1 h2 hw.2) (fun σ' H' hw => hd σ' H' (e1.trans hw.1) (by rw [← dta_len hx]; exact hw.2))⟩
theorem q_forF {g : TG} (h : EvF K tl σ H ds) (Pv : Nat → L2.St → Hp → Prop) (h0 : ∀ H1, Ex H H1 → Pv 0 σ H1)
    (hs : ∀ H1 i x d σ' H', Ex H H1 → Ex H1 H' → ds[i]? = some d → Dt K H' x d → Pv i σ' H' → g x σ' H' fun σ2 H2 => tu { D with nx := fun σ3 H3 => Ex H1 H3 ∧ Pv (i + 1) σ3 H3, ct := fun σ3 H3 => Ex H1 H3 ∧ Pv (i + 1) σ3 H3, bk := tz D } σ2 H2)
    (hd : ∀ σ' H', Ex H H' → Pv ds.length σ' H' → tz D σ' H') : tSeq (tFor (iList K tl) g tu) tz D σ H := s_forF (D := { D with nx := tz D }) h Pv h0 hs hd
/-- the box changes, too -/
theorem s_forFB {g : TG} (h : EvF K tl σ H ds) (hb : BoxAt H b) (Pv : Nat → L2.St → Hp → Prop) (h0 : ∀ H1, Ex H H1 → Pv 0 σ H1)
    (hs : ∀ H1 i x d σ' H', Ex H H1 → Bk b H1 H' → BoxAt H' b → ds[i]? = some d → Dt K H' x d → Pv i σ' H' → g x σ' H' fun σ2 H2 => tu { D with nx := fun σ3 H3 => Bk b H1 H3 ∧ BoxAt H3 b ∧ Pv (i + 1) σ3 H3, ct := fun σ3 H3 => Bk b H1 H3 ∧ BoxAt H3 b ∧ Pv (i + 1) σ3 H3, bk := D.nx } σ2 H2)
    (hd : ∀ σ' H', Bk b H H' → BoxAt H' b → Pv ds.length σ' H' → D.nx σ' H') : tFor (iList K tl) g tu D σ H :=
  h H (Ex.refl H) _ fun p xs H1 np e1 hp hx => ⟨p, rfl, ⟨xs, sq_of hp⟩, for_list (xs := xs) (fun i σ' H' => Bk b H1 H' ∧ BoxAt H' b ∧ Pv i σ' H') ⟨Bk.refl _ _, hb.ex e1, h0 H1 e1⟩ (fun i σ' H' _ hw => sq_of (hw.1.bx p _ (box_ne hb np) hp)) (fun i x σ' H' hi hw => by
      obtain ⟨d, h1, h2⟩ := dta_get (dta_tx hw.1.tx hx) hi
      exact hs H1 i x d σ' H' e1 hw.1 hw.2.1 h1 h2 hw.2.2) (fun σ' H' hw => hd σ' H' ((bk_ex e1).trans hw.1) hw.2.1 (by rw [← dta_len hx]; exact hw.2.2))⟩
theorem q_forFB {g : TG} (h : EvF K tl σ H ds) (hb : BoxAt H b) (Pv : Nat → L2.St → Hp → Prop) (h0 : ∀ H1, Ex H H1 → Pv 0 σ H1)
    (hs : ∀ H1 i x d σ' H', Ex H H1 → Bk b H1 H' → BoxAt H' b → ds[i]? = some d → Dt K H' x d → Pv i σ' H' → g x σ' H' fun σ2 H2 => tu { D with nx := fun σ3 H3 => Bk b H1 H3 ∧ BoxAt H3 b ∧ Pv (i + 1) σ3 H3, ct := fun σ3 H3 => Bk b H1 H3 ∧ BoxAt H3 b ∧ Pv (i + 1) σ3 H3, bk := tz D } σ2 H2)
    (hd : ∀ σ' H', Bk b H H' → BoxAt H' b → Pv ds.length σ' H' → tz D σ' H') : tSeq (tFor (iList K tl) g tu) tz D σ H := s_forFB (D := { D with nx := tz D }) h hb Pv h0 hs hd
/-- how many cells are read -/
theorem ev_cells {a : Addr} {ns : List Int} {c : Int} (h : Ev ta σ H (.ref a)) (hS : SqL K H a (ns.map V.int)) (c0 : 1 ≤ c) : ∃ n : Int, 1 ≤ n ∧ n ≤ c ∧ Ev (tCB rMax2 (tCons (tC (.int 1)) (tCons (tCB (fun xs H Q => ∃ i j, xs = [.int i, .int j] ∧ Q (.int (if j < i then j else i)) H) (tCons (tCB (rLenS K) (tCons ta tNil)) (tCons (tC (.int c)) tNil))) tNil))) σ H (.int n) := by
  refine ⟨_, ?_, ?_, ev_max2 ev_c (ev_min2 (ev_len h hS) ev_c)⟩
  · split <;> split <;> omega
  · split <;> split <;> omega
end
def spLaw (K : PySem.W.Frag) : Sp := fun vs H Q _ => ∃ (a : Addr) (ns : List Int), vs = [.ref a] ∧ SqL K H a (ns.map V.int) ∧ ns.length ≤ 63 ∧ ∀ H', Q (.bl true) H'
def curveD (m d : Int) : PyData := .tuple [.int m, .int d]
def unint : PyData → Int
  | .int i => i
  | _ => 0
def unlot : PyData → List Int
  | .tuple ds => ds.map unint
  | _ => []
theorem unlot_lot (l : List Int) : unlot (lotD l) = l := by
  show (l.map PyData.int).map unint = l
  rw [List.map_map]
  exact List.map_id' l
theorem dec_int (a b : Int) : decide (V.int a = V.int b) = decide (a = b) := by
  by_cases h : a = b
  · subst h
    simp
  · rw [decide_eq_false h, decide_eq_false (fun z => h (V.int.inj z))]
theorem cut_take (xs : List V) (i : Nat) (hi : i ≤ xs.length) : cutV xs none (some (i : Int)) = xs.take i := by
  unfold cutV
  rw [HT.sIx_none, show HT.sIx xs.length xs.length (some (i : Int)) = min i xs.length from HT.sIx_nat xs.length xs.length i, Nat.min_eq_left hi]
  rfl
theorem filt_len {l : List Int} {f : PyData → Bool} {g : Int → Bool} {h : PyData → PyData} (e : ∀ c, f (.int c) = g c) : (((l.map PyData.int).filter f).map h).length = (l.filter g).length := by
  rw [List.length_map, List.filter_map, List.length_map]
  have : (f ∘ PyData.int) = g := funext e
  rw [this]
theorem mem_ints {l : List Int} {d : PyData} (h : d ∈ l.map PyData.int) : ∃ c, c ∈ l ∧ d = .int c := by
  obtain ⟨c, h1, h2⟩ := List.mem_map.mp h
  exact ⟨c, h1, h2.symm⟩
theorem mem_lots {ls : List (List Int)} {d : PyData} (h : d ∈ ls.map lotD) : ∃ l, l ∈ ls ∧ d = lotD l := by
  obtain ⟨c, h1, h2⟩ := List.mem_map.mp h
  exact ⟨c, h1, h2.symm⟩
theorem filt_lots {ls : List (List Int)} {f : PyData → Bool} {g : List Int → Bool} (e : ∀ l, f (lotD l) = g l) : ((ls.map lotD).filter f).map (fun d => d) = (ls.filter g).map lotD := by
  rw [List.map_id', List.filter_map]
  have : (f ∘ lotD) = g := funext e
  rw [this]
theorem filt_ints {ls : List Int} {f : PyData → Bool} {g : Int → Bool} (e : ∀ l, f (.int l) = g l) : ((ls.map PyData.int).filter f).map (fun d => d) = (ls.filter g).map PyData.int := by
  rw [List.map_id', List.filter_map]
  have : (f ∘ PyData.int) = g := funext e
  rw [this]
/-! ### all lots of so many corners, and panes, as the law tells them -/
def lotsL (m : Int) : Nat → List (List Int)
  | 0 => [[]]
  | s + 1 => (lotsL m s).flatMap fun l => (upTo (l.getLast?.getD (-1) + 1) m).map fun c => l ++ [c]
def lotsGood : Bool := (List.range 10).all fun m => (List.range 10).all fun s => decide ((lotsL (m : Int) s).length ≤ 200) && (lotsL (m : Int) s).all fun l => l.all fun x => decide (0 ≤ x) && decide (x < 10)
theorem lots_good : lotsGood = true := by decide +kernel
theorem lots_len {m : Int} {s : Nat} (h0 : 0 ≤ m) (h1 : m < 10) (h2 : s < 10) : (lotsL m s).length ≤ 200 := by
  have h := lots_good
  unfold lotsGood at h
  rw [List.all_eq_true] at h
  have h := h m.toNat (List.mem_range.mpr (by omega))
  rw [List.all_eq_true] at h
  have h := h s (List.mem_range.mpr h2)
  rw [Bool.and_eq_true, Int.toNat_of_nonneg h0] at h
  exact of_decide_eq_true h.1
theorem lots_in {m : Int} {s : Nat} (h0 : 0 ≤ m) (h1 : m < 10) (h2 : s < 10) {l : List Int} (hl : l ∈ lotsL m s) {x : Int} (hx : x ∈ l) : 0 ≤ x ∧ x < 10 := by
  have h := lots_good
  unfold lotsGood at h
  rw [List.all_eq_true] at h
  have h := h m.toNat (List.mem_range.mpr (by omega))
  rw [List.all_eq_true] at h
  have h := h s (List.mem_range.mpr h2)
  rw [Bool.and_eq_true, Int.toNat_of_nonneg h0] at h
  have h := h.2
  rw [List.all_eq_true] at h
  have h := h l hl
  rw [List.all_eq_true] at h
  have h := h x hx
  rw [Bool.and_eq_true] at h
  exact ⟨of_decide_eq_true h.1, of_decide_eq_true h.2⟩
theorem flat_take {α β : Type} (f : α → List β) (l : List α) (i : Nat) : ((l.take i).flatMap f).length ≤ (l.flatMap f).length := by
  have e : l.flatMap f = (l.take i).flatMap f ++ (l.drop i).flatMap f := by
    rw [← List.flatMap_append, List.take_append_drop]
  rw [e, List.length_append]
  omega
theorem flat_succ {α β : Type} {f : α → List β} {l : List α} {i : Nat} {a : α} (h : l[i]? = some a) : (l.take (i + 1)).flatMap f = (l.take i).flatMap f ++ f a := by
  rw [List.take_add_one, h, List.flatMap_append]
  simp
section
variable {P : Program} {w : World} {K : PySem.W.Frag} {mg : Str → Option Value} {base : Heap}
def spLots (K : PySem.W.Frag) : Sp := fun vs H Q _ => ∃ (m s : Int), vs = [.int m, .int s] ∧ 0 ≤ m ∧ m < 10 ∧ 0 ≤ s ∧ s < 10 ∧ ∀ p xs H2, H p = none → Ex H H2 → H2 p = some (.lst xs) → DtAll K H2 xs ((lotsL m s.toNat).map lotD) → Q (.ref p) H2
def nextL (m : Int) (l : List Int) : List (List Int) := (upTo (l.getLast?.getD (-1) + 1) m).map fun c => l ++ [c]
theorem okk_lots {f : Addr} {fd : FuncData} {k : Nat} (D : Df K mg "_law_lots" s__law_lots ["_law_many", "_law_size"] f fd) (B : Bt mg) : FnOk P w K mg base CX0 (k + 1) f fd ["_law_many", "_law_size"] (spLots K) := by
  refine D.F.ok sc__law_lots (fun vs H Q E h => ?_) (fun cdv A outer s H vs Q E hr h => ?_)
  · obtain ⟨m, s, rfl, _⟩ := h
    rfl
  · obtain ⟨m, z, rfl, m0, m1, z0, z1, q⟩ := h
    refine ⟨_, (pss_cons (ps_set (i := 2) sc__law_lots.nd rfl (.inl rfl) (pe_lst (pa_cons (pe_tup pa_nil) pa_nil)))  (pss_cons (ps_for PassesOwn.never rfl (pi_range1 (by rfl) B.range_ (pa_cons (pv 1) pa_nil)) (pg_name (i := 3) sc__law_lots.nd rfl (.inl rfl))   (pss_cons (ps_set (i := 4) sc__law_lots.nd rfl (.inl rfl) (pe_lst pa_nil))  (pss_cons (ps_for PassesOwn.never rfl (pi_list (pv 2)) (pg_name (i := 5) sc__law_lots.nd rfl (.inr rfl))   (pss_one (ps_set (i := 4) sc__law_lots.nd rfl (.inl rfl) (pe_op op_cat (pv 4) (pe_lc (own := [("_law_corner", 6)]) rfl sc__law_lots.nd (pi_range2 (by rfl) B.range_ (pa_cons (pe_op op_add (pe_ix (show IxR _ (rIxT K) from ix_tup) (pe_orT (pv 5) (pe_one (pe_tup (pa_cons (pe_un un_neg pe_int) pa_nil)))) (pe_un un_neg pe_int) (fun _ _ => rfl)) pe_int) (pa_cons (pv 0) pa_nil))) (blkOk_by (own := [("_law_corner", 6)]) (N := N__law_lots) (sc := defScope s__law_lots) (by decide +kernel)) (fun _ _ _ _ _ => (pg_name (i := 6) sc__law_lots.nd rfl (.inl rfl))) (fun _ _ _ _ _ => pts_nil) (fun _ _ _ _ _ => (pe_op (show OpR _ _ (rCatA K) from op_catA) (pv 5) (pe_tup (pa_cons (pv 6) pa_nil)))))))))  (pss_one (ps_set (i := 2) sc__law_lots.nd rfl (.inl rfl) (pv 4))))))  (pss_one (ps_ret (pv 2))))), ?_⟩
    refine q_asgF (ef_lst (K := K) (ds := [lotD []]) (eb_cons (ed_tup eb_nil (by decide)) eb_nil) (by decide)) fun p xs H1 np e1 hp hx => ?_
    refine q_forR1 (n := z) (ea_cons (ev_var rfl) ea_nil) ⟨z0, by omega⟩ (fun i σ' H' => ∃ (p : Addr) (xs : List V) (y3 y4 y5 y6 : Option V), σ' = [some (.int m), some (.int z), some (.ref p), y3, y4, y5, y6] ∧ H p = none ∧ Ex H H' ∧ H' p = some (.lst xs) ∧ DtAll K H' xs ((lotsL m i).map lotD))
      (fun H2 e2 => ⟨p, xs, _, _, _, _, rfl, np, e1.trans e2, e2 p _ hp, dta_ex e2 hx⟩) ?_ ?_
    · rintro i σ' H' hi ⟨p, xs, y3, y4, y5, y6, rfl, np, e', hp, hx⟩
      have hlen : (lotsL m (i + 1)).length ≤ 200 := lots_len m0 m1 (by omega)
      refine q_asgF (ef_lst (K := K) (ds := []) eb_nil (by decide)) fun r zs H2 nr e2 hr' hz => ?_
      cases hz
      refine q_forLn (ev_var rfl) (sq_of (e2 p _ hp)) (fun j σ' H' => ∃ (r : Addr) (zs : List V) (y5 y6 : Option V), σ' = [some (.int m), some (.int z), some (.ref p), some (.int (i : Int)), some (.ref r), y5, y6] ∧ H r = none ∧ Ex H2 H' ∧ H' r = some (.lst zs) ∧ DtAll K H' zs ((((lotsL m i).take j).flatMap (nextL m)).map lotD))
        (fun H3 e3 => ⟨r, [], _, _, rfl, fresh_back e' nr, e3, e3 r _ hr', .nil⟩) (fun j σ' H' _ hw => ?_) ?_ ?_
      · obtain ⟨r, zs, y5, y6, rfl, nr, e3, _⟩ := hw
        exact sq_of (e3 p _ (e2 p _ hp))
      · rintro j x σ' H3 hj ⟨r, zs, y5, y6, rfl, nr, e3, hr3, hz3⟩
        obtain ⟨d, hd1, hd2⟩ := dta_get (dta_ex (e2.trans e3) hx) hj
        rw [List.getElem?_map] at hd1
        cases hl : (lotsL m i)[j]? with
        | none => rw [hl] at hd1; cases hd1
        | some l =>
          rw [hl] at hd1
          have ed : lotD l = d := Option.some.inj hd1
          subst ed
          have hmem : l ∈ lotsL m i := List.mem_of_getElem? hl
          have hlast : -1 ≤ l.getLast?.getD (-1) ∧ l.getLast?.getD (-1) < 10 := by
            cases l with
            | nil => exact ⟨by decide, by decide⟩
            | cons a t =>
              rw [List.getLast?_eq_some_getLast (List.cons_ne_nil a t)]
              have := lots_in m0 m1 (by omega) hmem (List.getLast_mem (List.cons_ne_nil a t))
              exact ⟨by show (-1 : Int) ≤ (a :: t).getLast _; omega, this.2⟩
          have hll : l.length ≤ 1000 := by
            have : ∀ (s : Nat) (l : List Int), l ∈ lotsL m s → l.length = s := by
              intro s
              induction s with
              | zero => intro l h; simp [lotsL] at h; rw [h]; rfl
              | succ s ih =>
                intro l h
                simp only [lotsL, List.mem_flatMap, List.mem_map] at h
                obtain ⟨a, ha, c, _, rfl⟩ := h
                rw [List.length_append, ih a ha]; rfl
            rw [this i l hmem]
            omega
          have hext : (((lotsL m i).take (j + 1)).flatMap (nextL m)) = ((lotsL m i).take j).flatMap (nextL m) ++ nextL m l := flat_succ hl
          have hbig : (((lotsL m i).take (j + 1)).flatMap (nextL m)).length ≤ 200 := Nat.le_trans (flat_take _ _ _) hlen
          have hbase : EvD K (tOrT K (tVar 5) (tTup (tCons (tUn (rU fun i => .int (-i)) (tC (.int 1))) tNil))) [some (.int m), some (.int z), some (.ref p), some (.int (i : Int)), some (.ref r), some x, y6] H3 (if l = [] then .tuple [.int (-1)] else lotD l) := by
            refine ed_orT (ds := l.map PyData.int) (ed_var rfl hd2) (fun he => ?_) (fun hne => ?_)
            · have : l = [] := List.map_eq_nil_iff.mp he
              rw [if_pos this]
              exact ed_tup (eb_cons (ed_int (ev_un ev_c ru_neg)) eb_nil) (by decide)
            · have : l ≠ [] := fun z => hne (by rw [z]; rfl)
              rw [if_neg this]
              rfl
          have hix : Ev (tOp (rIxT K) (tOrT K (tVar 5) (tTup (tCons (tUn (rU fun i => .int (-i)) (tC (.int 1))) tNil))) (tUn (rU fun i => .int (-i)) (tC (.int 1)))) [some (.int m), some (.int z), some (.ref p), some (.int (i : Int)), some (.ref r), some x, y6] H3 (.int (l.getLast?.getD (-1))) := by
            refine ev_int (K := K) ?_
            cases l with
            | nil => exact ed_ixT (ds := [.int (-1)]) hbase (ev_un ev_c ru_neg) rfl
            | cons a t =>
              rw [if_neg (List.cons_ne_nil a t)] at hbase
              refine ed_ixT (ds := (a :: t).map PyData.int) hbase (ev_un ev_c ru_neg) ?_
              rw [List.getLast?_eq_some_getLast (List.cons_ne_nil a t)]
              exact lotD_ix (lastD _ (List.cons_ne_nil a t))
          refine s_asgF (ef_catLF (K := K) (p := r) (ev_var rfl) hr3 hz3 (ef_lcR2 (fun _ => true) (fun c => lotD (l ++ [c])) (ea_cons (ev_op hix ev_c rv_I0) (ea_cons (ev_var rfl) ea_nil)) ⟨by omega, by omega, by omega, by omega⟩ (fun _ => rfl) (fun _ _ _ _ _ => et_yes) (fun c H4 e4 _ _ _ => ?_)) ?_) fun r' zs' H4 nr' e4 hr4 hz4 => ?_
          · refine ed_is (ed_cat (ed_var rfl (dt_ex e4 hd2)) (ed_tup (eb_cons (ed_int (ev_var rfl)) eb_nil) (by show 1 ≤ 100000; decide)) ?_) ?_
            · show (l.map PyData.int).length + 1 ≤ 100000
              rw [List.length_map]; omega
            · show PyData.tuple (l.map PyData.int ++ [.int c]) = lotD (l ++ [c])
              unfold lotD
              rw [List.map_append]
              rfl
          · rw [List.filter_eq_self.mpr (fun _ _ => rfl)]
            rw [List.length_map, List.length_map, upTo_len]
            have : (nextL m l).length = (m - (l.getLast?.getD (-1) + 1)).toNat := by
              unfold nextL
              rw [List.length_map, upTo_len]
            rw [hext, List.length_append] at hbig
            omega
          · refine ⟨r', zs', _, _, rfl, fresh_back (e'.trans (e2.trans e3)) nr', e3.trans e4, hr4, ?_⟩
            rw [hext, List.map_append]
            rw [List.filter_eq_self.mpr (fun _ _ => rfl)] at hz4
            unfold nextL
            rw [List.map_map (l := upTo _ _)]
            exact hz4
      · rintro σ' H3 ⟨r, zs, y5, y6, rfl, nr, e3, hr3, hz3⟩
        have elen : (lotsL m i).take xs.length = lotsL m i := List.take_of_length_le (by rw [dta_len hx, List.length_map]; exact Nat.le_refl _)
        rw [elen] at hz3
        refine s_asg (ev_var rfl) fun H4 e4 => ⟨r, zs, _, _, _, _, rfl, nr, (e'.trans (e2.trans e3)).trans e4, e4 r _ hr3, dta_ex e4 hz3⟩
    · rintro σ' H' ⟨p, xs, y3, y4, y5, y6, rfl, np, e', hp, hx⟩
      exact s_ret (ev_var rfl) fun H2 e2 => q p xs H2 np (e'.trans e2) (e2 p _ hp) (dta_ex e2 hx)
end
def gapBad (l : List Int) (o n : Int) : Bool := decide ((((l.filter fun c => decide (o < c) && decide (c < n)).length : Nat) : Int) % 2 = 1)
def apartL (m : Int) (l : List Int) : List Int := (upTo 0 m).filter fun c => !l.contains c
def rowOk (l ap : List Int) (j : Nat) : Bool := (ap.take j).all fun o => !gapBad l o (ap.getD j 0)
def isPaneL (m d : Int) (l : List Int) : Bool := ((List.range (apartL m l).length).all (rowOk l (apartL m l))) && decide ((l.length : Int) = d)
def panesL (m d : Int) : List (List Int) := (lotsL m d.toNat).filter (isPaneL m d)
theorem apart_len (m : Int) (l : List Int) : (apartL m l).length ≤ m.toNat := by
  have h := List.length_filter_le (fun c => !l.contains c) (upTo 0 m)
  rw [upTo_len] at h
  show ((upTo 0 m).filter _).length ≤ _
  omega
section
variable {P : Program} {w : World} {K : PySem.W.Frag} {mg : Str → Option Value} {base : Heap}
theorem ef_lots {σ : L2.St} {H : Hp} {ta : TA} {m s : Int} {E : XK} (h : EvA ta σ H [.int m, .int s]) (m0 : 0 ≤ m) (m1 : m < 10) (s0 : 0 ≤ s) (s1 : s < 10) : EvF K (tCall (spLots K) [] E ta) σ H ((lotsL m s.toNat).map lotD) := fun H1 e Q q =>
  h H1 e _ fun H2 e2 => ⟨m, s, rfl, m0, m1, s0, s1, fun p xs H3 np e3 hp hx => q p xs H3 (fresh_back e2 np) (e2.trans e3) hp hx⟩
def spIsPane (K : PySem.W.Frag) : Sp := fun vs H Q _ => ∃ (m d : Int) (l : List Int), DtAll K H vs [curveD m d, lotD l] ∧ 0 ≤ m ∧ m < 10 ∧ l.length < 1000 ∧ ∀ H2, Ex H H2 → Q (.bl (isPaneL m d l)) H2
theorem okk_is_pane {f : Addr} {fd : FuncData} {k : Nat} (D : Df K mg "_law_is_pane" s__law_is_pane ["_law_curve_here", "_law_lot_here"] f fd) (B : Bt mg) : FnOk P w K mg base CX0 (k + 1) f fd ["_law_curve_here", "_law_lot_here"] (spIsPane K) := by
  refine D.F.ok sc__law_is_pane (fun vs H Q E h => ?_) (fun cdv A outer s H vs Q E hr h => ?_)
  · obtain ⟨m, d, l, hd, _⟩ := h
    rw [dta_len hd]
    rfl
  · obtain ⟨m, d, l, hd, m0, m1, hlen, q⟩ := h
    cases hd with
    | cons h1 h2 =>
    cases h2 with
    | cons h2 h3 =>
    cases h3
    rename_i cv lv
    obtain ⟨la, rfl, hl⟩ := dt_lot h2
    refine ⟨_, (pss_cons (ps_setLc (i := 2) (own := [("_law_corner", 3)]) rfl sc__law_is_pane.nd rfl rfl (sw_true rfl rfl rfl (by decide +kernel)) (pi_range1 (by rfl) B.range_ (pa_cons (pe_ix (show IxR _ (rIxT K) from ix_tup) (pv 0) pe_int (fun _ _ => rfl)) pa_nil)) (blkOk_by (own := [("_law_corner", 3)]) (N := N__law_is_pane) (sc := defScope s__law_is_pane) (by decide +kernel)) (fun _ _ _ _ _ => (pg_name (i := 3) sc__law_is_pane.nd rfl (.inl rfl))) (fun _ _ _ _ _ => pts_one (pt_cmpR (show OpR _ _ (rIn K true) from op_notIn_seq) (pv 3) (pv 1) (by rfl))) (fun _ _ _ _ _ => (pv 3)))  (pss_cons (ps_for PassesOwn.never rfl (pi_enum (by rfl) B.enumerate_ (pa_cons (pv 2) pa_nil)) (pg_tup (by rfl) (pgs_cons (pg_name (i := 4) sc__law_is_pane.nd rfl (.inl rfl)) (pgs_cons (pg_name (i := 5) sc__law_is_pane.nd rfl (.inr rfl)) pgs_nil)))   (pss_one (ps_for PassesOwn.never rfl (pi_list (pe_slice (show SlR _ (rSlL K) from sl_list) (pv 2) po_none (po_some (pv 4)))) (pg_name (i := 6) sc__law_is_pane.nd rfl (.inr rfl))   (pss_one (ps_if (pt_cmpR op_eq (pe_op op_mod (pe_callB (show CallR _ _ (rLenS K) from call_len_seq) (by rfl) B.len_ (by decide +kernel) (pa_cons (pe_lc (own := [("_law_corner", 3)]) rfl sc__law_is_pane.nd (pi_tup (pv 1)) (blkOk_by (own := [("_law_corner", 3)]) (N := N__law_is_pane) (sc := defScope s__law_is_pane) (by decide +kernel)) (fun _ _ _ _ _ => (pg_name (i := 3) sc__law_is_pane.nd rfl (.inl rfl))) (fun _ _ _ _ _ => pts_one (pt_chain op_lt op_lt (pv 6) (pv 3) (pv 5))) (fun _ _ _ _ _ => (pv 3))) pa_nil)) pe_int) pe_int (nomark _))   (pss_one (ps_ret pe_bl))   pss_nil)))))  (pss_one (ps_ret (pe_cmpR op_eq (pe_callB (show CallR _ _ (rLenS K) from call_len_seq) (by rfl) B.len_ (by decide +kernel) (pa_cons (pv 1) pa_nil)) (pe_ix (show IxR _ (rIxT K) from ix_tup) (pv 0) pe_int (fun _ _ => rfl)) (nomark _)))))), ?_⟩
    refine q_asgF (K := K) (ds := (apartL m l).map PyData.int) (ef_is (ef_lcR1 (fun c => !l.contains c) PyData.int (ea_cons (ev_int (K := K) (ed_ixT (ds := [.int m, .int d]) (ed_var rfl h1) ev_c rfl)) ea_nil) ⟨by omega, by omega⟩ (fun _ => rfl) (fun c H1 e1 _ _ => ?_) (fun c H1 e1 _ _ _ => ed_int (ev_var rfl))) rfl) fun p xs H1 np e1 hp hx => ?_
    · refine et_is (et_test (ev_op (ev_var rfl) (ev_var rfl) (rv_niT (ex_t e1 hl) rfl (flat_ints l)))) ?_
      rw [inV_ints]
    · rw [dta_ints_inv hx] at hp
      clear hx
      have hal := apart_len m l
      generalize hap : apartL m l = ap at hp hal
      refine ⟨.ref p, rfl, p, ap.map V.int, rfl, sq_of hp, for_it (walk_enum (K := K) (a := p) (xs := ap.map V.int)) (fun i σ' H' => ∃ y3 y4 y5 y6 : Option V, σ' = [some cv, some (.ref la), some (.ref p), y3, y4, y5, y6] ∧ Ex H1 H' ∧ (List.range i).all (rowOk l ap) = true) ⟨_, _, _, _, rfl, Ex.refl _, rfl⟩ (fun i σ' H' _ hw => ?_) (fun i x σ' H' H'' hi hw hy => ?_) (fun σ' H' hw => ?_)⟩
      · obtain ⟨_, _, _, _, _, e2, _⟩ := hw
        exact sq_of (e2 p _ hp)
      · obtain ⟨y3, y4, y5, y6, rfl, e2, hok⟩ := hw
        obtain ⟨T, x1, x2, rfl, nT, rfl, g1, g2⟩ := hy
        cases Option.some.inj g1
        have hi' : i < ap.length := by rw [List.length_map] at hi; exact hi
        replace g2 : (ap.map V.int)[i]? = some x2 := g2
        rw [List.getElem?_map, List.getElem?_eq_getElem hi'] at g2
        cases Option.some.inj g2
        have hget : ap.getD i 0 = ap[i] := by
          rw [List.getD_eq_getElem?_getD, List.getElem?_eq_getElem hi']
          rfl
        have e3 : Ex H1 (upd H' T (.tup [.int (i : Nat), .int ap[i]])) := e2.trans (Ex.new nT)
        refine ⟨T, _, rfl, st_of upd_same, rfl, _, _, rfl, _, _, rfl, rfl, ?_⟩
        refine s_forNL (xs := (ap.take i).map V.int) ?_ (fun r j σ' H'' => ∃ y3 y6 : Option V, σ' = [some cv, some (.ref la), some (.ref p), y3, some (.int (i : Nat)), some (.int ap[i]), y6] ∧ Ex H1 H'' ∧ H'' r = some (.lst ((ap.take i).map V.int)) ∧ ((ap.take i).take j).all (fun o => !gapBad l o ap[i]) = true)
          (fun r H2 nr e4 hr' => ⟨_, _, rfl, e3.trans e4, hr', rfl⟩) (fun r j σ' H2 _ hw => ?_) (fun r j x σ' H2 hj hw => ?_) (fun r σ' H2 hw => ?_)
        · rw [List.map_take, ← cut_take _ _ (by rw [List.length_map]; omega)]
          exact el_sl (ev_var rfl) eo_none (eo_some (ev_var rfl)) (sq_of (e3 p _ hp))
        · obtain ⟨_, _, _, _, hr', _⟩ := hw
          exact sq_of hr'
        · obtain ⟨y3, y6, rfl, e4, hr', hall⟩ := hw
          rw [List.getElem?_map] at hj
          cases ho : (ap.take i)[j]? with
          | none => rw [ho] at hj; cases hj
          | some o =>
            rw [ho] at hj
            cases Option.some.inj hj
            have htest : EvT (tTest (tOp rEq (tOp (rI (fun _ j => 0 < j) fun i j => .int (i % j)) (tCB (rLenS K) (tCons (tLc (iTup K (tVar 1)) (gName 3) (tTest (tChain (rI0 fun i j => .bl (decide (i < j))) (rI0 fun i j => .bl (decide (i < j))) (tVar 6) (tVar 3) (tVar 5))) (tVar 3) [3]) tNil)) (tC (.int 2))) (tC (.int 1)))) [some cv, some (.ref la), some (.ref p), y3, some (.int (i : Nat)), some (.int ap[i]), some (.int o)] H2 (gapBad l o ap[i]) := by
              refine et_is (et_test (ev_op (ev_op (ev_lenF (K := K) (ef_lcT (ds := l.map PyData.int) (fun d => decide (o < unint d) && decide (unint d < ap[i])) (fun d => d) (ed_var rfl (dt_ex (e1.trans e4) h2)) (by rw [List.length_map]; omega) (fun _ => rfl) (fun d x H3 e5 hm hd => ?_) (fun d x H3 e5 hm hd _ => ed_var rfl hd))) ev_c (rv_I (by show (0 : Int) < 2; decide))) ev_c (rv_eq rfl))) ?_
              · obtain ⟨c, _, rfl⟩ := mem_ints hm
                cases hd
                exact et_test (ev_chain (ev_var rfl) (ev_var rfl) (ev_var rfl) rv_I0 rv_I0)
              · rw [dec_int, filt_len (g := fun c => decide (o < c) && decide (c < ap[i])) (fun _ => rfl)]
                rfl
            refine s_when htest (fun hb H3 e5 => ?_) (fun hb H3 e5 => ?_)
            · refine s_ret ev_c fun H4 e6 => ?_
              have hbad : isPaneL m d l = false := by
                unfold isPaneL
                rw [hap]
                have : (List.range ap.length).all (rowOk l ap) = false := by
                  cases hq : (List.range ap.length).all (rowOk l ap) with
                  | false => rfl
                  | true =>
                    rw [List.all_eq_true] at hq
                    have h6 := hq i (List.mem_range.mpr hi')
                    unfold rowOk at h6
                    rw [List.all_eq_true] at h6
                    have h7 := h6 o (List.mem_of_getElem? ho)
                    rw [hget, hb] at h7
                    cases h7
                rw [this]
                rfl
              rw [← hbad]
              exact q H4 ((e1.trans (e4.trans e5)).trans e6)
            · refine ⟨_, _, rfl, e4.trans e5, e5 r _ hr', ?_⟩
              rw [List.take_add_one, ho, List.all_append, hall]
              show (true && (!gapBad l o ap[i] && true)) = true
              rw [hb]
              rfl
        · obtain ⟨y3, y6, rfl, e4, hr', hall⟩ := hw
          refine ⟨_, _, _, _, rfl, e4, ?_⟩
          rw [List.range_succ, List.all_append, hok]
          show (true && (rowOk l ap i && true)) = true
          have : rowOk l ap i = true := by
            unfold rowOk
            rw [hget]
            rw [List.length_map, List.take_of_length_le (Nat.le_refl _)] at hall
            exact hall
          rw [this]
          rfl
      · obtain ⟨y3, y4, y5, y6, rfl, e2, hok⟩ := hw
        rw [List.length_map] at hok
        have hres : isPaneL m d l = decide ((l.length : Int) = d) := by
          unfold isPaneL
          rw [hap, hok]
          rfl
        refine s_ret (v := .bl (isPaneL m d l)) (ev_is (ev_op (ev_lenT (K := K) (ds := l.map PyData.int) (ed_var rfl (dt_ex (e1.trans e2) h2))) (ev_int (K := K) (ed_ixT (ds := [.int m, .int d]) (ed_var rfl (dt_ex (e1.trans e2) h1)) ev_c rfl)) (rv_eq rfl)) ?_) fun H3 e5 => q H3 ((e1.trans e2).trans e5)
        rw [hres, dec_int, List.length_map]
def spPanes (K : PySem.W.Frag) : Sp := fun vs H Q _ => ∃ (m d : Int), DtAll K H vs [curveD m d] ∧ 0 ≤ m ∧ m < 10 ∧ 0 ≤ d ∧ d < 10 ∧ ∀ p xs H2, H p = none → Ex H H2 → H2 p = some (.lst xs) → DtAll K H2 xs ((panesL m d).map lotD) → Q (.ref p) H2
theorem lots_sz {m : Int} : ∀ {s : Nat} {l : List Int}, l ∈ lotsL m s → l.length = s := by
  intro s
  induction s with
  | zero => intro l h; simp [lotsL] at h; rw [h]; rfl
  | succ s ih =>
    intro l h
    simp only [lotsL, List.mem_flatMap, List.mem_map] at h
    obtain ⟨a, ha, c, _, rfl⟩ := h
    rw [List.length_append, ih ha]; rfl
theorem okk_panes {f fl fi : Addr} {fd fdl fdi : FuncData} {k : Nat} (D : Df K mg "_law_panes" s__law_panes ["_law_curve_here"] f fd) (D__law_lots : Df K mg "_law_lots" s__law_lots ["_law_many", "_law_size"] fl fdl) (D__law_is_pane : Df K mg "_law_is_pane" s__law_is_pane ["_law_curve_here", "_law_lot_here"] fi fdi) (B : Bt mg) : FnOk P w K mg base CX0 (k + 2) f fd ["_law_curve_here"] (spPanes K) := by
  have G__law_lots : FnOk P w K mg base CX0 (k + 1) fl fdl ["_law_many", "_law_size"] (spLots K) := okk_lots D__law_lots B
  have G__law_is_pane : FnOk P w K mg base CX0 (k + 1) fi fdi ["_law_curve_here", "_law_lot_here"] (spIsPane K) := okk_is_pane D__law_is_pane B
  refine D.F.ok sc__law_panes (fun vs H Q E h => ?_) (fun cdv A outer s H vs Q E hr h => ?_)
  · obtain ⟨m, d, hd, _⟩ := h
    rw [dta_len hd]
    rfl
  · obtain ⟨m, d, hd, m0, m1, d0, d1, q⟩ := h
    cases hd with
    | cons h1 h2 =>
    cases h2
    rename_i cv
    refine ⟨_, (pss_one (ps_ret (pe_lc (own := [("_law_lot_here", 1)]) rfl sc__law_panes.nd (pi_list (pe_call G__law_lots (hr.mono (by omega)) (by rfl) D__law_lots.g D__law_lots.F.kp D__law_lots.b .nil pass0 (pa_cons (pe_ix (show IxR _ (rIxT K) from ix_tup) (pv 0) pe_int (fun _ _ => rfl)) (pa_cons (pe_ix (show IxR _ (rIxT K) from ix_tup) (pv 0) pe_int (fun _ _ => rfl)) pa_nil)))) (blkOk_by (own := [("_law_lot_here", 1)]) (N := N__law_panes) (sc := defScope s__law_panes) (by decide +kernel)) (fun _ _ _ _ _ => (pg_name (i := 1) sc__law_panes.nd rfl (.inl rfl))) (fun _ _ _ _ _ => pts_one (pt_val (pe_call G__law_is_pane (hr.mono (by omega)) (by rfl) D__law_is_pane.g D__law_is_pane.F.kp D__law_is_pane.b .nil pass0 (pa_cons (pv 0) (pa_cons (pv 1) pa_nil))))) (fun _ _ _ _ _ => (pv 1))))), ?_⟩
    have hll : (lotsL m d.toNat).length ≤ 200 := lots_len m0 m1 (by omega)
    refine s_retF (K := K) (ds := (panesL m d).map lotD) (ef_is (ef_lcF (ds := (lotsL m d.toNat).map lotD) (fun x => isPaneL m d (unlot x)) (fun x => x) (ef_lots (ea_cons (ev_int (K := K) (ed_ixT (ds := [.int m, .int d]) (ed_var rfl h1) ev_c rfl)) (ea_cons (ev_int (K := K) (ed_ixT (ds := [.int m, .int d]) (ed_var rfl h1) ev_c rfl)) ea_nil)) m0 m1 d0 d1) (by rw [List.length_map]; omega) (fun _ => rfl) (fun x v H1 e1 hm hx => ?_) (fun x v H1 e1 hm hx _ => ed_var rfl hx)) (filt_lots fun l => by rw [unlot_lot])) fun p xs H1 np e1 hp hx => q p xs H1 np e1 hp hx
    obtain ⟨l, hl, rfl⟩ := mem_lots hm
    rw [unlot_lot]
    refine et_B (fun H2 e2 Q' q' => ?_)
    refine ⟨_, rfl, _, rfl, m, d, l, .cons (dt_ex (e1.trans e2) h1) (.cons (dt_ex e2 hx) .nil), m0, m1, ?_, fun H3 e3 => q' H3 e3⟩
    rw [lots_sz hl]
    omega
end
theorem ty_int_inv {K : PySem.W.Frag} {H : Hp} {x : V} {t : String} (ty : TyX K H x (.type t)) (h : t = "int") : ∃ i, x = .int i := by
  cases ty with
  | base b => cases b <;> first | exact ⟨_, rfl⟩ | exact absurd h (by decide)
  | _ => exact absurd h (by decide)
theorem ty_of_int {K : PySem.W.Frag} {H : Hp} {i : Int} {t : String} (ty : TyX K H (.int i) (.type t)) : t = "int" := by
  cases ty with
  | base b => cases b; rfl
def tyNames : List String := ["NoneType", "bool", "int", "str", "list", "tuple", "dict"]
def tyGood : Bool := tyNames.all fun t => match kitB t "int", kitB t "bool" with
  | some a, some b => (a && !b) == (t == "int")
  | _, _ => false
theorem ty_good : tyGood = true := by decide +kernel
theorem ty_ib {t : String} (h : t ∈ tyNames) : ∃ a b, kitB t "int" = some a ∧ kitB t "bool" = some b ∧ (a && !b) = (t == "int") := by
  have h2 := ty_good
  unfold tyGood at h2
  rw [List.all_eq_true] at h2
  have h3 := h2 t h
  cases h4 : kitB t "int" with
  | none => rw [h4] at h3; cases h3
  | some a =>
    cases h5 : kitB t "bool" with
    | none => rw [h4, h5] at h3; cases h3
    | some b =>
      rw [h4, h5] at h3
      exact ⟨a, b, rfl, rfl, eq_of_beq h3⟩
section
variable {P : Program} {w : World} {K : PySem.W.Frag} {mg : Str → Option Value} {base : Heap}
def spWhole (K : PySem.W.Frag) : Sp := fun vs H Q _ => ∃ (v : V) (t : String), vs = [v] ∧ t ∈ tyNames ∧ (∀ H1, Ex H H1 → TyX K H1 v (.type t)) ∧ ∀ H2, Ex H H2 → Q (.bl (t == "int")) H2
theorem ev_whole {σ : L2.St} {H : Hp} {te : TE} {v : V} {t : String} {E : XK} (h : Ev te σ H v) (ht : t ∈ tyNames) (hx : ∀ H1, Ex H H1 → TyX K H1 v (.type t)) : Ev (tCall (spWhole K) [] E (tCons te tNil)) σ H (.bl (t == "int")) := fun H1 e Q q =>
  h H1 e _ fun H2 e2 => ⟨v, t, rfl, ht, fun H3 e3 => hx H3 ((e.trans e2).trans e3), fun H3 e3 => q H3 (e2.trans e3)⟩
theorem okk_is_whole {f : Addr} {fd : FuncData} {k : Nat} (D : Df K mg "is_whole" s_is_whole ["thing"] f fd) (B : Bt mg) : FnOk P w K mg base CX0 (k + 1) f fd ["thing"] (spWhole K) := by
  refine D.F.ok sc_is_whole (fun vs H Q E h => ?_) (fun cdv A outer s H vs Q E hr h => ?_)
  · obtain ⟨v, t, rfl, _⟩ := h
    rfl
  · obtain ⟨v, t, rfl, ht, hx, q⟩ := h
    refine ⟨_, (pss_one (ps_ret (pe_and (pe_callB (show CallR _ _ (rIsi K) from call_isi) (by rfl) B.isinstance_ (by decide +kernel) (pa_cons (pv 0) (pa_cons (pe_bltn (v := .ty "int") (by rfl) B.int_ (by decide +kernel) rfl) pa_nil))) (pe_one (pe_not (pe_callB (show CallR _ _ (rIsi K) from call_isi) (by rfl) B.isinstance_ (by decide +kernel) (pa_cons (pv 0) (pa_cons (pe_bltn (v := .ty "bool") (by rfl) B.bool_ (by decide +kernel) rfl) pa_nil)))))))), ?_⟩
    obtain ⟨a, b, ha, hb, hab⟩ := ty_ib ht
    refine s_ret (ev_andV (ev_isi (ev_var rfl) ev_c hx ha) (fun _ => ev_notV (ev_isi (ev_var rfl) ev_c hx hb))) fun H1 e1 => ?_
    rw [hab]
    exact q H1 e1
theorem ev_wholeI {σ : L2.St} {H : Hp} {te : TE} {i : Int} {E : XK} (h : Ev te σ H (.int i)) : Ev (tCall (spWhole K) [] E (tCons te tNil)) σ H (.bl true) := ev_whole h (by decide) ty_int
end
theorem tyes_go' {σ : L2.St} {H : Hp} {F G : Hp → Prop} (h : F H) : tYes σ H fun b H3 => if b = true then F H3 else G H3 := by
  show (if true = true then F H else G H)
  exact iteT h
/-! ### enumerate(tuple) -/
set_option maxHeartbeats 1000000 in
theorem meets_enum_new1 {v : Value} {o : Obj} {H : Heap → Prop} (B : Begins v o H) :
    Meets (Builtin.«enumerate.__new__» ⟨[.type "enumerate", v], []⟩) (fun _ R s => H s.heap ∧
      R (.ok (.ret (.ref (s.heap.push o).objs.size))) { s with heap := (s.heap.push o).push { cls := .type "enumerate", data := .fields #[.none, .bool false, .ref s.heap.objs.size, rawInt 0, .none, .none] } }) :=
  .of_wp fun prog w A R s h => by
    obtain ⟨hp, g, d, tk, os⟩ := s; obtain ⟨h1, h⟩ := h
    have hsub := sub_enumerate
    have q1 : ∀ {A' : Around} {E : Value → Shared → Prop} {Q : Value → Shared → Prop}, Q (.ref hp.objs.size) ⟨hp.push o, g, d, tk, os⟩ → wpAny (model prog w) A' (pyIter v) Q E ⟨hp, g, d, tk, os⟩ :=
      fun q => B.iter prog w _ _ ⟨hp, g, d, tk, os⟩ _ h1 q
    wp_walk using q1
    refine wpAny_stack_any fun st => wpAny_pure ?_
    split
    · rename_i c _ _ _ _ _
      cases (c == Value.type "enumerate")
      · wp_walk using q1
        exact ⟨_, rfl, h⟩
      · wp_walk using q1
        exact ⟨_, rfl, h⟩
    · wp_walk using q1
      exact ⟨_, rfl, h⟩
theorem call_enum_tuple {prog : Program} {w : World} {A : Around} {E : Value → Shared → Prop} {s : Shared} {l : Addr} {items : Array Value} {Q : Value → Shared → Prop} (hL : s.heap.IsTuple l items)
    (h : ∀ h', IsEnum h' (s.heap.objs.size + 1) s.heap.objs.size 0 .none → h'.IsTupleIter s.heap.objs.size l 0 → h'.objs.size = s.heap.objs.size + 2 →
      (∀ b o, s.heap.get? b = some o → h'.get? b = some o) → Q (.ref (s.heap.objs.size + 1)) { s with heap := h' }) :
    wpAny (model prog w) A (call (.type "enumerate") [.ref l]) Q E s := by
  refine callType_new F.called_enumerate (by decide) (F.typeCall_enumerate_1 _) (F.newCall_enumerate_1 _) (fun obj => F.args_object_init_2 obj _) F.entry_enumerate_new
    (meets_enum_new1 (begins_tuple l items)) ⟨hL, ?_⟩
  have hz : (s.heap.push { cls := .type "tuple_iterator", data := .fields #[.ref l, .int 0 0] }).objs.size = s.heap.objs.size + 1 := Heap.size_push ..
  show _ ∧ _
  rw [hz]
  have he : IsEnum ((s.heap.push { cls := .type "tuple_iterator", data := .fields #[.ref l, .int 0 0] }).push
      { cls := .type "enumerate", data := .fields #[.none, .bool false, .ref s.heap.objs.size, rawInt 0, .none, .none] }) (s.heap.objs.size + 1) s.heap.objs.size 0 .none := by
    have := Heap.get?_push_size (s.heap.push { cls := .type "tuple_iterator", data := .fields #[.ref l, .int 0 0] })
      (o := { cls := .type "enumerate", data := .fields #[.none, .bool false, .ref s.heap.objs.size, rawInt 0, .none, .none] }) rfl
    rw [hz] at this; exact this
  refine ⟨⟨_, he, rfl⟩, h _ he ⟨_, Heap.get?_push_of_some _ (Heap.get?_push_size _ rfl), rfl, rfl⟩ (by rw [Heap.size_push, hz]) fun b o x => Heap.get?_push_of_some _ (Heap.get?_push_of_some _ x)⟩
def ItU (K : PySem.W.Frag) (a : Addr) : It :=
  ⟨fun i H => ∃ (xs : List V) (x : V), SqT K H a xs ∧ xs[i]? = some x, fun i H v H' => ∃ T x, v = .ref T ∧ H T = none ∧ H' = upd H T (.tup [.int (i : Nat), x]) ∧ ∀ xs, SqT K H a xs → xs[i]? = some x, fun i H => ∃ xs : List V, SqT K H a xs ∧ xs.length ≤ i⟩
theorem turn_enumT {P : Program} {w : World} {K : PySem.W.Frag} {elts : List Expr} {kk : Nat} {tpos : Pos} (a e it : Addr) :
    Turn P w K (.Tuple elts kk tpos) (ItU K a) [e, it] e (fun i h => (∃ old, IsEnum h e it ((i : Nat) : Int) old) ∧ h.IsTupleIter it a i ∧ e ≠ it) where
  mem := by simp
  obj := fun i h st b hb => by
    obtain ⟨⟨old, he⟩, ⟨o, ho, hc, hd⟩, _⟩ := st
    have e' : b = e ∨ b = it := by simpa using hb
    rcases e' with z | z
    · rw [z]; exact ⟨_, he, fun v q => nomatch q⟩
    · rw [z]; exact ⟨o, ho, fun v q => by rw [hd] at q; cases q⟩
  keep := fun i h h' st k => let ⟨⟨old, he⟩, hi, hne⟩ := st; ⟨⟨old, k e (by simp) _ he⟩, hi.at fun o q => k it (by simp) o q, hne⟩
  item := by
    intro X hP hw hK hc i pins s σ H E I hf st hg
    subst hP hw hK
    obtain ⟨⟨old, he⟩, hit, hne⟩ := st
    obtain ⟨xs, x, hq, hx⟩ := hg
    obtain ⟨its, rv, p, hz⟩ := I.tuple hq
    obtain ⟨u, hu, ru⟩ := rv.get hx
    have hel : e < s.heap.objs.size := Heap.lt_size he
    have hil : it < s.heap.objs.size := by obtain ⟨_, q, _⟩ := hit; exact Heap.lt_size q
    have hai : a ≠ it := fun z => by
      subst z
      obtain ⟨_, q, c1, _⟩ := hit
      obtain ⟨_, q2, c2, _⟩ := p
      rw [q] at q2
      cases q2
      rw [c1] at c2
      exact absurd (Value.type.inj c2) (by decide)
    have hae : a ≠ e := fun z => by
      subst z
      obtain ⟨_, q2, c2, _⟩ := p
      have he' := he
      unfold IsEnum at he'
      rw [he'] at q2
      cases q2
      exact absurd (Value.type.inj c2) (by decide)
    have hlt : i < its.toArray.size := by
      have h1 : its[i]? = some u := hu
      have := (List.getElem?_eq_some_iff.mp h1).1
      simpa using this
    have hd0 : X.A.in1.handled = none := I.ok.hd hc
    refine wpAny_pyNext_enum_itemD (Draws.tuple hd0 it a hai its.toArray) he ⟨hit, p⟩ hlt hne (by simp [hne, Ne.symm hae]) fun u' h' tk hp' ho hst' hT hsz hk => ?_
    have eu : u' = u := by
      have h1 : its[i]? = some u := hu
      have h2 : its.toArray[i]? = some u' := hp'
      rw [List.getElem?_toArray, h1] at h2
      exact (Option.some.inj h2).symm
    subst eu
    refine ⟨_, rfl, wpAny_letOwnedTupleGo_enum (s := { s with heap := h', toks := tk + 1 }) ho fun h'' he' sb => ?_⟩
    have hT2 : h''.get? s.heap.objs.size = some { cls := .type "tuple", data := .seq #[.int i tk, u'] } := (sb.2 _ (Nat.ne_of_gt hel)).trans hT
    have new : ObjOk X.prog X.w (upd H s.heap.objs.size (.tup [.int (i : Nat), x])) h'' s.heap.objs.size (.tup [.int (i : Nat), x]) :=
      ⟨by show 2 ≤ sizeLine; decide, [.int i tk, u'], .cons ⟨_, rfl⟩ (.cons ru .nil), ⟨_, hT2, rfl, _, rfl⟩⟩
    have I1 : Inv X pins σ (upd H s.heap.objs.size (.tup [.int (i : Nat), x])) { s with heap := h'', toks := tk + 1 } :=
      I.turnedNew (ch := [e, it]) (fun b ob hb q => (sb.2 b (fun z => hb (by simp [z]))).trans (hk b ob (fun z => hb (by simp [z])) (fun z => hb (by simp [z])) q)) hf (Nat.le_refl _) new
    refine ⟨.ref s.heap.objs.size, _, I1, rfl, ⟨_, x, rfl, I.hok.fresh (Nat.le_refl _), rfl, fun ys hy => by rw [I.tuple_inj hy hq]; exact hx⟩, ⟨⟨u', ?_⟩, hst'.1.at fun o q => (sb.2 it (Ne.symm hne)).trans q, hne⟩, fun b hb => ?_⟩
    · have e1 : ((i + 1 : Nat) : Int) = (i : Int) + 1 := by omega
      rw [e1]; exact he'
    · have hb' : b < s.heap.objs.size := by
        have e' : b = e ∨ b = it := by simpa using hb
        rcases e' with z | z
        · rw [z]; exact hel
        · rw [z]; exact hil
      rw [upd_ne (Nat.ne_of_lt hb')]
      exact (hf b hb).1
  done := by
    intro X hP hw hK hc i pins s σ H E I hf st hg
    subst hP hw hK
    obtain ⟨⟨old, he⟩, hit, hne⟩ := st
    obtain ⟨xs, hq, hx⟩ := hg
    obtain ⟨its, rv, p, hz⟩ := I.tuple hq
    obtain ⟨f0, f1, f2, f3, f4, f5⟩ := hf it (by simp)
    have hl := rv.length
    have hd0 : X.A.in1.handled = none := I.ok.hd hc
    have hT : s.TypeIs (.ref e) "enumerate" := ⟨_, he, rfl⟩
    unfold pyNext
    refine wpAny_bind (wpAny_attempt (wpAny_callSpecial?_slot (name := Str.ofString "__next__") hT F.slot_enumerate_next
      (wpAny_call_entry F.slot_enumerate_next hT F.entry_enumerate_next ?_ (F.args_enumerate_next_1 _))))
    show wpAny _ _ (field (.ref e) 2 >>= _) _ _ _
    refine wpAny_bind (wpAny_field he rfl (x := .ref it) rfl ?_)
    refine wpAny_bind (wpAny_nextOf_tuple_end hd0 hit p (by simp; omega) fun h' x he' hx' => ?_)
    obtain ⟨o, ho, hc⟩ := hx'
    refine wpAny_bind (wpAny_isInstance (T := "StopIteration") (b := true) ⟨o, ho, hc⟩ isSubtype_stop ?_)
    exact wpAny_pure ⟨rfl, I.turned (t' := s.toks) (fun b o hb q => he' b o hb q) f0 f1 f3 f4 f5⟩
  self := fun A i s Q E st h => let ⟨⟨_, he⟩, _⟩ := st; wpAny_pyIter_enum he h
def iEnumT (K : PySem.W.Frag) (ta : TA) : TI := fun σ H R => ta σ H fun vs H1 => ∃ a xs, vs = [.ref a] ∧ SqT K H1 a xs ∧ R (ItU K a) H1
theorem pi_enumT {X : Cx} {e : Expr} {ta : TA} {p pos tpos : Pos} {elts : List Expr} {kk : Nat} (hg : Gl X "enumerate") (hm : X.mg "enumerate" = none) (ha : PA X [e] ta) (hs : starEach [e] X.env = [(false, eval e X.env)] := by rfl) :
    PI X (.Tuple elts kk tpos) (.Call (.Name "enumerate" p) [e] [] pos) (iEnumT X.K ta) := by
  refine ⟨fun pins s σ H R I h => ?_⟩
  refine Call_ (ld_blt I hg hm boot_enumerate (PyProof.Rows.callWith_type1 (thn (ha.run pos pins s σ H _ I h) fun us s1 ⟨vs, H1, I1, r1, q1⟩ => ?_) hs rfl))
  obtain ⟨a, xs, ex, hq, q⟩ := q1
  subst ex
  cases r1 with
  | cons r rr =>
    cases rr
    cases r
    obtain ⟨its, rv, p', hz⟩ := I1.tuple hq
    refine call_enum_tuple p' fun h' he hit hsz hk => wpAny_pyIter_enum he ?_
    have I2 : Inv X pins σ H1 { s1 with heap := h' } := I1.kept (t' := s1.toks) hk
    refine ⟨s1.heap.objs.size + 1, [s1.heap.objs.size + 1, s1.heap.objs.size], _, _, H1, rfl, I2, turn_enumT a (s1.heap.objs.size + 1) s1.heap.objs.size, ⟨⟨.none, he⟩, hit, Nat.succ_ne_self _⟩, fun b hb => ?_, q⟩
    have e' : b = s1.heap.objs.size + 1 ∨ b = s1.heap.objs.size := by simpa using hb
    have hle : s1.heap.objs.size ≤ b := by
      rcases e' with z | z
      · rw [z]; exact Nat.le_add_right _ _
      · rw [z]; exact Nat.le_refl _
    exact I1.fpOk hle (I1.hok.fresh hle)
theorem walk_enumT {K : PySem.W.Frag} {a : Addr} {xs : List V} : Walk (ItU K a) xs.length (fun H => SqT K H a xs) (YPair (fun i => some (.int (i : Nat))) (fun i => xs[i]?)) := by
  refine ⟨fun i _ hi q => ⟨xs, xs[i], q, by simp [hi]⟩, fun _ q => ⟨xs, q, Nat.le_refl _⟩, fun i H v H' _ q y => ?_⟩
  obtain ⟨T, x, h1, h2, h3, h4⟩ := y
  exact ⟨T, .int (i : Nat), x, h1, h2, h3, rfl, h4 xs q⟩
/-! ### small words -/
section
variable {K : PySem.W.Frag} {σ : L2.St} {H H' : Hp} {ta tb te tl : TE} {vs : List V} {v : V} {d0 d1 d2 d3 d4 : PyData}
theorem dt_int {i : Int} (h : Dt K H v (.int i)) : v = .int i := by cases h; rfl
theorem dt_bool {b : Bool} (h : Dt K H v (.bool b)) : v = .bl b := by cases h; rfl
theorem dta0 (h : DtAll K H vs []) : vs = [] := by cases h; rfl
theorem dta1 (h : DtAll K H vs [d0]) : ∃ v0, vs = [v0] ∧ Dt K H v0 d0 := by
  cases h with
  | cons h0 h => rw [dta0 h]; exact ⟨_, rfl, h0⟩
theorem dta2 (h : DtAll K H vs [d0, d1]) : ∃ v0 v1, vs = [v0, v1] ∧ Dt K H v0 d0 ∧ Dt K H v1 d1 := by
  cases h with
  | cons h0 h => obtain ⟨v1, rfl, h1⟩ := dta1 h; exact ⟨_, _, rfl, h0, h1⟩
theorem dta3 (h : DtAll K H vs [d0, d1, d2]) : ∃ v0 v1 v2, vs = [v0, v1, v2] ∧ Dt K H v0 d0 ∧ Dt K H v1 d1 ∧ Dt K H v2 d2 := by
  cases h with
  | cons h0 h => obtain ⟨v1, v2, rfl, h1⟩ := dta2 h; exact ⟨_, _, _, rfl, h0, h1⟩
theorem dta4 (h : DtAll K H vs [d0, d1, d2, d3]) : ∃ v0 v1 v2 v3, vs = [v0, v1, v2, v3] ∧ Dt K H v0 d0 ∧ Dt K H v1 d1 ∧ Dt K H v2 d2 ∧ Dt K H v3 d3 := by
  cases h with
  | cons h0 h => obtain ⟨v1, v2, v3, rfl, h1⟩ := dta3 h; exact ⟨_, _, _, _, rfl, h0, h1⟩
theorem rv_eqI {i j : Int} : RV rEq (.int i) (.int j) H (.bl (decide (i = j))) := by rw [← dec_int]; exact rv_eq rfl
theorem rv_neI {i j : Int} : RV rNe (.int i) (.int j) H (.bl (!decide (i = j))) := by rw [← dec_int]; exact rv_ne rfl
theorem dec_bl (a b : Bool) : decide (V.bl a = V.bl b) = (a == b) := by
  cases a <;> cases b <;> rfl
theorem rv_eqB {a b : Bool} : RV rEq (.bl a) (.bl b) H (.bl (a == b)) := by rw [← dec_bl]; exact rv_eq rfl
theorem rv_neB {a b : Bool} : RV rNe (.bl a) (.bl b) H (.bl (!(a == b))) := by rw [← dec_bl]; exact rv_ne rfl
theorem ev_inI {x : Int} {l : List Int} (ha : Ev ta σ H (.int x)) (hb : EvD K tb σ H (lotD l)) : Ev (tOp (rIn K false) ta tb) σ H (.bl (l.contains x)) := fun H1 e Q q =>
  ha H1 e _ fun H2 e2 => hb H2 (e.trans e2) _ fun w H3 e3 hw => by
    obtain ⟨a, rfl, hs⟩ := dt_lot hw
    rw [← inV_ints] at q
    exact rv_isT hs rfl (flat_ints l) H3 (Ex.refl _) Q fun H4 e4 => q H4 ((e2.trans e3).trans e4)
theorem ev_niI {x : Int} {l : List Int} (ha : Ev ta σ H (.int x)) (hb : EvD K tb σ H (lotD l)) : Ev (tOp (rIn K true) ta tb) σ H (.bl (!l.contains x)) := fun H1 e Q q =>
  ha H1 e _ fun H2 e2 => hb H2 (e.trans e2) _ fun w H3 e3 hw => by
    obtain ⟨a, rfl, hs⟩ := dt_lot hw
    rw [← inV_ints] at q
    exact rv_niT hs rfl (flat_ints l) H3 (Ex.refl _) Q fun H4 e4 => q H4 ((e2.trans e3).trans e4)
theorem ed_if {t : TT} {b : Bool} {d : PyData} (h : EvT t σ H b) (h1 : b = true → EvD K ta σ H d) (h2 : b = false → EvD K tb σ H d) : EvD K (tIf t ta tb) σ H d := fun H1 e Q q => h H1 e _ fun H2 e2 => by
  cases b with
  | true => exact iteT (h1 rfl H2 (e.trans e2) Q fun v H3 e3 => q v H3 (e2.trans e3))
  | false => exact iteF (h2 rfl H2 (e.trans e2) Q fun v H3 e3 => q v H3 (e2.trans e3))
theorem ev_lenI {l : List Int} (ha : EvD K ta σ H (lotD l)) : Ev (tCB (rLenS K) (tCons ta tNil)) σ H (.int (l.length : Int)) := by
  have := ev_lenT (K := K) (ds := l.map PyData.int) ha
  rw [List.length_map] at this
  exact this
theorem ed_catI {l r : List Int} (ha : EvD K ta σ H (lotD l)) (hb : EvD K tb σ H (lotD r)) (hl : l.length + r.length ≤ 1000) : EvD K (tOp (rCatA K) ta tb) σ H (lotD (l ++ r)) := by
  refine ed_is (ed_cat ha hb ?_) ?_
  · rw [List.length_map, List.length_map]; omega
  · unfold lotD; rw [List.map_append]
theorem s_drop' {D : Ends} (h : Ev te σ H v) (k : ∀ H1, Ex H H1 → D.nx σ H1) : tDrop te D σ H := s_drop h k
/-- over enumerate(tuple) -/
theorem ef_lcET {ds : List PyData} {j0 j1 : Nat} {vs : List Nat} (g : Nat → PyData → PyData) (h : EvD K tl σ H (.tuple ds)) (hz : ds.length < 50000) (hw : ∀ x y, wipe (((wipe σ vs).set j0 (some x)).set j1 (some y)) vs = wipe σ vs)
    (he : ∀ (i : Nat) (d : PyData) (x : V) H1, Ex H H1 → ds[i]? = some d → Dt K H1 x d → EvD K te (((wipe σ vs).set j0 (some (.int (i : Int)))).set j1 (some x)) H1 (g i d)) :
    EvF K (tLc (iEnumT K (tCons tl tNil)) (gTup K 2 (gCons (gName j0) (gCons (gName j1) gNil))) tYes te vs) σ H (ds.mapIdx g) := fun H0 e Q q => h H0 e _ fun v H1 e1 hv => by
  cases hv with
  | tup hx hd =>
    rename_i a xs
    refine ⟨a, xs, rfl, hx, fun Dl hD => lc_it (walk_enumT (K := K) (a := a) (xs := xs)) (fun i H' => Cd K H1 Dl ((ds.mapIdx g).take i) H') ⟨hD, Ex.new hD, [], upd_same, .nil⟩ (fun i H' _ p => ex_t p.2.1 hx) (fun i x H' H'' hi p hy => ?_) (fun H' p => ?_)⟩
    · obtain ⟨T, x1, x2, rfl, nT, rfl, g1, g2⟩ := hy
      cases Option.some.inj g1
      obtain ⟨p1, p2, acc, p3, p4⟩ := p
      have eT : Ex H' (upd H' T (.tup [.int (i : Nat), x2])) := Ex.new nT
      obtain ⟨d, h1, h2⟩ := dta_get (dta_ex p2 hd) g2
      refine ⟨T, _, rfl, st_of upd_same, rfl, _, _, rfl, _, _, rfl, rfl, hw _ _, ?_⟩
      refine tyes_go' ?_
      refine he i d x2 _ (((e.trans e1).trans p2).trans eT) h1 (dt_ex eT h2) _ (Ex.refl _) _ fun y H4 e4 hy => ?_
      have p3' := e4 Dl _ (eT Dl _ p3)
      refine ⟨acc, p3', sz_lt ?_, p1, Ex.mut ((p2.trans eT).trans e4) p1, _, upd_same, ?_⟩
      · have := dta_len p4
        rw [List.length_take, List.length_mapIdx] at this
        omega
      · rw [List.take_add_one, List.getElem?_mapIdx, h1]
        exact dta_tx (tx_lst p3') (dta_app (dta_ex (eT.trans e4) p4) (dta_one hy))
    · obtain ⟨p1, p2, acc, p3, p4⟩ := p
      have e5 : (ds.mapIdx g).take xs.length = ds.mapIdx g := List.take_of_length_le (by rw [List.length_mapIdx, dta_len hd]; exact Nat.le_refl _)
      rw [e5] at p4
      exact q Dl acc H' (fresh_back e1 p1) (e1.trans p2) p3 p4
end
theorem pe_bmK {X : Cx} {K : PySem.W.Frag} {T id : String} {name : Str} {r : V → List V → Hp → VK → Prop} {o : Expr} {to : TE} {e : Expr} {es : List Expr} {t : TA} {apos cpos : Pos} (hK : X.K = K) (pa : PlainAttrs T) (slot : Slot T name id) (hty : typeOf (.builtin id) = pure (.type "method_descriptor")) (hm : MtR X id r) (ho : PE X o to) (ha : PA X (e :: es) t)
    (hbase : attributeBase o name X.env (eval o X.env) = eval o X.env := by rfl)
    (hfew : ((backTo cpos (starEach (e :: es) X.env)).all (fun x => !x.1) && (backToKw cpos (keywordEach [] X.env)).all (fun x => x.1.isSome)
      && decide ((e :: es).length + ([] : List Keyword).length + (if ([] : List Keyword).isEmpty then 0 else 1) < 30)) = true := by rfl)
    (hline : (apos.endLine == cpos.line) = true := by rfl) (hs : starEach (e :: es) X.env = (false, eval e X.env) :: starEach es X.env := by rfl) (hplain : (backTo cpos (starEach es X.env)).any (·.1) = false := by rfl) :
    PE X (.Call (.Attribute o name apos) (e :: es) [] cpos) (tBM K T r to t) := by
  subst hK
  exact pe_bm pa slot hty hm ho ha hbase hfew hline hs hplain
section
variable {K : PySem.W.Frag}
theorem et_truL {σ : L2.St} {H : Hp} {te : TE} {p : Addr} {xs : List V} (h : Ev te σ H (.ref p)) (hs : SqL K H p xs) : EvT (fun σ H Q => te σ H fun x H' => ∃ k, TruV K x H' k ∧ Q k H') σ H (!xs.isEmpty) := fun H1 e _ q =>
  h H1 e _ fun H2 e2 => ⟨_, .inl ⟨xs, ex_l (e.trans e2) hs, rfl⟩, q H2 e2⟩
theorem et_truT {σ : L2.St} {H : Hp} {te : TE} {ds : List PyData} (h : EvD K te σ H (.tuple ds)) : EvT (fun σ H Q => te σ H fun x H' => ∃ k, TruV K x H' k ∧ Q k H') σ H (!ds.isEmpty) := fun H1 e _ q =>
  h H1 e _ fun v H2 e2 hv => by
    cases hv with
    | tup hs hx =>
      refine ⟨_, .inr (.inl ⟨_, hs, rfl⟩), ?_⟩
      cases hx with
      | nil => exact q H2 e2
      | cons _ _ => exact q H2 e2
theorem s_appD {D : Ends} {σ : L2.St} {H : Hp} {ta te : TE} {l : Addr} {xs : List V} {d : PyData} (hl : H l = some (.lst xs)) (ha : Ev ta σ H (.ref l)) (h : EvD K te σ H d) (hz : xs.length < 100000) (k : ∀ v H1, Ex H H1 → Dt K H1 v d → D.nx σ (upd H1 l (.lst (xs ++ [v])))) :
    tDrop (tBM K "list" rAppend ta (tCons te tNil)) D σ H := ha H (Ex.refl H) _ fun H1 e1 =>
  ⟨Or.inl ⟨rfl, xs, sq_of (e1 l _ hl)⟩, h H1 e1 _ fun v H2 e2 hv => ⟨l, xs, v, rfl, rfl, e2 l _ (e1 l _ hl), sz_lt hz, k v H2 (e1.trans e2) hv⟩⟩
theorem q_appD {D : Ends} {σ : L2.St} {H : Hp} {ta te : TE} {tz : TS} {l : Addr} {xs : List V} {d : PyData} (hl : H l = some (.lst xs)) (ha : Ev ta σ H (.ref l)) (h : EvD K te σ H d) (hz : xs.length < 100000) (k : ∀ v H1, Ex H H1 → Dt K H1 v d → tz D σ (upd H1 l (.lst (xs ++ [v])))) :
    tSeq (tDrop (tBM K "list" rAppend ta (tCons te tNil))) tz D σ H := s_appD (D := { D with nx := tz D }) hl ha h hz k
end
section
variable {K : PySem.W.Frag} {σ : L2.St} {H : Hp} {ta tb : TE} {ds es : List PyData}
theorem ev_neFL {a : Addr} {ys : List V} (ha : EvF K ta σ H ds) (hb : Ev tb σ H (.ref a)) (hs : SqL K H a ys) (hy : DtAll K H ys es) (sd : SeqAt.shaped (.list ds) = true) (se : SeqAt.shaped (.list es) = true) : Ev (tOp (rNeD K) ta tb) σ H (.bl (!PyData.eqv (.list ds) (.list es))) := fun H1 e1 Q q =>
  ha H1 e1 _ fun p xs H2 _ e2 hp hx => hb H2 (e1.trans e2) _ fun H3 e3 => ⟨_, _, .lst (sq_of (e3 p _ hp)) (dta_dp (dta_ex e3 hx)), .lst (ex_l ((e1.trans e2).trans e3) hs) (dta_dp (dta_ex ((e1.trans e2).trans e3) hy)), sd, se, q H3 (e2.trans e3)⟩
theorem ev_eqFL {a : Addr} {ys : List V} (ha : EvF K ta σ H ds) (hb : Ev tb σ H (.ref a)) (hs : SqL K H a ys) (hy : DtAll K H ys es) (sd : SeqAt.shaped (.list ds) = true) (se : SeqAt.shaped (.list es) = true) : Ev (tOp (rEqD K) ta tb) σ H (.bl (PyData.eqv (.list ds) (.list es))) := fun H1 e1 Q q =>
  ha H1 e1 _ fun p xs H2 _ e2 hp hx => hb H2 (e1.trans e2) _ fun H3 e3 => ⟨_, _, .lst (sq_of (e3 p _ hp)) (dta_dp (dta_ex e3 hx)), .lst (ex_l ((e1.trans e2).trans e3) hs) (dta_dp (dta_ex ((e1.trans e2).trans e3) hy)), sd, se, q H3 (e2.trans e3)⟩
theorem ev_neLF {a : Addr} {xs : List V} (ha : Ev ta σ H (.ref a)) (hs : SqL K H a xs) (hx : DtAll K H xs ds) (hb : EvF K tb σ H es) (sd : SeqAt.shaped (.list ds) = true) (se : SeqAt.shaped (.list es) = true) : Ev (tOp (rNeD K) ta tb) σ H (.bl (!PyData.eqv (.list ds) (.list es))) := fun H1 e1 Q q =>
  ha H1 e1 _ fun H2 e2 => hb H2 (e1.trans e2) _ fun r ys H3 _ e3 hr hy => ⟨_, _, .lst (ex_l ((e1.trans e2).trans e3) hs) (dta_dp (dta_ex ((e1.trans e2).trans e3) hx)), .lst (sq_of hr) (dta_dp hy), sd, se, q H3 (e2.trans e3)⟩
end
section
variable {K : PySem.W.Frag}
theorem q_parFF {σ : L2.St} {H : Hp} {D : Ends} {tz : TS} {ta tb : TE} {i j : Nat} {ds es : List PyData} (h1 : EvF K ta σ H ds) (h2 : ∀ H1, Ex H H1 → EvF K tb σ H1 es) (k : ∀ p xs q ys H2, Ex H H2 → H2 p = some (.lst xs) → DtAll K H2 xs ds → H2 q = some (.lst ys) → DtAll K H2 ys es → tz D ((σ.set i (some (.ref p))).set j (some (.ref q))) H2) : tSeq (tPar i j (tCons ta (tCons tb tNil))) tz D σ H :=
  h1 H (Ex.refl H) _ fun p xs H1 np e1 hp hx => h2 H1 e1 H1 (Ex.refl H1) _ fun q ys H2 nq e2 hq hy => ⟨.ref p, .ref q, rfl, k p xs q ys H2 (e1.trans e2) (e2 p _ hp) (dta_ex e2 hx) hq hy⟩
theorem bools_shaped (a b : Bool) : SeqAt.shaped (.list [.bool a, .bool b]) = true := by cases a <;> cases b <;> decide +kernel
theorem ef_catLL {σ : L2.St} {H : Hp} {ta tb : TE} {p r : Addr} {xs ys : List V} {ds es : List PyData} (ha : Ev ta σ H (.ref p)) (hp : H p = some (.lst xs)) (hx : DtAll K H xs ds) (hb : Ev tb σ H (.ref r)) (hr : H r = some (.lst ys)) (hy : DtAll K H ys es) (hl : ds.length + es.length ≤ 100000) : EvF K (tOp rCat ta tb) σ H (ds ++ es) := fun H1 e Q q =>
  ha H1 e _ fun H2 e2 => hb H2 (e.trans e2) _ fun H3 e3 =>
    ⟨_, _, _, _, rfl, rfl, ((e.trans e2).trans e3) p _ hp, ((e.trans e2).trans e3) r _ hr, sz_of (by rw [dta_len hx, dta_len hy]; exact hl), fun n hn =>
      q n _ _ (fresh_back (e2.trans e3) hn) ((e2.trans e3).trans (Ex.new hn)) upd_same (dta_ex (Ex.new hn) (dta_app (dta_ex ((e.trans e2).trans e3) hx) (dta_ex ((e.trans e2).trans e3) hy)))⟩
theorem ev_intB {σ : L2.St} {H : Hp} {te : TE} {b : Bool} (h : Ev te σ H (.bl b)) : Ev (tCB (fun xs H Q => (∃ i, xs = [.int i] ∧ Q (.int i) H) ∨ ∃ k, xs = [.bl k] ∧ Q (.int (if k then 1 else 0)) H) (tCons te tNil)) σ H (.int (if b then 1 else 0)) := fun H1 e Q q => h H1 e _ fun H2 e2 => .inr ⟨b, rfl, q H2 e2⟩
end
section
variable {K : PySem.W.Frag}
theorem ev_sumF {σ : L2.St} {H : Hp} {ta : TE} {ns : List Int} (ha : EvF K ta σ H (ns.map PyData.int)) : Ev (tCB (rSum K) (tCons ta tNil)) σ H (.int ns.sum) := fun H1 e Q q =>
  ha H1 e _ fun p xs H2 _ e2 hp hx => ⟨p, ns, rfl, sq_of (by rw [dta_ints_inv hx] at hp; exact hp), q H2 e2⟩
end
/-! ### the program's curves and lots -/
theorem free_of {cells : List (Str × Addr)} {names : List (Str × NameKind)} (h : (names.all fun y => !(decide (y.2 = .free)) || (cells.lookup y.1).isSome) = true) : ∀ y ∈ names, y.2 = .free → ∃ c, cells.lookup y.1 = some c := fun y hy e => by
  have q := List.all_eq_true.mp h y hy
  rw [decide_eq_true e] at q
  exact Option.isSome_iff_exists.mp q
theorem tyx_ex {K : PySem.W.Frag} {H H' : Hp} {v : V} {t : String} (e : Ex H H') (ty : TyX K H v (.type t)) : TyX K H' v (.type t) := by
  cases ty with
  | base b =>
    cases b with
    | non => exact .base .non
    | bl x => exact .base (.bl x)
    | int i => exact .base (.int i)
    | str x => exact .base (.str x)
    | flt x => exact .base (.flt x)
    | lst h => exact .base (.lst (e _ _ h))
    | frz h => exact .base (.frz (e _ _ h))
    | tup h => exact .base (.tup (e _ _ h))
    | dK h => exact .base (.dK (e _ _ h))
    | dT h => exact .base (.dT (e _ _ h))
  | byt b => exact .byt b
  | set h => exact .set (e _ _ h)
  | kList h c => exact .kList h c
  | kTuple h c => exact .kTuple h c
  | kDict h c => exact .kDict h c
  | fTuple h => exact .fTuple (e _ _ h)
  | fDict h => exact .fDict (e _ _ h)
theorem ty_sqt {K : PySem.W.Frag} {H : Hp} {a : Addr} {xs : List V} (h : SqT K H a xs) : TyX K H (.ref a) (.type "tuple") := by
  rcases h with (h | ⟨o, h⟩) | ⟨o, its, n, hk, hc, _⟩
  · exact .base (.tup h)
  · exact .fTuple h
  · exact .kTuple hk hc
def risingL (ns : List Int) : Bool := (List.range (min ns.length (ns.drop 1).length)).all fun i => decide (ns.getD i 0 < (ns.drop 1).getD i 0)
def curve2 : V → V → Bool
  | .int m, .int d => decide (1 ≤ d) && decide (d ≤ 6) && (decide (d < m) && decide (m ≤ 9))
  | _, _ => false
def curveB : List V → Bool
  | [x, y] => curve2 x y
  | _ => false
def okC (m d : Int) : Prop := 1 ≤ d ∧ d ≤ 6 ∧ d < m ∧ m ≤ 9
theorem cut1 (xs : List V) : cutV xs (some 1) none = xs.drop 1 := by
  unfold cutV
  rw [show HT.sIx xs.length 0 (some 1) = min 1 xs.length from HT.sIx_nat xs.length 0 1, HT.sIx_none]
  cases xs with
  | nil => rfl
  | cons x r =>
    rw [show min 1 (x :: r).length = 1 by rw [List.length_cons]; omega]
    show List.take ((x :: r).length - 1) r = r
    rw [List.length_cons, Nat.add_sub_cancel, List.take_length]
section
variable {P : Program} {w : World} {K : PySem.W.Frag} {mg : Str → Option Value} {base : Heap}
/-- what a thing is handed in as: its type, its items' types where it is a tuple -/
def Typed (K : PySem.W.Frag) (H : Hp) (v : V) : Prop := ∃ t, t ∈ tyNames ∧ TyX K H v (.type t)
theorem Typed.ex {H H' : Hp} {v : V} (e : Ex H H') (h : Typed K H v) : Typed K H' v := by
  obtain ⟨t, ht, h⟩ := h
  exact ⟨t, ht, tyx_ex e h⟩
theorem typed_int {H : Hp} {i : Int} : Typed K H (.int i) := ⟨"int", by decide, .base (.int i)⟩
theorem ev_wholeT {σ : L2.St} {H : Hp} {te : TE} {v : V} {E : XK} (h : Ev te σ H v) (ht : Typed K H v) : ∃ b, (b = true ↔ ∃ i, v = .int i) ∧ Ev (tCall (spWhole K) [] E (tCons te tNil)) σ H (.bl b) := by
  obtain ⟨t, h1, h2⟩ := ht
  refine ⟨t == "int", ⟨fun e => ty_int_inv h2 (eq_of_beq e), fun e => ?_⟩, ev_whole h h1 fun H1 e => tyx_ex e h2⟩
  obtain ⟨i, rfl⟩ := e
  rw [ty_of_int h2]
  rfl
end
section
variable {P : Program} {w : World} {K : PySem.W.Frag} {mg : Str → Option Value} {base : Heap}
/-! is_curve -/
def ThC (K : PySem.W.Frag) (H : Hp) (v : V) (b : Bool) : Prop := (∃ t, t ∈ tyNames ∧ t ≠ "tuple" ∧ TyX K H v (.type t) ∧ b = false) ∨ ∃ a xs, v = .ref a ∧ SqT K H a xs ∧ (∀ y ∈ xs, Typed K H y) ∧ b = curveB xs
def spIsC (K : PySem.W.Frag) : Sp := fun vs H Q _ => ∃ (v : V) (b : Bool), vs = [v] ∧ ThC K H v b ∧ ∀ H2, Ex H H2 → Q (.bl b) H2
def tupGood : Bool := tyNames.all fun t => decide (kitB t "tuple" = some (t == "tuple"))
theorem tup_good : tupGood = true := by decide +kernel
theorem ty_tup {t : String} (h : t ∈ tyNames) : kitB t "tuple" = some (t == "tuple") := of_decide_eq_true (List.all_eq_true.mp tup_good t h)
theorem okk_is_curve {f fw : Addr} {fd fdw : FuncData} {k : Nat} {t1 t2 : Tok} (D : Df K mg "is_curve" s_is_curve ["thing"] f fd) (D_is_whole : Df K mg "is_whole" s_is_whole ["thing"] fw fdw) (B : Bt mg) (c_MOST_DEEP : mg "MOST_DEEP" = some (.int 6 t1)) (c_MOST_CORNERS : mg "MOST_CORNERS" = some (.int 9 t2)) : FnOk P w K mg base CX0 (k + 2) f fd ["thing"] (spIsC K) := by
  have G_is_whole : FnOk P w K mg base CX0 (k + 1) fw fdw ["thing"] (spWhole K) := okk_is_whole D_is_whole B
  refine D.F.ok sc_is_curve (fun vs H Q E h => ?_) (fun cdv A outer s H vs Q E hr h => ?_)
  · obtain ⟨a, ns, rfl, _⟩ := h
    rfl
  · obtain ⟨v, b, rfl, hv, q⟩ := h
    refine ⟨_, (pss_cons (ps_if (PW.pt (pw_or (pt_not (pt_val (pe_callB (show CallR _ _ (rIsi K) from call_isi) (by rfl) B.isinstance_ (by decide +kernel) (pa_cons (pv 0) (pa_cons (pe_bltn (v := .ty "tuple") (by rfl) B.tuple_ (by decide +kernel) rfl) pa_nil))))) (pw_or1 (pt_cmpR op_ne (pe_callB (show CallR _ _ (rLenS K) from call_len_seq) (by rfl) B.len_ (by decide +kernel) (pa_cons (pv 0) pa_nil)) pe_int (nomark _)))))   (pss_one (ps_ret pe_bl))   pss_nil)  (pss_cons (ps_asg (pv 0) (pg_tup (by rfl) (pgs_cons (pg_name (i := 1) sc_is_curve.nd rfl (.inl rfl)) (pgs_cons (pg_name (i := 2) sc_is_curve.nd rfl (.inl rfl)) pgs_nil))))  (pss_cons (ps_if (PW.pt (pw_or (pt_not (pt_val (pe_call G_is_whole (hr.mono (by omega)) (by rfl) D_is_whole.g D_is_whole.F.kp D_is_whole.b .nil pass0 (pa_cons (pv 1) pa_nil)))) (pw_or1 (pt_not (pt_val (pe_call G_is_whole (hr.mono (by omega)) (by rfl) D_is_whole.g D_is_whole.F.kp D_is_whole.b .nil pass0 (pa_cons (pv 2) pa_nil)))))))   (pss_one (ps_ret pe_bl))   pss_nil)  (pss_one (ps_ret (pe_and (pe_chain op_le op_le pe_int (pv 2) (pe_glob (v := .int 6) rfl c_MOST_DEEP ⟨_, rfl⟩)) (pe_one (pe_chain op_lt op_le (pv 2) (pv 1) (pe_glob (v := .int 9) rfl c_MOST_CORNERS ⟨_, rfl⟩))))))))), ?_⟩
    rcases hv with ⟨t, ht, hnt, ty, rfl⟩ | ⟨a, xs, rfl, hS, hty, rfl⟩
    · have e0 : (t == "tuple") = false := beq_eq_false_iff_ne.mpr hnt
      refine q_when (b := true) (fun H1 e1 Q' q' => ?_) (fun _ H1 e1 => s_ret ev_c fun H2 e2 => q H2 (e1.trans e2)) (fun hb => by cases hb)
      refine (et_not (et_B (ev_isi (K := K) (ev_var rfl) ev_c (fun H2 e2 => tyx_ex e2 ty) (ty_tup ht)))) H1 e1 _ fun H2 e2 => ?_
      rw [e0]
      exact iteT (q' H2 e2)
    · by_cases h2 : xs.length = 2
      · obtain ⟨x, y, rfl⟩ : ∃ x y, xs = [x, y] := by
          match xs, h2 with
          | [x, y], _ => exact ⟨x, y, rfl⟩
        refine q_when (b := false) (et_is (et_or (et_not (et_B (ev_isi (K := K) (ev_var rfl) ev_c (fun H2 e2 => tyx_ex e2 (ty_sqt hS)) (ty_tup (t := "tuple") (by decide))))) (fun _ => et_test (ev_op (fun H1 e1 Q' q' => ⟨_, rfl, a, [x, y], rfl, .inr (ex_t e1 hS), q' H1 (Ex.refl H1)⟩) ev_c (rv_ne rfl)))) rfl) (fun hb => by cases hb) (fun _ H1 e1 => ?_)
        refine ⟨_, rfl, a, [x, y], rfl, ex_t e1 hS, rfl, _, _, rfl, _, _, rfl, rfl, ?_⟩
        obtain ⟨b1, hb1, w1⟩ := ev_wholeT (K := K) (σ := [some (.ref a), some x, some y]) (te := tVar 1) (E := E0) (ev_var rfl) ((hty x (by simp)).ex e1)
        obtain ⟨b2, hb2, w2⟩ := ev_wholeT (K := K) (σ := [some (.ref a), some x, some y]) (te := tVar 2) (E := E0) (ev_var rfl) ((hty y (by simp)).ex e1)
        refine q_when (et_or (et_not (et_B w1)) (fun _ => et_not (et_B w2))) (fun hb H2 e2 => ?_) (fun hb H2 e2 => ?_)
        · refine s_ret ev_c fun H3 e3 => ?_
          have hc : curveB [x, y] = false := by
            show curve2 x y = false
            cases x with
            | int i =>
              cases y with
              | int j =>
                rw [hb1.mpr ⟨i, rfl⟩, hb2.mpr ⟨j, rfl⟩] at hb
                cases hb
              | _ => rfl
            | _ => rfl
          rw [hc] at q
          exact q H3 ((e1.trans e2).trans e3)
        · have hb3 : b1 = true ∧ b2 = true := by
            cases b1 <;> cases b2 <;> first | exact ⟨rfl, rfl⟩ | cases hb
          obtain ⟨i, rfl⟩ := hb1.mp hb3.1
          obtain ⟨j, rfl⟩ := hb2.mp hb3.2
          refine s_ret (ev_andV (ev_chain ev_c (ev_var rfl) ev_c rv_I0 rv_I0) (fun _ => ev_chain (ev_var rfl) (ev_var rfl) ev_c rv_I0 rv_I0)) fun H3 e3 => ?_
          exact q H3 ((e1.trans e2).trans e3)
      · have hc : curveB xs = false := by
          match xs with
          | [] => rfl
          | [_] => rfl
          | [_, _] => exact absurd rfl h2
          | _ :: _ :: _ :: _ => rfl
        rw [hc] at q
        refine q_when (b := true) (et_is (et_or (et_not (et_B (ev_isi (K := K) (ev_var rfl) ev_c (fun H2 e2 => tyx_ex e2 (ty_sqt hS)) (ty_tup (t := "tuple") (by decide))))) (fun _ => et_test (ev_op (fun H1 e1 Q' q' => ⟨_, rfl, a, xs, rfl, .inr (ex_t e1 hS), q' H1 (Ex.refl H1)⟩) ev_c (rv_ne rfl)))) ?_) (fun _ H1 e1 => s_ret ev_c fun H2 e2 => q H2 (e1.trans e2)) (fun hb => by cases hb)
        rw [dec_int, decide_eq_false (show ¬ ((xs.length : Int) = 2) by omega)]
        rfl
end
section
variable {P : Program} {w : World} {K : PySem.W.Frag} {mg : Str → Option Value} {base : Heap}
/-! need_curve, of curves -/
def spNeedC (K : PySem.W.Frag) : Sp := fun vs H Q _ => ∃ (m d : Int), DtAll K H vs [curveD m d] ∧ okC m d ∧ ∀ H2, Ex H H2 → Q .non H2
theorem dt_curve {H : Hp} {v : V} {m d : Int} (h : Dt K H v (curveD m d)) : ∃ a, v = .ref a ∧ SqT K H a [.int m, .int d] := by
  cases h with
  | tup hs hx =>
    cases hx with
    | cons h1 h2 =>
      cases h1
      cases h2 with
      | cons h3 h4 =>
        cases h3
        cases h4
        exact ⟨_, rfl, hs⟩
theorem curveB_ok {m d : Int} (h : okC m d) : curveB [.int m, .int d] = true := by
  obtain ⟨h1, h2, h3, h4⟩ := h
  show (decide (1 ≤ d) && decide (d ≤ 6) && (decide (d < m) && decide (m ≤ 9))) = true
  rw [decide_eq_true h1, decide_eq_true h2, decide_eq_true h3, decide_eq_true h4]
  rfl
theorem okk_need_curve {f fc fw : Addr} {fd fdc fdw : FuncData} {k : Nat} {t1 t2 : Tok} (D : Df K mg "need_curve" s_need_curve ["curve"] f fd) (D_is_curve : Df K mg "is_curve" s_is_curve ["thing"] fc fdc) (D_is_whole : Df K mg "is_whole" s_is_whole ["thing"] fw fdw) (B : Bt mg) (c_MOST_DEEP : mg "MOST_DEEP" = some (.int 6 t1)) (c_MOST_CORNERS : mg "MOST_CORNERS" = some (.int 9 t2)) : FnOk P w K mg base CX0 (k + 3) f fd ["curve"] (spNeedC K) := by
  have G_is_curve : FnOk P w K mg base CX0 (k + 2) fc fdc ["thing"] (spIsC K) := okk_is_curve D_is_curve D_is_whole B c_MOST_DEEP c_MOST_CORNERS
  refine D.F.ok sc_need_curve (fun vs H Q E h => ?_) (fun cdv A outer s H vs Q E hr h => ?_)
  · obtain ⟨m, d, h, _⟩ := h
    rw [dta_len h]
    rfl
  · obtain ⟨m, d, h, hc, q⟩ := h
    cases h with
    | cons h1 h2 =>
    cases h2
    obtain ⟨a, rfl, hS⟩ := dt_curve h1
    refine ⟨_, (pss_one (ps_if (pt_not (pt_val (pe_call G_is_curve (hr.mono (by omega)) (by rfl) D_is_curve.g D_is_curve.F.kp D_is_curve.b .nil pass0 (pa_cons (pv 0) pa_nil))))   (pss_one ps_never)   pss_nil)), ?_⟩
    refine s_when (b := false) (et_not (et_B (b := true) (fun H1 e1 Q' q' => ⟨_, rfl, _, _, rfl, .inr ⟨a, _, rfl, ex_t e1 hS, ?_, (curveB_ok hc).symm⟩, fun H2 e2 => q' H2 e2⟩))) (fun hb => by cases hb) (fun _ H1 e1 => q H1 e1)
    intro y hy
    rcases List.mem_cons.mp hy with rfl | hy
    · exact typed_int
    rcases List.mem_cons.mp hy with rfl | hy
    · exact typed_int
    · cases hy
theorem ev_needC {σ : L2.St} {H : Hp} {te : TE} {m d : Int} {E : XK} (h : EvD K te σ H (curveD m d)) (hc : okC m d) : Ev (tCall (spNeedC K) [] E (tCons te tNil)) σ H .non := fun H1 e Q q =>
  h H1 e _ fun v H2 e2 hv => ⟨m, d, .cons hv .nil, hc, fun H3 e3 => q H3 (e2.trans e3)⟩
end
/-! ### all curves -/
def curvesAll : List (Int × Int) := (List.range 6).flatMap fun i => (List.range (8 - i)).map fun (j : Nat) => ((i : Int) + 2 + (j : Int), (i : Int) + 1)
theorem curve_mem {m d : Int} (h : okC m d) : (m, d) ∈ curvesAll := by
  obtain ⟨h1, h2, h3, h4⟩ := h
  refine List.mem_flatMap.mpr ⟨(d - 1).toNat, List.mem_range.mpr (by omega), List.mem_map.mpr ⟨(m - d - 1).toNat, List.mem_range.mpr (by omega), ?_⟩⟩
  refine Prod.ext ?_ ?_
  · show ((d - 1).toNat : Int) + 2 + ((m - d - 1).toNat : Int) = m
    omega
  · show ((d - 1).toNat : Int) + 1 = d
    omega
theorem curve_all {f : Int × Int → Bool} (h : curvesAll.all f = true) {m d : Int} (hc : okC m d) : f (m, d) = true := List.all_eq_true.mp h _ (curve_mem hc)
/-! ### a comprehension of two clauses: a list's items, for each a range -/
section
variable {K : PySem.W.Frag} {σ : L2.St} {H : Hp} {te tl : TE} {ds : List PyData}
theorem tyes_go {F G : Hp → Prop} (h : F H) : tYes σ H fun b H3 => if b = true then F H3 else G H3 := by
  show (if true = true then F H else G H)
  exact iteT h
theorem ef_lc2 {a : Addr} {xs : List V} {ta : TA} {j j1 : Nat} {vs vs1 : List Nat} (lo : PyData → Int) (hi : Int) (g : PyData → Int → PyData) (h : Ev tl σ H (.ref a)) (hx : SqL K H a xs) (hd : DtAll K H xs ds) (hz : (ds.flatMap fun d => (upTo (lo d) hi).map (g d)).length < 50000)
    (hw : ∀ x, wipe ((wipe σ vs).set j (some x)) vs = wipe σ vs) (hw1 : ∀ x y, wipe ((wipe ((wipe σ vs).set j (some x)) vs1).set j1 (some y)) vs1 = wipe ((wipe σ vs).set j (some x)) vs1)
    (hb : ∀ d ∈ ds, -10000 ≤ lo d ∧ lo d ≤ 10000 ∧ -10000 ≤ hi ∧ hi ≤ 10000)
    (ha : ∀ (d : PyData) (x : V) H1, Ex H H1 → d ∈ ds → Dt K H1 x d → EvA ta ((wipe σ vs).set j (some x)) H1 [.int (lo d), .int hi])
    (he : ∀ (d : PyData) (x : V) (i : Int) H1, Ex H H1 → d ∈ ds → Dt K H1 x d → EvD K te ((wipe ((wipe σ vs).set j (some x)) vs1).set j1 (some (.int i))) H1 (g d i)) :
    EvF K (tLc2 (iList K tl) (gName j) tYes (iRng2 ta) (gName j1) tYes te vs vs1) σ H (ds.flatMap fun d => (upTo (lo d) hi).map (g d)) := fun H0 e Q q => h H0 e _ fun H1 e1 => by
  have e01 := e.trans e1
  refine ⟨a, rfl, ⟨xs, ex_l e01 hx⟩, fun Dl hD => ⟨fun i n H' => n = xs.length - i ∧ i ≤ xs.length ∧ Cd K H1 Dl ((ds.take i).flatMap fun d => (upTo (lo d) hi).map (g d)) H', ⟨xs.length, by simp, Nat.zero_le _, hD, Ex.new hD, [], upd_same, .nil⟩, ?_⟩⟩
  rintro i n H' ⟨rfl, hile, hC⟩
  have hq : SqL K H' a xs := ex_l (e01.trans hC.2.1) hx
  by_cases hlt : i < xs.length
  · refine .inr ⟨⟨xs, xs[i], hq, by simp [hlt]⟩, fun H'' => Cd K H1 Dl ((ds.take (i + 1)).flatMap fun d => (upTo (lo d) hi).map (g d)) H'', fun H'' p => ⟨xs.length - (i + 1), by omega, rfl, hlt, p⟩, fun x H'' y => ?_⟩
    obtain ⟨e2, y⟩ := y
    subst e2
    have hxi := y xs hq
    obtain ⟨d, hd1, hd2⟩ := dta_get (dta_ex (e01.trans hC.2.1) hd) hxi
    have hdm := List.mem_of_getElem? hd1
    have hbd := hb d hdm
    have hext : ((ds.take (i + 1)).flatMap fun d => (upTo (lo d) hi).map (g d)) = ((ds.take i).flatMap fun d => (upTo (lo d) hi).map (g d)) ++ (upTo (lo d) hi).map (g d) := flat_succ hd1
    have hbig : ((ds.take (i + 1)).flatMap fun d => (upTo (lo d) hi).map (g d)).length < 50000 := Nat.lt_of_le_of_lt (flat_take _ _ _) hz
    rw [hext] at hbig
    rw [hext]
    refine ⟨hw x, tyes_go ?_⟩
    refine (ha d x H'' (e01.trans hC.2.1) hdm hd2) H'' (Ex.refl _) _ fun H4 e4 => ⟨lo d, hi, rfl, ⟨by omega, by omega, by omega, by omega⟩, fun k n H5 => n = (hi - lo d).toNat - k ∧ k ≤ (hi - lo d).toNat ∧ Cd K H1 Dl (((ds.take i).flatMap fun d => (upTo (lo d) hi).map (g d)) ++ ((upTo (lo d) hi).take k).map (g d)) H5, ⟨_, rfl, Nat.zero_le _, ?_⟩, ?_⟩
    · obtain ⟨p1, p2, acc, p3, p4⟩ := hC
      exact ⟨p1, p2.trans e4, acc, e4 _ _ p3, by rw [List.take_zero, List.map_nil, List.append_nil]; exact dta_ex e4 p4⟩
    · rintro k n H5 ⟨rfl, hkle, hC5⟩
      by_cases hk : k < (hi - lo d).toNat
      · refine .inr ⟨hk, fun H6 => Cd K H1 Dl (((ds.take i).flatMap fun d => (upTo (lo d) hi).map (g d)) ++ ((upTo (lo d) hi).take (k + 1)).map (g d)) H6, fun H6 p => ⟨(hi - lo d).toNat - (k + 1), by omega, rfl, hk, p⟩, fun y H6 hy => ?_⟩
        obtain ⟨e6, hy⟩ := hy
        subst e6
        subst hy
        obtain ⟨p1, p2, acc, p3, p4⟩ := hC5
        have hd5 := (dta_get (dta_ex (e01.trans p2) hd) hxi)
        obtain ⟨d', hd1', hd2'⟩ := hd5
        rw [hd1] at hd1'
        cases hd1'
        refine ⟨hw1 x _, tyes_go ?_⟩
        refine (he d x _ H6 (e01.trans p2) hdm hd2') H6 (Ex.refl _) _ fun v H7 e7 hv => ⟨acc, e7 _ _ p3, sz_lt ?_, p1, Ex.mut (p2.trans e7) p1, _, upd_same, ?_⟩
        · rw [dta_len p4, List.length_append, List.length_map, List.length_take]
          rw [List.length_append, List.length_map] at hbig
          have := Nat.min_le_right k (upTo (lo d) hi).length
          omega
        · rw [List.take_add_one, upTo_get hk, List.map_append, ← List.append_assoc]
          exact dta_tx (tx_lst (e7 _ _ p3)) (dta_app (dta_ex e7 p4) (dta_one hv))
      · have ek : k = (hi - lo d).toNat := by omega
        subst ek
        refine .inl ⟨Nat.le_refl _, ?_⟩
        rw [List.take_of_length_le (l := upTo (lo d) hi) (by rw [upTo_len]; exact Nat.le_refl _)] at hC5
        exact hC5
  · have ei : i = xs.length := by omega
    subst ei
    obtain ⟨p1, p2, acc, p3, p4⟩ := hC
    rw [List.take_of_length_le (by rw [dta_len hd]; exact Nat.le_refl _)] at p4
    exact .inl ⟨⟨xs, hq, Nat.le_refl _⟩, q Dl acc H' (fresh_back e1 p1) (e1.trans p2) p3 p4⟩
end
section
variable {P : Program} {w : World} {K : PySem.W.Frag} {mg : Str → Option Value} {base : Heap}
/-! the law's curve -/
def spCurve (K : PySem.W.Frag) : Sp := fun vs H Q _ => ∃ b, vs = [.ref b] ∧ BoxAt H b ∧ ∀ v m d H2, okC m d → Dt K H2 v (curveD m d) → BoxAt H2 b → Bk b H H2 → Q v H2
theorem okk_curve {f ft fm : Addr} {fd fdt fdm : FuncData} {k : Nat} (D : Df K mg "_law_curve" s__law_curve ["_law_box_here"] f fd) (D__law_take : Df K mg "_law_take" s__law_take ["_law_box_here", "_law_wide"] ft fdt) (D__law_more : Df K mg "_law_more" s__law_more ["_law_box_here"] fm fdm) (B : Bt mg) : FnOk P w K mg base CX0 (k + 3) f fd ["_law_box_here"] (spCurve K) := by
  have G__law_take : FnOk P w K mg base CX0 (k + 2) ft fdt ["_law_box_here", "_law_wide"] spTake := okk_take D__law_take D__law_more B
  refine D.F.ok sc__law_curve (fun vs H Q E h => ?_) (fun cdv A outer s H vs Q E hr h => ?_)
  · obtain ⟨b, rfl, _⟩ := h
    rfl
  · obtain ⟨b, rfl, hb, q⟩ := h
    refine ⟨_, (pss_cons (ps_set (i := 1) sc__law_curve.nd rfl (.inl rfl) (pe_op op_add pe_int (pe_call G__law_take (hr.mono (by omega)) (by rfl) D__law_take.g D__law_take.F.kp D__law_take.b .nil pass0 (pa_cons (pv 0) (pa_cons pe_int pa_nil)))))  (pss_one (ps_ret (pe_tup (pa_cons (pe_op op_add (pe_op op_add (pv 1) pe_int) (pe_call G__law_take (hr.mono (by omega)) (by rfl) D__law_take.g D__law_take.F.kp D__law_take.b .nil pass0 (pa_cons (pv 0) (pa_cons (pe_op op_sub pe_int (pv 1)) pa_nil)))) (pa_cons (pv 1) pa_nil)))))), ?_⟩
    refine q_asgK (K := K) (b := b) (ek_opI (f := fun i j => i + j) ev_c fun H1 e1 => ek_take rfl (hb.ex e1) ev_c (by decide) (by decide)) fun v d H1 hp hv hb1 x1 => ?_
    obtain ⟨r, rfl, r0, r1⟩ := hp
    cases hv
    refine (ek_opI (K := K) (b := b) (f := fun i j => i + j) (σ := [some (.ref b), some (.int (1 + r))]) (H := H1) (ta := tOp (rI0 fun i j => .int (i + j)) (tVar 1) (tC (.int 1))) (ev_op (ev_var rfl) ev_c rv_I0) fun H2 e2 => ek_take (wd := 9 - (1 + r)) rfl (hb1.ex e2) (ev_op ev_c (ev_var rfl) rv_I0) (by omega) (by omega)) _ fun v d H2 hp hv hb2 x2 => ?_
    obtain ⟨r', rfl, r0', r1'⟩ := hp
    cases hv
    refine ⟨_, rfl, sz_of (by show 2 ≤ 100000; decide), fun p hp => ?_⟩
    have e3 : Ex H2 (upd H2 p (.tup [.int (1 + r + 1 + r'), .int (1 + r)])) := Ex.new hp
    exact q _ (1 + r + 1 + r') (1 + r) _ ⟨by omega, by omega, by omega, by omega⟩ (.tup (st_of upd_same) (.cons (.int _) (.cons (.int _) .nil))) (hb2.ex e3) ((x1.trans x2).trans (bk_ex e3))
theorem q_curve {D : Ends} {tz : TS} {σ : L2.St} {H : Hp} {i j : Nat} {b : Addr} {E : XK} (hj : σ[j]? = some (some (.ref b))) (hb : BoxAt H b) (k : ∀ v m d H2, okC m d → Dt K H2 v (curveD m d) → BoxAt H2 b → Bk b H H2 → tz D (σ.set i (some v)) H2) : tSeq (tAsg (tCall (spCurve K) [] E (tCons (tVar j) tNil)) (gName i)) tz D σ H :=
  ⟨_, hj, b, rfl, hb, k⟩
end
theorem ef_of_el {K : PySem.W.Frag} {σ : L2.St} {H : Hp} {te : TE} {xs : List V} {ds : List PyData} (h : EvL te σ H xs) (hd : DtAll K H xs ds) : EvF K te σ H ds := fun H1 e Q q => h H1 e Q fun p H2 np e2 hp => q p xs H2 np e2 hp (dta_ex (e.trans e2) hd)
theorem cut_last (xs : List V) (x : V) : cutV (xs ++ [x]) none (some (-1)) = xs := by
  unfold cutV
  rw [HT.sIx_none]
  have e : HT.sIx (xs ++ [x]).length (xs ++ [x]).length (some (-1)) = xs.length := by
    unfold HT.sIx
    simp
    omega
  rw [e]
  simp
theorem ints_lay : ∀ l : List Int, PyData.canLayAll0 (l.map PyData.int) = true
  | [] => rfl
  | i :: l => by
    show (PyData.canLay0 (.int i) && PyData.canLayAll0 (l.map PyData.int)) = true
    rw [ints_lay l]
    rfl
theorem lots_lay : ∀ ls : List (List Int), PyData.canLayAll0 (ls.map lotD) = true
  | [] => rfl
  | l :: ls => by
    show (PyData.canLayAll0 (l.map PyData.int) && PyData.canLayAll0 (ls.map lotD)) = true
    rw [ints_lay l, lots_lay ls]
    rfl
theorem ints_deep : ∀ l : List Int, PyData.depthAll (l.map PyData.int) = 0
  | [] => rfl
  | i :: l => by
    show max (PyData.depth (.int i)) (PyData.depthAll (l.map PyData.int)) = 0
    rw [ints_deep l]
    rfl
theorem lots_deep : ∀ ls : List (List Int), PyData.depthAll (ls.map lotD) ≤ 1
  | [] => Nat.zero_le _
  | l :: ls => by
    show max (PyData.depthAll (l.map PyData.int) + 1) (PyData.depthAll (ls.map lotD)) ≤ 1
    rw [ints_deep l]
    exact Nat.max_le.mpr ⟨Nat.le_refl _, lots_deep ls⟩
theorem lots_shaped (ls : List (List Int)) : SeqAt.shaped (.list (ls.map lotD)) = true := by
  show (PyData.canLayAll0 (ls.map lotD) && decide (PyData.depthAll (ls.map lotD) + 1 ≤ 64)) = true
  rw [lots_lay ls, decide_eq_true (by have := lots_deep ls; omega)]
  rfl
theorem eqv_ints : ∀ l : List Int, PyData.eqvAll (l.map PyData.int) (l.map PyData.int) = true
  | [] => rfl
  | i :: l => by
    show ((i == i) && PyData.eqvAll (l.map PyData.int) (l.map PyData.int)) = true
    rw [eqv_ints l, beq_self_eq_true]
    rfl
theorem eqv_lots : ∀ ls : List (List Int), PyData.eqvAll (ls.map lotD) (ls.map lotD) = true
  | [] => rfl
  | l :: ls => by
    show (PyData.eqvAll (l.map PyData.int) (l.map PyData.int) && PyData.eqvAll (ls.map lotD) (ls.map lotD)) = true
    rw [eqv_ints l, eqv_lots ls]
    rfl
theorem eqv_lotsL (ls : List (List Int)) : PyData.eqv (.list (ls.map lotD)) (.list (ls.map lotD)) = true := eqv_lots ls
theorem ints_shaped (l : List Int) : SeqAt.shaped (.list (l.map PyData.int)) = true := by
  show (PyData.canLayAll0 (l.map PyData.int) && decide (PyData.depthAll (l.map PyData.int) + 1 ≤ 64)) = true
  rw [ints_lay l, ints_deep l]
  rfl
theorem lot_shaped (l : List Int) : SeqAt.shaped (lotD l) = true := by
  show (PyData.canLayAll0 (l.map PyData.int) && decide (PyData.depthAll (l.map PyData.int) + 1 ≤ 64)) = true
  rw [ints_lay l, ints_deep l]
  rfl
theorem eqv_nil (ds : List PyData) : PyData.eqv (.list ds) (.list []) = ds.isEmpty := by
  cases ds <;> rfl
theorem eqv_ints2 : ∀ a b : List Int, PyData.eqvAll (a.map PyData.int) (b.map PyData.int) = decide (a = b)
  | [], [] => rfl
  | [], _ :: _ => rfl
  | _ :: _, [] => rfl
  | x :: a, y :: b => by
    show ((x == y) && PyData.eqvAll (a.map PyData.int) (b.map PyData.int)) = decide (x :: a = y :: b)
    rw [eqv_ints2 a b]
    by_cases h1 : x = y
    · subst h1
      by_cases h2 : a = b
      · subst h2
        simp
      · simp [h2]
    · simp [h1]
theorem eqv_lot (a b : List Int) : PyData.eqv (lotD a) (lotD b) = decide (a = b) := eqv_ints2 a b
theorem any_lot (ls : List (List Int)) (l : List Int) : (ls.map lotD).any (fun z => PyData.eqv z (lotD l)) = ls.any (fun z => decide (z = l)) := by
  rw [List.any_map]
  congr 1
  funext z
  exact eqv_lot z l
def hasL (p l : List Int) : Bool := (l.filter fun c => !p.contains c).isEmpty
section
variable {P : Program} {w : World} {K : PySem.W.Frag} {mg : Str → Option Value} {base : Heap}
def spHas (K : PySem.W.Frag) : Sp := fun vs H Q _ => ∃ (p l : List Int), DtAll K H vs [lotD p, lotD l] ∧ l.length ≤ 1000 ∧ ∀ H2, Ex H H2 → Q (.bl (hasL p l)) H2
theorem okk_has {f : Addr} {fd : FuncData} {k : Nat} (D : Df K mg "_law_has" s__law_has ["_law_pane", "_law_lot_here"] f fd) (B : Bt mg) : FnOk P w K mg base CX0 (k + 1) f fd ["_law_pane", "_law_lot_here"] (spHas K) := by
  refine D.F.ok sc__law_has (fun vs H Q E h => ?_) (fun cdv A outer s H vs Q E hr h => ?_)
  · obtain ⟨p, l, h, _⟩ := h
    rw [dta_len h]
    rfl
  · obtain ⟨p, l, h, hl, q⟩ := h
    cases h with
    | cons h1 h2 =>
    cases h2 with
    | cons h2 h3 =>
    cases h3
    obtain ⟨pa, rfl, hpa⟩ := dt_lot h1
    refine ⟨_, (pss_one (ps_ret (pe_cmpR (show OpR _ _ (rEqD K) from op_eqD hr.units) (pe_lc (own := [("_law_corner", 2)]) rfl sc__law_has.nd (pi_tup (pv 1)) (blkOk_by (own := [("_law_corner", 2)]) (N := N__law_has) (sc := defScope s__law_has) (by decide +kernel)) (fun _ _ _ _ _ => (pg_name (i := 2) sc__law_has.nd rfl (.inl rfl))) (fun _ _ _ _ _ => pts_one (pt_cmpR (show OpR _ _ (rIn K true) from op_notIn_seq) (pv 2) (pv 0) (by rfl))) (fun _ _ _ _ _ => (pv 2))) (pe_lst pa_nil) (nomark _)))), ?_⟩
    refine s_ret (v := .bl (hasL p l)) (ev_is (ev_eqFF (K := K) (ds := (l.filter fun c => !p.contains c).map PyData.int) (es := []) (ef_is (ef_lcT (ds := l.map PyData.int) (fun d => !p.contains (unint d)) (fun d => d) (ed_var rfl h2) (by rw [List.length_map]; omega) (fun _ => rfl) (fun d x H1 e1 hm hd => ?_) (fun d x H1 e1 hm hd _ => ed_var rfl hd)) (filt_ints fun _ => rfl)) (ef_lst eb_nil (by decide)) (ints_shaped _) (by decide +kernel)) ?_) fun H1 e1 => q H1 e1
    · obtain ⟨c, _, rfl⟩ := mem_ints hm
      cases hd
      refine et_is (et_test (ev_op (ev_var rfl) (ev_var rfl) (rv_niT (ex_t e1 hpa) rfl (flat_ints p)))) ?_
      rw [inV_ints]
      rfl
    · rw [eqv_nil]
      unfold hasL
      cases (l.filter fun c => !p.contains c) <;> rfl
theorem ev_has {σ : L2.St} {H : Hp} {ta tb : TE} {p l : List Int} {E : XK} (ha : EvD K ta σ H (lotD p)) (hb : EvD K tb σ H (lotD l)) (hl : l.length ≤ 1000) : Ev (tCall (spHas K) [] E (tCons ta (tCons tb tNil))) σ H (.bl (hasL p l)) := fun H1 e Q q =>
  (eb_cons ha (eb_cons hb eb_nil)) H1 e _ fun vs H2 e2 hvs => ⟨p, l, (by show DtAll K H2 (vs ++ []) _; rw [List.append_nil]; exact hvs), hl, fun H3 e3 => q H3 (e2.trans e3)⟩
end
section
variable {P : Program} {w : World} {K : PySem.W.Frag} {mg : Str → Option Value} {base : Heap}
theorem rv_inD {H : Hp} {x : V} {a : Addr} {xs : List V} {l : List Int} {ls : List (List Int)} (hx : Dt K H x (lotD l)) (hs : SqL K H a xs) (hd : DtAll K H xs (ls.map lotD)) : RV (rInD K) x (.ref a) H (.bl (ls.any fun z => decide (z = l))) := fun H1 e Q q =>
  ⟨lotD l, ls.map lotD, dt_dp (dt_ex e hx), .lst (ex_l e hs) (dta_dp (dta_ex e hd)), lot_shaped l, lots_shaped ls, by rw [any_lot]; exact q H1 (Ex.refl H1)⟩
end
/-! ### the defs of the text, by All -/
section
variable {P : Program} {w : World} {K : PySem.W.Frag} {mg : Str → Option Value} {base : Heap}
theorem ok_is_whole (L : All K mg) {k : Nat} : FnOk P w K mg base CX0 (k + 1) L.f_is_whole L.fd_is_whole ["thing"] (spWhole K) := okk_is_whole L.D_is_whole L.B
theorem ok_is_curve (L : All K mg) {k : Nat} : FnOk P w K mg base CX0 (k + 2) L.f_is_curve L.fd_is_curve ["thing"] (spIsC K) := okk_is_curve L.D_is_curve L.D_is_whole L.B L.c_MOST_DEEP L.c_MOST_CORNERS
theorem ok_need_curve (L : All K mg) {k : Nat} : FnOk P w K mg base CX0 (k + 3) L.f_need_curve L.fd_need_curve ["curve"] (spNeedC K) := okk_need_curve L.D_need_curve L.D_is_curve L.D_is_whole L.B L.c_MOST_DEEP L.c_MOST_CORNERS
theorem ev_need_curve {σ : L2.St} {H : Hp} {ta : TA} {m d : Int} {E : XK} (h : EvB K ta σ H [curveD m d]) (hc : okC m d) : Ev (tCall (spNeedC K) [] E ta) σ H .non := fun H1 e Q q =>
  h H1 e _ fun vs H2 e2 hv => ⟨m, d, (by show DtAll K H2 (vs ++ []) _; rw [List.append_nil]; exact hv), hc, fun H3 e3 => q H3 (e2.trans e3)⟩
/-- many, deep = curve -/
theorem q_unC {σ : L2.St} {H : Hp} {v : V} {m d : Int} {s i j : Nat} {D : Ends} {tz : TS} (hv : σ[s]? = some (some v)) (h : Dt K H v (curveD m d)) (k : tz D ((σ.set i (some (.int m))).set j (some (.int d))) H) : tSeq (tAsg (tVar s) (gTup K 2 (gCons (gName i) (gCons (gName j) gNil)))) tz D σ H := by
  obtain ⟨a, rfl, hS⟩ := dt_curve h
  exact ⟨_, hv, a, _, rfl, hS, rfl, _, _, rfl, _, _, rfl, rfl, k⟩
theorem ok__law_box (L : All K mg) {k : Nat} : FnOk P w K mg base CX0 (k + 1) L.f__law_box L.fd__law_box ["_law_script", "_law_k"] (spBox K) := okk_box L.D__law_box L.B
theorem ok__law_more (L : All K mg) {k : Nat} : FnOk P w K mg base CX0 (k + 1) L.f__law_more L.fd__law_more ["_law_box_here"] spMore := okk_more L.D__law_more L.B
theorem ok__law_take (L : All K mg) {k : Nat} : FnOk P w K mg base CX0 (k + 2) L.f__law_take L.fd__law_take ["_law_box_here", "_law_wide"] spTake := okk_take L.D__law_take L.D__law_more L.B
theorem ok__law_curve (L : All K mg) {k : Nat} : FnOk P w K mg base CX0 (k + 3) L.f__law_curve L.fd__law_curve ["_law_box_here"] (spCurve K) := okk_curve L.D__law_curve L.D__law_take L.D__law_more L.B
theorem ok__law_lots (L : All K mg) {k : Nat} : FnOk P w K mg base CX0 (k + 1) L.f__law_lots L.fd__law_lots ["_law_many", "_law_size"] (spLots K) := okk_lots L.D__law_lots L.B
theorem ev__law_lots {σ : L2.St} {H : Hp} {ta : TA} {m s : Int} {E : XK} (h : EvB K ta σ H [.int m, .int s]) (hp : 0 ≤ m ∧ m < 10 ∧ 0 ≤ s ∧ s < 10) : EvF K (tCall (spLots K) [] E ta) σ H ((lotsL m s.toNat).map lotD) := fun H1 e Q q =>
  h H1 e _ fun vs H2 e2 ha => by
    obtain ⟨v0, v1, rfl, h0, h1⟩ := dta2 ha
    obtain rfl := dt_int h0
    obtain rfl := dt_int h1
    exact ⟨m, s, rfl, hp.1, hp.2.1, hp.2.2.1, hp.2.2.2, fun p xs H3 np e3 hp hx => q p xs H3 (fresh_back e2 np) (e2.trans e3) hp hx⟩
theorem ok__law_panes (L : All K mg) {k : Nat} : FnOk P w K mg base CX0 (k + 2) L.f__law_panes L.fd__law_panes ["_law_curve_here"] (spPanes K) := okk_panes L.D__law_panes L.D__law_lots L.D__law_is_pane L.B
theorem ev__law_panes {σ : L2.St} {H : Hp} {ta : TA} {m d : Int} {E : XK} (h : EvB K ta σ H [curveD m d]) (hc : okC m d) : EvF K (tCall (spPanes K) [] E ta) σ H ((panesL m d).map lotD) := fun H1 e Q q =>
  h H1 e _ fun vs H2 e2 hv => by
    obtain ⟨_, _, _, _⟩ := id hc
    exact ⟨m, d, (by show DtAll K H2 (vs ++ []) _; rw [List.append_nil]; exact hv), by omega, by omega, by omega, by omega, fun p xs H3 np e3 hp hx => q p xs H3 (fresh_back e2 np) (e2.trans e3) hp hx⟩
theorem ok__law_has (L : All K mg) {k : Nat} : FnOk P w K mg base CX0 (k + 1) L.f__law_has L.fd__law_has ["_law_pane", "_law_lot_here"] (spHas K) := okk_has L.D__law_has L.B
theorem ev__law_has {σ : L2.St} {H : Hp} {ta : TA} {p l : List Int} {E : XK} (h : EvB K ta σ H [lotD p, lotD l]) (hl : l.length ≤ 1000) : Ev (tCall (spHas K) [] E ta) σ H (.bl (hasL p l)) := fun H1 e Q q =>
  h H1 e _ fun vs H2 e2 hvs => ⟨p, l, (by show DtAll K H2 (vs ++ []) _; rw [List.append_nil]; exact hvs), hl, fun H3 e3 => q H3 (e2.trans e3)⟩
end
/-! ### lots of things -/
def scanV (m : Int) : Int → List V → Bool
  | _, [] => true
  | z, .int i :: r => (decide (z ≤ i) && decide (i < m)) && scanV m (i + 1) r
  | _, _ :: _ => false
def lotV (m : Int) (xs : List V) : Bool := scanV m 0 xs
def lotL (m : Int) (l : List Int) : Bool := lotV m (l.map V.int)
section
variable {P : Program} {w : World} {K : PySem.W.Frag} {mg : Str → Option Value} {base : Heap}
theorem typed_ints {H : Hp} {l : List Int} : ∀ y ∈ l.map V.int, Typed K H y := fun y hy => by
  obtain ⟨i, _, rfl⟩ := List.mem_map.mp hy
  exact typed_int
/-- a thing: no lot of so many corners, or the lot l -/
def ThL (K : PySem.W.Frag) (H : Hp) (v : V) (m : Int) : Option (List Int) → Prop
  | none => (∃ t, t ∈ tyNames ∧ t ≠ "tuple" ∧ TyX K H v (.type t)) ∨ ∃ a xs, v = .ref a ∧ SqT K H a xs ∧ (∀ y ∈ xs, Typed K H y) ∧ lotV m xs = false
  | some l => Dt K H v (lotD l) ∧ lotL m l = true
theorem ThL.ex {H H' : Hp} {v : V} {m : Int} : ∀ {r : Option (List Int)}, Ex H H' → ThL K H v m r → ThL K H' v m r
  | none, e, .inl ⟨t, h1, h2, h3⟩ => .inl ⟨t, h1, h2, tyx_ex e h3⟩
  | none, e, .inr ⟨a, xs, h1, h2, h3, h4⟩ => .inr ⟨a, xs, h1, ex_t e h2, fun y hy => (h3 y hy).ex e, h4⟩
  | some _, e, h => ⟨dt_ex e h.1, h.2⟩
def spLotOf (K : PySem.W.Frag) : Sp := fun vs H Q _ => ∃ (v : V) (m : Int) (r : Option (List Int)), vs = [v, .int m] ∧ ThL K H v m r ∧ ∀ H2, Ex H H2 → Q (.bl r.isSome) H2
theorem ev_lotOf {σ : L2.St} {H : Hp} {ta tb : TE} {v : V} {m : Int} {r : Option (List Int)} {E : XK} (ha : Ev ta σ H v) (hb : Ev tb σ H (.int m)) (hv : ThL K H v m r) : Ev (tCall (spLotOf K) [] E (tCons ta (tCons tb tNil))) σ H (.bl r.isSome) := fun H1 e Q q =>
  ha H1 e _ fun H2 e2 => hb H2 (e.trans e2) _ fun H3 e3 => ⟨v, m, r, rfl, hv.ex ((e.trans e2).trans e3), fun H4 e4 => q H4 ((e2.trans e3).trans e4)⟩
theorem ok_is_lot_of (L : All K mg) {k : Nat} : FnOk P w K mg base CX0 (k + 2) L.f_is_lot_of L.fd_is_lot_of ["thing", "many"] (spLotOf K) := by
  have B := L.B
  have D_is_whole := L.D_is_whole
  have G_is_whole := ok_is_whole (P := P) (w := w) (base := base) L (k := 0)
  refine L.D_is_lot_of.F.ok sc_is_lot_of (fun vs H Q E h => ?_) (fun cdv A outer s H vs Q E hr h => ?_)
  · obtain ⟨v, m, r, rfl, _⟩ := h
    rfl
  · obtain ⟨v, m, r, rfl, hv, q⟩ := h
    have hcase : (∃ t, t ∈ tyNames ∧ t ≠ "tuple" ∧ TyX K H v (.type t) ∧ r.isSome = false) ∨ ∃ a xs, v = .ref a ∧ SqT K H a xs ∧ (∀ y ∈ xs, Typed K H y) ∧ lotV m xs = r.isSome := by
      cases r with
      | none =>
        rcases hv with ⟨t, h1, h2, h3⟩ | ⟨a, xs, h1, h2, h3, h4⟩
        · exact .inl ⟨t, h1, h2, h3, rfl⟩
        · exact .inr ⟨a, xs, h1, h2, h3, h4⟩
      | some l =>
        obtain ⟨a, rfl, hs⟩ := dt_lot hv.1
        exact .inr ⟨a, l.map V.int, rfl, hs, typed_ints, hv.2⟩
    generalize r.isSome = b at q hcase
    refine ⟨_, (pss_cons (ps_if (pt_not (pt_val (pe_callB (show CallR _ _ (rIsi K) from call_isi) (by rfl) B.isinstance_ (by decide +kernel) (pa_cons (pv 0) (pa_cons (pe_bltn (v := .ty "tuple") (by rfl) B.tuple_ (by decide +kernel) rfl) pa_nil)))))   (pss_one (ps_ret pe_bl))   pss_nil)  (pss_cons (ps_set (i := 2) sc_is_lot_of.nd rfl (.inl rfl) pe_int)  (pss_cons (ps_for PassesOwn.never rfl (pi_tup (pv 0)) (pg_name (i := 3) sc_is_lot_of.nd rfl (.inl rfl))   (pss_cons (ps_if (PW.pt (pw_or (pt_not (pt_val (pe_call G_is_whole (hr.mono (by omega)) (by rfl) D_is_whole.g D_is_whole.F.kp D_is_whole.b .nil pass0 (pa_cons (pv 3) pa_nil)))) (pw_or1 (pt_not (pt_chain op_le op_lt (pv 2) (pv 3) (pv 1))))))   (pss_one (ps_ret pe_bl))   pss_nil)  (pss_one (ps_set (i := 2) sc_is_lot_of.nd rfl (.inl rfl) (pe_op op_add (pv 3) pe_int)))))  (pss_one (ps_ret pe_bl))))), ?_⟩
    rcases hcase with ⟨t, ht, hnt, ty, rfl⟩ | ⟨a, xs, rfl, hS, hty, hb⟩
    · refine q_when (b := true) (et_is (et_not (et_B (ev_isi (K := K) (ev_var rfl) ev_c (fun H2 e2 => tyx_ex e2 ty) (ty_tup ht)))) ?_) (fun _ H1 e1 => s_ret ev_c fun H2 e2 => q H2 (e1.trans e2)) (fun hb => by cases hb)
      rw [beq_eq_false_iff_ne.mpr hnt]
      rfl
    · refine q_when (et_not (et_B (ev_isi (K := K) (ev_var rfl) ev_c (fun H2 e2 => tyx_ex e2 (ty_sqt hS)) (ty_tup (t := "tuple") (by decide))))) (fun hb => by cases hb) (fun _ H1 e1 => ?_)
      refine q_asg (v := .int 0) ev_c fun H2 e2 => ?_
      refine q_forT (xs := xs) (ev_var rfl) (ex_t (e1.trans e2) hS) (fun i σ' H' => ∃ (z : Int) (y3 : Option V), σ' = [some (.ref a), some (.int m), some (.int z), y3] ∧ Ex H H' ∧ scanV m z (xs.drop i) = b) (fun H3 e3 => ⟨0, _, rfl, (e1.trans e2).trans e3, hb⟩) (fun i σ' H' _ hw => ?_) (fun i x σ' H' hi hw => ?_) (fun σ' H' hw => ?_)
      · obtain ⟨z, y3, rfl, e', _⟩ := hw
        exact ex_t e' hS
      · obtain ⟨z, y3, rfl, e', hsc⟩ := hw
        have hxm := List.mem_of_getElem? hi
        have hdr : xs.drop i = x :: xs.drop (i + 1) := by
          obtain ⟨hlt, hx⟩ := List.getElem?_eq_some_iff.mp hi
          rw [List.drop_eq_getElem_cons hlt, hx]
        rw [hdr] at hsc
        obtain ⟨b1, hb1, w1⟩ := ev_wholeT (K := K) (σ := [some (.ref a), some (.int m), some (.int z), some x]) (te := tVar 3) (E := E0) (ev_var rfl) ((hty x hxm).ex e')
        cases b1 with
        | false =>
          have hf : b = false := by
            cases x with
            | int i => cases hb1.mpr ⟨i, rfl⟩
            | _ => exact hsc.symm
          subst hf
          exact q_when (b := true) (fun H1' e1' Q' q' => (et_not (et_B w1)) H1' e1' _ fun H2 e2 => iteT (q' H2 e2)) (fun _ H3 e3 => s_ret ev_c fun H4 e4 => q H4 ((e'.trans e3).trans e4)) (fun hb => by cases hb)
        | true =>
          obtain ⟨j, rfl⟩ := hb1.mp rfl
          refine q_when (et_or (et_not (et_B w1)) (fun _ => et_not (et_test (ev_chain (ev_var rfl) (ev_var rfl) (ev_var rfl) rv_I0 rv_I0)))) (fun hb H3 e3 => ?_) (fun hb H3 e3 => ?_)
          · refine s_ret ev_c fun H4 e4 => ?_
            have hf : b = false := by
              rw [← hsc]
              show ((decide (z ≤ j) && decide (j < m)) && _) = false
              have : (decide (z ≤ j) && decide (j < m)) = false := by cases h1 : decide (z ≤ j) <;> cases h2 : decide (j < m) <;> rw [h1, h2] at hb <;> first | rfl | cases hb
              rw [this]
              rfl
            rw [hf] at q
            exact q H4 ((e'.trans e3).trans e4)
          · refine s_asg (v := .int (j + 1)) (ev_op (ev_var rfl) ev_c rv_I0) fun H4 e4 => ⟨_, _, rfl, (e'.trans e3).trans e4, ?_⟩
            rw [← hsc]
            show _ = ((decide (z ≤ j) && decide (j < m)) && _)
            have : (decide (z ≤ j) && decide (j < m)) = true := by cases h1 : decide (z ≤ j) <;> cases h2 : decide (j < m) <;> rw [h1, h2] at hb <;> first | rfl | cases hb
            rw [this]
            rfl
      · obtain ⟨z, y3, rfl, e', hsc⟩ := hw
        rw [List.drop_length] at hsc
        have hf : b = true := hsc.symm
        rw [hf] at q
        exact s_ret ev_c fun H4 e4 => q H4 (e'.trans e4)
def spIsLot (K : PySem.W.Frag) : Sp := fun vs H Q _ => ∃ (v cv : V) (m d : Int) (r : Option (List Int)), vs = [v, cv] ∧ Dt K H cv (curveD m d) ∧ okC m d ∧ ThL K H v m r ∧ ∀ H2, Ex H H2 → Q (.bl r.isSome) H2
theorem ev_isLot {σ : L2.St} {H : Hp} {ta tb : TE} {v : V} {m d : Int} {r : Option (List Int)} {E : XK} (ha : Ev ta σ H v) (hb : EvD K tb σ H (curveD m d)) (hc : okC m d) (hv : ThL K H v m r) : Ev (tCall (spIsLot K) [] E (tCons ta (tCons tb tNil))) σ H (.bl r.isSome) := fun H1 e Q q =>
  ha H1 e _ fun H2 e2 => hb H2 (e.trans e2) _ fun cv H3 e3 hcv => ⟨v, cv, m, d, r, rfl, hcv, hc, hv.ex ((e.trans e2).trans e3), fun H4 e4 => q H4 ((e2.trans e3).trans e4)⟩
theorem ok_is_lot (L : All K mg) {k : Nat} : FnOk P w K mg base CX0 (k + 4) L.f_is_lot L.fd_is_lot ["thing", "curve"] (spIsLot K) := by
  have B := L.B
  have D_is_lot_of := L.D_is_lot_of
  have G_is_lot_of := ok_is_lot_of (P := P) (w := w) (base := base) L (k := 0)
  have D_need_curve := L.D_need_curve
  have G_need_curve := ok_need_curve (P := P) (w := w) (base := base) L (k := 0)
  refine L.D_is_lot.F.ok sc_is_lot (fun vs H Q E h => ?_) (fun cdv A outer s H vs Q E hr h => ?_)
  · obtain ⟨v, cv, m, d, r, rfl, _⟩ := h
    rfl
  · obtain ⟨v, cv, m, d, r, rfl, hcv, hc, hv, q⟩ := h
    refine ⟨_, (pss_cons (ps_expr (pe_call G_need_curve (hr.mono (by omega)) (by rfl) D_need_curve.g D_need_curve.F.kp D_need_curve.b .nil pass0 (pa_cons (pv 1) pa_nil)))  (pss_one (ps_ret (pe_call G_is_lot_of (hr.mono (by omega)) (by rfl) D_is_lot_of.g D_is_lot_of.F.kp D_is_lot_of.b .nil pass0 (pa_cons (pv 0) (pa_cons (pe_ix (show IxR _ (rIxT K) from ix_tup) (pv 1) pe_int (fun _ _ => rfl)) pa_nil)))))), ?_⟩
    refine q_drop (ev_need_curve (K := K) (eb_cons (ed_var rfl hcv) eb_nil) hc) fun H1 e1 => ?_
    exact s_ret (ev_lotOf (K := K) (ev_var rfl) (ev_int (K := K) (ed_ixT (ds := [.int m, .int d]) (ed_var rfl (dt_ex e1 hcv)) ev_c rfl)) (hv.ex e1)) fun H2 e2 => q H2 (e1.trans e2)
/-! ### odd blocks -/
def outA (l : List Int) : List Int := l.mapIdx fun i c => c - (i : Int)
def oddF (m : Int) (l : List Int) : Int := (((upTo 1 (m - (l.length : Int))).filter fun k => decide (((outA l).count k : Int) % 2 = 1)).length : Int)
theorem outA_data (l : List Int) : (l.map PyData.int).mapIdx (fun i d => PyData.int (unint d - (i : Int))) = (outA l).map PyData.int := by
  unfold outA
  rw [List.mapIdx_eq_zipIdx_map, List.mapIdx_eq_zipIdx_map, List.zipIdx_map, List.map_map, List.map_map]
  rfl
theorem ev_count {σ : L2.St} {H : Hp} {ta tb : TE} {p : Addr} {ns : List Int} {k : Int} (ha : Ev ta σ H (.ref p)) (hs : SqL K H p (ns.map V.int)) (hb : Ev tb σ H (.int k)) : Ev (tBM K "list" (rCntI K) ta (tCons tb tNil)) σ H (.int (ns.count k : Int)) := fun H1 e Q q =>
  ha H1 e _ fun H2 e2 => ⟨.inl ⟨rfl, _, ex_l (e.trans e2) hs⟩, hb H2 (e.trans e2) _ fun H3 e3 => ⟨p, ns, k, rfl, rfl, ex_l ((e.trans e2).trans e3) hs, q H3 (e2.trans e3)⟩⟩
def sp_odd_blocks (K : PySem.W.Frag) : Sp := fun vs H Q _ => ∃ (m : Int) (l : List Int), DtAll K H vs [.int m, lotD l] ∧ (l.length ≤ 1000 ∧ -1000 ≤ m ∧ m ≤ 1000) ∧ ∀ H2, Ex H H2 → Q (.int (oddF m l)) H2
theorem ev_odd_blocks {σ : L2.St} {H : Hp} {ta : TA} {E : XK} {m : Int} {l : List Int} (h : EvB K ta σ H [.int m, lotD l]) (hp : l.length ≤ 1000 ∧ -1000 ≤ m ∧ m ≤ 1000) : Ev (tCall (sp_odd_blocks K) [] E ta) σ H (.int (oddF m l)) := fun H1 e Q q => h H1 e _ fun vs H2 e2 ha => ⟨m, l, (by show DtAll K H2 (vs ++ []) _; rw [List.append_nil]; exact ha), hp, fun H3 e3 => q H3 (e2.trans e3)⟩
theorem ok_odd_blocks (L : All K mg) {k : Nat} : FnOk P w K mg base CX0 (k + 1) L.f_odd_blocks L.fd_odd_blocks ["many", "lot"] (sp_odd_blocks K) := by
  have B := L.B
  refine L.D_odd_blocks.F.ok sc_odd_blocks (fun vs H Q E h => ?_) (fun cdv A outer s H vs Q E hr h => ?_)
  · obtain ⟨m, l, h, _⟩ := h
    rw [dta_len h]
    rfl
  · obtain ⟨m, l, h, hp, q⟩ := h
    obtain ⟨v0, v1, rfl, h0, h1⟩ := dta2 h
    obtain rfl := dt_int h0
    refine ⟨_, (pss_cons (ps_set (i := 2) sc_odd_blocks.nd rfl (.inr rfl) (pe_lc (g := gTup K 2 (gCons (gName 3) (gCons (gName 4) gNil))) (own := [("at", 3), ("corner", 4)]) rfl sc_odd_blocks.nd (pi_enumT (by rfl) B.enumerate_ (pa_cons (pv 1) pa_nil)) (blkOk_by (own := [("at", 3), ("corner", 4)]) (N := N_odd_blocks) (sc := defScope s_odd_blocks) (by decide +kernel)) (fun _ _ _ _ _ => (pg_tup (by rfl) (pgs_cons (pg_name (i := 3) sc_odd_blocks.nd rfl (.inl rfl)) (pgs_cons (pg_name (i := 4) sc_odd_blocks.nd rfl (.inl rfl)) pgs_nil)))) (fun _ _ _ _ _ => pts_nil) (fun _ _ _ _ _ => (pe_op op_sub (pv 4) (pv 3)))))  (pss_one (ps_ret (pe_callB (show CallR _ _ (rLenS K) from call_len_seq) (by rfl) B.len_ (by decide +kernel) (pa_cons (pe_lc (own := [("k", 5)]) rfl sc_odd_blocks.nd (pi_range2 (by rfl) B.range_ (pa_cons pe_int (pa_cons (pe_op op_sub (pv 0) (pe_callB (show CallR _ _ (rLenS K) from call_len_seq) (by rfl) B.len_ (by decide +kernel) (pa_cons (pv 1) pa_nil))) pa_nil))) (blkOk_by (own := [("k", 5)]) (N := N_odd_blocks) (sc := defScope s_odd_blocks) (by decide +kernel)) (fun _ _ _ _ _ => (pg_name (i := 5) sc_odd_blocks.nd rfl (.inl rfl))) (fun _ _ _ _ _ => pts_one (pt_cmpR op_eq (pe_op op_mod (pe_bmK rfl PySem.F.plainAttrs_list PySem.F.slot_list_count PySem.F.type_list_count (show MtR _ _ (rCntI K) from mt_lcount) (pv 2) (pa_cons (pv 5) pa_nil)) pe_int) pe_int (nomark _))) (fun _ _ _ _ _ => (pv 5))) pa_nil))))), ?_⟩
    obtain ⟨hl, hm0, hm1⟩ := hp
    refine q_asgF (K := K) (ds := (outA l).map PyData.int) (ef_is (ef_lcET (ds := l.map PyData.int) (fun i d => PyData.int (unint d - (i : Int))) (ed_var rfl h1) (by rw [List.length_map]; omega) (fun _ _ => rfl) (fun i d x H1 e1 hi hd => ?_)) (outA_data l)) fun p xs H1 np e1 hp hx => ?_
    · obtain ⟨c, _, rfl⟩ := mem_ints (List.mem_of_getElem? hi)
      obtain rfl := dt_int hd
      exact ed_int (ev_op (ev_var rfl) (ev_var rfl) rv_I0)
    rw [dta_ints_inv hx] at hp
    refine s_ret (v := .int (oddF m l)) (ev_is (ev_lenF (K := K) (ef_lcR2 (fun k => decide (((outA l).count k : Int) % 2 = 1)) PyData.int (ea_cons ev_c (ea_cons (ev_op (ev_var rfl) (ev_lenT (K := K) (ds := l.map PyData.int) (ed_var rfl (dt_ex e1 h1))) rv_I0) ea_nil)) (by rw [List.length_map]; omega) (fun _ => rfl) (fun c H2 e2 _ _ => ?_) (fun c H2 e2 _ _ _ => ed_int (ev_var rfl)))) ?_) fun H2 e2 => q H2 (e1.trans e2)
    · exact et_test (ev_op (ev_op (ev_count (K := K) (ev_var rfl) (sq_of (e2 p _ hp)) (ev_var rfl)) ev_c (rv_I (by show (0 : Int) < 2; decide))) ev_c rv_eqI)
    · rw [List.length_map, List.length_map]
      rfl
def faceF (m d : Int) (l : List Int) : Bool := decide (oddF m l ≤ d - (l.length : Int))
def sp_has_pane (K : PySem.W.Frag) : Sp := fun vs H Q _ => ∃ (m d : Int) (l : List Int), DtAll K H vs [.int m, .int d, lotD l] ∧ (l.length ≤ 1000 ∧ -1000 ≤ m ∧ m ≤ 1000) ∧ ∀ H2, Ex H H2 → Q (.bl (faceF m d l)) H2
theorem ev_has_pane {σ : L2.St} {H : Hp} {ta : TA} {E : XK} {m d : Int} {l : List Int} (h : EvB K ta σ H [.int m, .int d, lotD l]) (hp : l.length ≤ 1000 ∧ -1000 ≤ m ∧ m ≤ 1000) : Ev (tCall (sp_has_pane K) [] E ta) σ H (.bl (faceF m d l)) := fun H1 e Q q => h H1 e _ fun vs H2 e2 ha => ⟨m, d, l, (by show DtAll K H2 (vs ++ []) _; rw [List.append_nil]; exact ha), hp, fun H3 e3 => q H3 (e2.trans e3)⟩
theorem ok_has_pane (L : All K mg) {k : Nat} : FnOk P w K mg base CX0 (k + 2) L.f_has_pane L.fd_has_pane ["many", "deep", "lot"] (sp_has_pane K) := by
  have B := L.B
  have D_odd_blocks := L.D_odd_blocks
  have G_odd_blocks := ok_odd_blocks (P := P) (w := w) (base := base) L (k := 0)
  refine L.D_has_pane.F.ok sc_has_pane (fun vs H Q E h => ?_) (fun cdv A outer s H vs Q E hr h => ?_)
  · obtain ⟨m, d, l, h, _⟩ := h
    rw [dta_len h]
    rfl
  · obtain ⟨m, d, l, h, hp, q⟩ := h
    obtain ⟨v0, v1, v2, rfl, h0, h1, h2⟩ := dta3 h
    obtain rfl := dt_int h0
    obtain rfl := dt_int h1
    refine ⟨_, (pss_one (ps_ret (pe_cmpR op_le (pe_call G_odd_blocks (hr.mono (by omega)) (by rfl) D_odd_blocks.g D_odd_blocks.F.kp D_odd_blocks.b .nil pass0 (pa_cons (pv 0) (pa_cons (pv 2) pa_nil))) (pe_op op_sub (pv 1) (pe_callB (show CallR _ _ (rLenS K) from call_len_seq) (by rfl) B.len_ (by decide +kernel) (pa_cons (pv 2) pa_nil))) (nomark _)))), ?_⟩
    refine s_ret (v := .bl (faceF m d l)) (ev_is (ev_op (ev_odd_blocks (K := K) (eb_cons (ed_int (ev_var rfl)) (eb_cons (ed_var rfl h2) eb_nil)) (by first | assumption | omega | (refine ⟨?_, ?_⟩ <;> first | assumption | omega) | (refine ⟨?_, ?_, ?_⟩ <;> first | assumption | omega) | (refine ⟨?_, ?_, ?_, ?_⟩ <;> first | assumption | omega) | (repeat' apply And.intro) <;> first | assumption | omega)) (ev_op (ev_var rfl) (ev_lenT (K := K) (ds := l.map PyData.int) (ed_var rfl h2)) rv_I0) rv_I0) ?_) fun H1 e1 => q H1 e1
    rw [List.length_map]
    rfl
def spFace (K : PySem.W.Frag) : Sp := fun vs H Q _ => ∃ (v cv : V) (m d : Int) (r : Option (List Int)), vs = [v, cv] ∧ Dt K H cv (curveD m d) ∧ okC m d ∧ ThL K H v m r ∧ (∀ l, r = some l → l.length ≤ 1000) ∧ ∀ H2, Ex H H2 → Q (.bl ((r.map (faceF m d)).getD false)) H2
theorem ev_face {σ : L2.St} {H : Hp} {ta tb : TE} {v : V} {m d : Int} {r : Option (List Int)} {E : XK} (ha : Ev ta σ H v) (hb : EvD K tb σ H (curveD m d)) (hc : okC m d) (hv : ThL K H v m r) (hl : ∀ l, r = some l → l.length ≤ 1000) : Ev (tCall (spFace K) [] E (tCons ta (tCons tb tNil))) σ H (.bl ((r.map (faceF m d)).getD false)) := fun H1 e Q q =>
  ha H1 e _ fun H2 e2 => hb H2 (e.trans e2) _ fun cv H3 e3 hcv => ⟨v, cv, m, d, r, rfl, hcv, hc, hv.ex ((e.trans e2).trans e3), hl, fun H4 e4 => q H4 ((e2.trans e3).trans e4)⟩
theorem ok_is_face (L : All K mg) {k : Nat} : FnOk P w K mg base CX0 (k + 5) L.f_is_face L.fd_is_face ["thing", "curve"] (spFace K) := by
  have B := L.B
  have D_has_pane := L.D_has_pane
  have G_has_pane := ok_has_pane (P := P) (w := w) (base := base) L (k := 0)
  have D_is_lot := L.D_is_lot
  have G_is_lot := ok_is_lot (P := P) (w := w) (base := base) L (k := 0)
  refine L.D_is_face.F.ok sc_is_face (fun vs H Q E h => ?_) (fun cdv A outer s H vs Q E hr h => ?_)
  · obtain ⟨v, cv, m, d, r, rfl, _⟩ := h
    rfl
  · obtain ⟨v, cv, m, d, r, rfl, hcv, hc, hv, hlen, q⟩ := h
    obtain ⟨c1, c2, c3, c4⟩ := id hc
    refine ⟨_, (pss_one (ps_ret (pe_and (pe_call G_is_lot (hr.mono (by omega)) (by rfl) D_is_lot.g D_is_lot.F.kp D_is_lot.b .nil pass0 (pa_cons (pv 0) (pa_cons (pv 1) pa_nil))) (pe_one (pe_call G_has_pane (hr.mono (by omega)) (by rfl) D_has_pane.g D_has_pane.F.kp D_has_pane.b .nil pass0 (pa_cons (pe_ix (show IxR _ (rIxT K) from ix_tup) (pv 1) pe_int (fun _ _ => rfl)) (pa_cons (pe_ix (show IxR _ (rIxT K) from ix_tup) (pv 1) pe_int (fun _ _ => rfl)) (pa_cons (pv 0) pa_nil)))))))), ?_⟩
    refine s_ret (v := .bl ((r.map (faceF m d)).getD false)) ?_ fun H1 e1 => q H1 e1
    cases r with
    | none => exact ev_is (ev_andV (b := false) (ev_isLot (K := K) (r := none) (ev_var rfl) (ed_var rfl hcv) hc hv) (fun hb => by cases hb)) rfl
    | some l =>
      have hll := hlen l rfl
      exact ev_is (ev_andV (ev_isLot (K := K) (r := some l) (ev_var rfl) (ed_var rfl hcv) hc hv) (fun _ => (ev_has_pane (K := K) (eb_cons (ed_int (ev_int (K := K) (ed_ixT (ds := [.int m, .int d]) (ed_var rfl hcv) ev_c rfl))) (eb_cons (ed_int (ev_int (K := K) (ed_ixT (ds := [.int m, .int d]) (ed_var rfl hcv) ev_c rfl))) (eb_cons (ed_var rfl hv.1) eb_nil))) (by first | assumption | omega | (refine ⟨?_, ?_⟩ <;> first | assumption | omega) | (refine ⟨?_, ?_, ?_⟩ <;> first | assumption | omega) | (refine ⟨?_, ?_, ?_, ?_⟩ <;> first | assumption | omega) | (repeat' apply And.intro) <;> first | assumption | omega)))) rfl
def paneF (m d : Int) (l : List Int) : Bool := decide ((l.length : Int) = d) && decide (oddF m l = 0)
def spPane (K : PySem.W.Frag) : Sp := fun vs H Q _ => ∃ (v cv : V) (m d : Int) (r : Option (List Int)), vs = [v, cv] ∧ Dt K H cv (curveD m d) ∧ okC m d ∧ ThL K H v m r ∧ (∀ l, r = some l → l.length ≤ 1000) ∧ ∀ H2, Ex H H2 → Q (.bl ((r.map (paneF m d)).getD false)) H2
theorem ev_pane {σ : L2.St} {H : Hp} {ta tb : TE} {v : V} {m d : Int} {r : Option (List Int)} {E : XK} (ha : Ev ta σ H v) (hb : EvD K tb σ H (curveD m d)) (hc : okC m d) (hv : ThL K H v m r) (hl : ∀ l, r = some l → l.length ≤ 1000) : Ev (tCall (spPane K) [] E (tCons ta (tCons tb tNil))) σ H (.bl ((r.map (paneF m d)).getD false)) := fun H1 e Q q =>
  ha H1 e _ fun H2 e2 => hb H2 (e.trans e2) _ fun cv H3 e3 hcv => ⟨v, cv, m, d, r, rfl, hcv, hc, hv.ex ((e.trans e2).trans e3), hl, fun H4 e4 => q H4 ((e2.trans e3).trans e4)⟩
theorem ok_is_pane (L : All K mg) {k : Nat} : FnOk P w K mg base CX0 (k + 5) L.f_is_pane L.fd_is_pane ["thing", "curve"] (spPane K) := by
  have B := L.B
  have D_odd_blocks := L.D_odd_blocks
  have G_odd_blocks := ok_odd_blocks (P := P) (w := w) (base := base) L (k := 0)
  have D_is_lot := L.D_is_lot
  have G_is_lot := ok_is_lot (P := P) (w := w) (base := base) L (k := 0)
  refine L.D_is_pane.F.ok sc_is_pane (fun vs H Q E h => ?_) (fun cdv A outer s H vs Q E hr h => ?_)
  · obtain ⟨v, cv, m, d, r, rfl, _⟩ := h
    rfl
  · obtain ⟨v, cv, m, d, r, rfl, hcv, hc, hv, hlen, q⟩ := h
    obtain ⟨c1, c2, c3, c4⟩ := id hc
    refine ⟨_, (pss_one (ps_ret (pe_and (pe_call G_is_lot (hr.mono (by omega)) (by rfl) D_is_lot.g D_is_lot.F.kp D_is_lot.b .nil pass0 (pa_cons (pv 0) (pa_cons (pv 1) pa_nil))) (pe_and (pe_cmpR op_eq (pe_callB (show CallR _ _ (rLenS K) from call_len_seq) (by rfl) B.len_ (by decide +kernel) (pa_cons (pv 0) pa_nil)) (pe_ix (show IxR _ (rIxT K) from ix_tup) (pv 1) pe_int (fun _ _ => rfl)) (nomark _)) (pe_one (pe_cmpR op_eq (pe_call G_odd_blocks (hr.mono (by omega)) (by rfl) D_odd_blocks.g D_odd_blocks.F.kp D_odd_blocks.b .nil pass0 (pa_cons (pe_ix (show IxR _ (rIxT K) from ix_tup) (pv 1) pe_int (fun _ _ => rfl)) (pa_cons (pv 0) pa_nil))) pe_int (nomark _))))))), ?_⟩
    refine s_ret (v := .bl ((r.map (paneF m d)).getD false)) ?_ fun H1 e1 => q H1 e1
    cases r with
    | none => exact ev_is (ev_andV (b := false) (ev_isLot (K := K) (r := none) (ev_var rfl) (ed_var rfl hcv) hc hv) (fun hb => by cases hb)) rfl
    | some l =>
      have hll := hlen l rfl
      refine ev_is (ev_andV (ev_isLot (K := K) (r := some l) (ev_var rfl) (ed_var rfl hcv) hc hv) (fun _ => (ev_andV (ev_op (ev_lenT (K := K) (ds := l.map PyData.int) (ed_var rfl hv.1)) (ev_int (K := K) (ed_ixT (ds := [.int m, .int d]) (ed_var rfl hcv) ev_c rfl)) rv_eqI) (fun _ => (ev_op (ev_odd_blocks (K := K) (eb_cons (ed_int (ev_int (K := K) (ed_ixT (ds := [.int m, .int d]) (ed_var rfl hcv) ev_c rfl))) (eb_cons (ed_var rfl hv.1) eb_nil)) (by first | assumption | omega | (refine ⟨?_, ?_⟩ <;> first | assumption | omega) | (refine ⟨?_, ?_, ?_⟩ <;> first | assumption | omega) | (refine ⟨?_, ?_, ?_, ?_⟩ <;> first | assumption | omega) | (repeat' apply And.intro) <;> first | assumption | omega)) ev_c rv_eqI))))) ?_
      rw [List.length_map]
      rfl
end
/-! ### a lot, by its corners and by its rising -/
def cornerB (m : Int) : V → Bool
  | .int i => decide (0 ≤ i) && decide (i < m)
  | _ => false
def intV : V → Int
  | .int i => i
  | _ => 0
theorem corners_ints {m : Int} : ∀ {xs : List V}, xs.all (cornerB m) = true → xs = (xs.map intV).map V.int
  | [], _ => rfl
  | x :: xs, h => by
    rw [List.all_cons, Bool.and_eq_true] at h
    rw [List.map_cons, List.map_cons, ← corners_ints h.2]
    cases x with
    | int i => rfl
    | _ => cases h.1
theorem rising_pw : ∀ {l : List Int}, risingL l = true → l.Pairwise (· < ·) := by
  intro l h
  have adj : ∀ i, i + 1 < l.length → l.getD i 0 < l.getD (i + 1) 0 := fun i hi => by
    unfold risingL at h
    have := List.all_eq_true.mp h i (List.mem_range.mpr (by rw [List.length_drop]; omega))
    have := of_decide_eq_true this
    rw [List.getD_eq_getElem?_getD (l := l.drop 1), List.getElem?_drop, ← List.getD_eq_getElem?_getD] at this
    rw [show i + 1 = 1 + i by omega]
    exact this
  have go : ∀ n i, i + n + 1 < l.length → l.getD i 0 < l.getD (i + n + 1) 0 := by
    intro n
    induction n with
    | zero => intro i hi; exact adj i hi
    | succ n ih => intro i hi; exact Int.lt_trans (ih i (by omega)) (adj (i + n + 1) hi)
  rw [List.pairwise_iff_getElem]
  intro i j hi hj hij
  have := go (j - i - 1) i (by omega)
  rw [show i + (j - i - 1) + 1 = j by omega] at this
  simpa [List.getD_eq_getElem?_getD, List.getElem?_eq_getElem hi, List.getElem?_eq_getElem hj] using this
theorem pw_rising {l : List Int} (h : l.Pairwise (· < ·)) : risingL l = true := by
  unfold risingL
  refine List.all_eq_true.mpr fun i hi => decide_eq_true ?_
  have hi := List.mem_range.mp hi
  rw [List.length_drop] at hi
  have h1 : i < l.length := by omega
  have h2 : 1 + i < l.length := by omega
  rw [List.getD_eq_getElem?_getD (l := l.drop 1), List.getElem?_drop, List.getD_eq_getElem?_getD, List.getElem?_eq_getElem h1, List.getElem?_eq_getElem h2]
  exact (List.pairwise_iff_getElem.mp h) i (1 + i) h1 h2 (by omega)
theorem scan_iff {m : Int} : ∀ {l : List Int} {z : Int}, scanV m z (l.map V.int) = true ↔ (∀ x ∈ l, z ≤ x ∧ x < m) ∧ l.Pairwise (· < ·)
  | [], z => ⟨fun _ => ⟨fun x hx => (nomatch hx), List.Pairwise.nil⟩, fun _ => rfl⟩
  | i :: l, z => by
    show ((decide (z ≤ i) && decide (i < m)) && scanV m (i + 1) (l.map V.int)) = true ↔ _
    rw [Bool.and_eq_true, Bool.and_eq_true, decide_eq_true_eq, decide_eq_true_eq, scan_iff, List.pairwise_cons]
    constructor
    · rintro ⟨⟨h1, h2⟩, h3, h4⟩
      refine ⟨fun x hx => ?_, fun x hx => by have := h3 x hx; omega, h4⟩
      rcases List.mem_cons.mp hx with rfl | hx
      · exact ⟨h1, h2⟩
      · have := h3 x hx
        omega
    · rintro ⟨h1, h2, h3⟩
      have h0 := h1 i (by simp)
      exact ⟨h0, fun x hx => ⟨by have := h2 x hx; omega, (h1 x (List.mem_cons_of_mem _ hx)).2⟩, h3⟩
theorem scan_corners {m : Int} : ∀ {xs : List V} {z : Int}, 0 ≤ z → scanV m z xs = true → xs.all (cornerB m) = true
  | [], _, _, _ => rfl
  | x :: xs, z, hz, h => by
    cases x with
    | int i =>
      have h : ((decide (z ≤ i) && decide (i < m)) && scanV m (i + 1) xs) = true := h
      rw [Bool.and_eq_true, Bool.and_eq_true, decide_eq_true_eq, decide_eq_true_eq] at h
      rw [List.all_cons, scan_corners (by omega) h.2]
      show ((decide (0 ≤ i) && decide (i < m)) && true) = true
      rw [decide_eq_true (show 0 ≤ i by omega), decide_eq_true h.1.2]
      rfl
    | _ => cases h
theorem lotV_eq (m : Int) (xs : List V) : lotV m xs = (xs.all (cornerB m) && risingL (xs.map intV)) := by
  rw [Bool.eq_iff_iff, Bool.and_eq_true]
  constructor
  · intro h
    have hc := scan_corners (Int.le_refl 0) h
    refine ⟨hc, ?_⟩
    unfold lotV at h
    rw [corners_ints hc] at h
    exact pw_rising (scan_iff.mp h).2
  · rintro ⟨hc, hr⟩
    unfold lotV
    have e := corners_ints hc
    rw [e]
    refine scan_iff.mpr ⟨fun x hx => ?_, rising_pw hr⟩
    obtain ⟨y, hy, rfl⟩ := List.mem_map.mp hx
    have h1 := List.all_eq_true.mp hc y hy
    cases y with
    | int i =>
      have h1 : (decide (0 ≤ i) && decide (i < m)) = true := h1
      rw [Bool.and_eq_true, decide_eq_true_eq, decide_eq_true_eq] at h1
      exact h1
    | _ => cases h1
/-! ### a drawn lot -/
def rTupS (K : PySem.W.Frag) : List V → Hp → VK → Prop := fun xs H Q => ∃ p ys, xs = [.ref p] ∧ ((SqL K H p ys ∧ ∀ l, H l = none → Q (.ref l) (upd H l (.tup ys))) ∨ (SqT K H p ys ∧ Q (.ref p) H))
theorem bk_mut {b D : Addr} {H H' : Hp} {o : HO} (x : Bk b H H') (n : H D = none) : Bk b H (upd H' D o) := ⟨fun c u hc h => by rw [upd_ne (ne_of_none h n)]; exact x.bx c u hc h, fun c u r => by
  have nc : c ≠ D := fun z => by
    subst z
    rcases r with r | ⟨o, r⟩ <;> (rw [n] at r; cases r)
  rcases x.tx c u r with r | ⟨o, r⟩
  · exact .inl (by rw [upd_ne nc]; exact r)
  · exact .inr ⟨o, by rw [upd_ne nc]; exact r⟩⟩
def subs : List Int → List (List Int)
  | [] => [[]]
  | x :: r => (subs r).map (x :: ·) ++ subs r
theorem subs_of {l r : List Int} (h : l.Sublist r) : l ∈ subs r := by
  induction h with
  | slnil => exact List.mem_singleton.mpr rfl
  | cons a _ ih => exact List.mem_append_right _ ih
  | cons_cons a _ ih => exact List.mem_append_left _ (List.mem_map.mpr ⟨_, ih, rfl⟩)
section
variable {P : Program} {w : World} {K : PySem.W.Frag} {mg : Str → Option Value} {base : Heap}
def spLot (K : PySem.W.Frag) : Sp := fun vs H Q _ => ∃ (b : Addr) (m : Int), vs = [.ref b, .int m] ∧ BoxAt H b ∧ 0 ≤ m ∧ m < 100 ∧ ∀ v l H2, l.Sublist (upTo 0 m) → Dt K H2 v (lotD l) → BoxAt H2 b → Bk b H H2 → Q v H2
theorem okk_lot {f ft fm : Addr} {fd fdt fdm : FuncData} {k : Nat} (D : Df K mg "_law_lot" s__law_lot ["_law_box_here", "_law_many"] f fd) (D__law_take : Df K mg "_law_take" s__law_take ["_law_box_here", "_law_wide"] ft fdt) (D__law_more : Df K mg "_law_more" s__law_more ["_law_box_here"] fm fdm) (B : Bt mg) : FnOk P w K mg base CX0 (k + 3) f fd ["_law_box_here", "_law_many"] (spLot K) := by
  have G__law_take : FnOk P w K mg base CX0 (k + 2) ft fdt ["_law_box_here", "_law_wide"] spTake := okk_take D__law_take D__law_more B
  refine D.F.ok sc__law_lot (fun vs H Q E h => ?_) (fun cdv A outer s H vs Q E hr h => ?_)
  · obtain ⟨b, m, rfl, _⟩ := h
    rfl
  · obtain ⟨b, m, rfl, hb, m0, m1, q⟩ := h
    refine ⟨_, (pss_cons (ps_set (i := 2) sc__law_lot.nd rfl (.inr rfl) (pe_op op_add pe_int (pe_call G__law_take (hr.mono (by omega)) (by rfl) D__law_take.g D__law_take.F.kp D__law_take.b .nil pass0 (pa_cons (pv 0) (pa_cons pe_int pa_nil)))))  (pss_one (ps_ret (pe_callTy (show CallR _ _ (rTupS K) from call_tuple_of) (by rfl) B.tuple_ (by decide +kernel) (pa_cons (pe_lc (own := [("_law_corner", 3)]) rfl sc__law_lot.nd (pi_range1 (by rfl) B.range_ (pa_cons (pv 1) pa_nil)) (blkOk_by (own := [("_law_corner", 3)]) (N := N__law_lot) (sc := defScope s__law_lot) (by decide +kernel)) (fun _ _ _ _ _ => (pg_name (i := 3) sc__law_lot.nd rfl (.inl rfl))) (fun _ _ _ _ _ => pts_one (pt_cmpR op_lt (pe_call G__law_take (hr.mono (by omega)) (by rfl) D__law_take.g D__law_take.F.kp D__law_take.b .nil pass0 (pa_cons (pv 0) (pa_cons pe_int pa_nil))) (pv 2) (nomark _))) (fun _ _ _ _ _ => (pv 3))) pa_nil))))), ?_⟩
    refine q_asgK (K := K) (b := b) (ek_opI (f := fun i j => i + j) ev_c fun H1 e1 => ek_take rfl (hb.ex e1) ev_c (by decide) (by decide)) fun v d H1 hp hv hb1 x1 => ?_
    obtain ⟨sh, rfl, s0, s1⟩ := hp
    cases hv
    refine ⟨_, rfl, m, rfl, by omega, by omega, fun Dl hD => ?_⟩
    have nbD : Dl ≠ b := box_ne hb1 hD
    refine lc_range (lo := 0) (n := m.toNat) (fun i H' => BoxAt H' b ∧ Bk b H1 H' ∧ ∃ l : List Int, l.Sublist ((upTo 0 m).take i) ∧ H' Dl = some (.lst (l.map V.int))) ⟨hb1.ex (Ex.new hD), bk_ex (Ex.new hD), [], List.nil_sublist _, upd_same⟩ (fun i H' hi hw => ?_) (fun H' hw => ?_)
    · obtain ⟨hb2, x2, l, hsub, hl⟩ := hw
      have hget : (upTo 0 m)[i]? = some (0 + (i : Int)) := upTo_get (by omega)
      have hlen : l.length ≤ 100 := by
        have h1 := hsub.length_le
        have h2 : ((upTo 0 m).take i).length ≤ (upTo 0 m).length := by rw [List.length_take]; exact Nat.min_le_right _ _
        rw [upTo_len] at h2
        omega
      refine ⟨rfl, ?_⟩
      refine (ek_take (K := K) (b := b) (σ := [some (.ref b), some (.int m), some (.int (1 + sh)), some (.int (0 + (i : Int)))]) (ta := tC (.int 4)) (wd := 4) (j := 0) rfl hb2 ev_c (by decide) (by decide)) _ fun v d H3 hp hv hb3 x3 => ?_
      obtain ⟨r, rfl, r0, r1⟩ := hp
      cases hv
      have hl3 : H3 Dl = some (.lst (l.map V.int)) := x3.bx Dl _ nbD hl
      refine ⟨_, rfl, r, 1 + sh, rfl, rfl, _, rfl, ?_⟩
      rw [List.take_add_one, hget]
      refine ite2 (fun _ => ?_) (fun _ => ?_)
      · refine ⟨_, rfl, l.map V.int, hl3, sz_lt (by rw [List.length_map]; omega), ?_, bk_mut (x2.trans x3) hD, l ++ [0 + (i : Int)], hsub.append (List.Sublist.refl _), ?_⟩
        · obtain ⟨n1, n2, hb4⟩ := hb3
          exact ⟨n1, n2, by rw [upd_ne nbD.symm]; exact hb4⟩
        · rw [upd_same, List.map_append]
          rfl
      · exact ⟨hb3, x2.trans x3, l, hsub.trans (List.sublist_append_left _ _), hl3⟩
    · obtain ⟨hb2, x2, l, hsub, hl⟩ := hw
      rw [List.take_of_length_le (by rw [upTo_len]; omega)] at hsub
      refine ⟨Dl, l.map V.int, rfl, .inl ⟨sq_of hl, fun t ht => ?_⟩⟩
      exact q _ l _ hsub (lot_dt (st_of upd_same)) (hb2.ex (Ex.new ht)) ((x1.trans x2).trans (bk_ex (Ex.new ht)))
theorem ek_lot {σ : L2.St} {H : Hp} {te : TE} {b : Addr} {m : Int} {j : Nat} {E : XK} (hj : σ[j]? = some (some (.ref b))) (hb : BoxAt H b) (h : Ev te σ H (.int m)) (m0 : 0 ≤ m) (m1 : m < 100) : EvK K b (tCall (spLot K) [] E (tCons (tVar j) (tCons te tNil))) σ H (fun d => ∃ l, d = lotD l ∧ l.Sublist (upTo 0 m)) := fun Q q =>
  ⟨_, hj, h H (Ex.refl H) _ fun H2 e2 => ⟨b, m, rfl, hb.ex e2, m0, m1, fun v l H3 hs hv hb3 x3 => q v (lotD l) H3 ⟨l, rfl, hs⟩ hv hb3 ((bk_ex e2).trans x3)⟩⟩
end
section
variable {P : Program} {w : World} {K : PySem.W.Frag} {mg : Str → Option Value} {base : Heap}
/-! displays some of whose items change the box -/
def EvKA (K : PySem.W.Frag) (b : Addr) (ta : TA) (σ : L2.St) (H : Hp) (p : List PyData → Prop) : Prop := ∀ Q : List V → Hp → Prop, (∀ vs ds H2, p ds → DtAll K H2 vs ds → BoxAt H2 b → Bk b H H2 → Q vs H2) → ta σ H Q
theorem ka_nil {σ : L2.St} {H : Hp} {b : Addr} (hb : BoxAt H b) : EvKA K b tNil σ H (fun ds => ds = []) := fun Q q => q [] [] H rfl .nil hb (Bk.refl b H)
theorem ka_cons {σ : L2.St} {H : Hp} {b : Addr} {te : TE} {tr : TA} {p1 : PyData → Prop} {p2 : List PyData → Prop} (h : EvK K b te σ H p1) (hr : ∀ H', Bk b H H' → BoxAt H' b → EvKA K b tr σ H' p2) : EvKA K b (tCons te tr) σ H (fun ds => ∃ d r, ds = d :: r ∧ p1 d ∧ p2 r) := fun Q q =>
  h _ fun v d H2 h1 hv hb2 x2 => hr H2 x2 hb2 _ fun vs ds H3 h2 hvs hb3 x3 => q (v :: vs) (d :: ds) H3 ⟨d, ds, rfl, h1, h2⟩ (.cons (dt_tx x3.tx hv) hvs) hb3 (x2.trans x3)
theorem ka_pure {σ : L2.St} {H : Hp} {b : Addr} {ta : TA} {ds : List PyData} (h : EvB K ta σ H ds) (hb : BoxAt H b) : EvKA K b ta σ H (fun es => es = ds) := fun Q q => h H (Ex.refl H) _ fun vs H2 e2 hvs => q vs ds H2 rfl hvs (hb.ex e2) (bk_ex e2)
def EvG (K : PySem.W.Frag) (b : Addr) (te : TE) (σ : L2.St) (H : Hp) (p : List PyData → Prop) : Prop := ∀ Q : VK, (∀ q xs ds H2, p ds → H q = none → H2 q = some (.lst xs) → DtAll K H2 xs ds → BoxAt H2 b → Bk b H H2 → Q (.ref q) H2) → te σ H Q
theorem bk_free {b q : Addr} {H H' : Hp} (x : Bk b H H') (hb : BoxAt H' b) (n : H' q = none) : H q = none := by
  cases e : H q with
  | none => rfl
  | some o =>
    have nq : q ≠ b := box_ne hb n
    rw [x.bx q o nq e] at n
    cases n
theorem eg_lst {σ : L2.St} {H : Hp} {b : Addr} {ta : TA} {p : List PyData → Prop} (h : EvKA K b ta σ H p) (hp : ∀ ds, p ds → ds.length ≤ 1000) : EvG K b (tLst ta) σ H p := fun Q q =>
  h _ fun vs ds H2 h1 hvs hb2 x2 => ⟨sz_of (by rw [dta_len hvs]; have := hp ds h1; omega), fun r hr => q r vs ds _ h1 (bk_free x2 hb2 hr) upd_same (dta_ex (Ex.new hr) hvs) (hb2.ex (Ex.new hr)) (x2.trans (bk_ex (Ex.new hr)))⟩
theorem ka_imp {σ : L2.St} {H : Hp} {b : Addr} {ta : TA} {p p' : List PyData → Prop} (h : EvKA K b ta σ H p) (hi : ∀ ds, p ds → p' ds) : EvKA K b ta σ H p' := fun Q q => h Q fun vs ds H2 hp => q vs ds H2 (hi ds hp)
theorem eg_imp {σ : L2.St} {H : Hp} {b : Addr} {te : TE} {p p' : List PyData → Prop} (h : EvG K b te σ H p) (hi : ∀ ds, p ds → p' ds) : EvG K b te σ H p' := fun Q q => h Q fun r xs ds H2 hp => q r xs ds H2 (hi ds hp)
theorem q_forG {σ : L2.St} {H : Hp} {b : Addr} {D : Ends} {tl : TE} {g : TG} {tu tz : TS} {p : List PyData → Prop} (h : EvG K b tl σ H p)
    (k : ∀ ds H1, p ds → BoxAt H1 b → Bk b H H1 → ∃ Pv : Nat → L2.St → Hp → Prop, Pv 0 σ H1 ∧ (∀ i x d σ' H', Ex H1 H' → ds[i]? = some d → Dt K H' x d → Pv i σ' H' → g x σ' H' fun σ2 H2 => tu { D with nx := fun σ3 H3 => Ex H1 H3 ∧ Pv (i + 1) σ3 H3, ct := fun σ3 H3 => Ex H1 H3 ∧ Pv (i + 1) σ3 H3, bk := tz D } σ2 H2) ∧ (∀ σ' H', Ex H1 H' → Pv ds.length σ' H' → tz D σ' H')) : tSeq (tFor (iList K tl) g tu) tz D σ H :=
  h _ fun r xs ds H1 h1 nr hr hx hb1 x1 => by
    obtain ⟨Pv, h0, hs, hd⟩ := k ds H1 h1 hb1 x1
    exact ⟨r, rfl, ⟨xs, sq_of hr⟩, for_list (xs := xs) (fun i σ' H' => Ex H1 H' ∧ Pv i σ' H') ⟨Ex.refl _, h0⟩ (fun i σ' H' _ hw => sq_of (hw.1 r _ hr)) (fun i x σ' H' hi hw => by
      obtain ⟨d, h1, h2⟩ := dta_get (dta_ex hw.1 hx) hi
      exact hs i x d σ' H' hw.1 h1 h2 hw.2) (fun σ' H' hw => hd σ' H' hw.1 (by rw [← dta_len hx]; exact hw.2))⟩
theorem ed_tupRg {σ : L2.St} {H : Hp} {te : TE} {m : Int} (h : Ev te σ H (.int m)) (m0 : 0 ≤ m) (m1 : m < 1000) : EvD K (tTupRg (tRg1 te)) σ H (lotD (upTo 0 m)) := fun H1 e Q q =>
  h H1 e _ fun H2 e2 => ⟨m, rfl, RgOk.of_le (by decide) (by omega) (by decide) m0, fun t ht => q _ _ (e2.trans (Ex.new ht)) (lot_dt (st_of (by
    rw [upd_same]
    congr 2
    unfold rgV upTo
    rw [List.map_map]
    rfl)))⟩
end
/-! ### all(.. for .. in ..): the def's table of code objects stands in the heap as a thing that stays a table -/
def tabIs (P : Addr) : Heap → Prop := fun h => ∃ ps : Array Value, h.get? P = some { cls := .none, data := .fields ps } ∧ TriplesOk ps.toList
abbrev TabO (P : Addr) : HO := .ext (tabIs P)
theorem tabIs_at {P : Addr} {h h' : Heap} (x : tabIs P h) (k : ∀ o, h.get? P = some o → h'.get? P = some o) : tabIs P h' := by
  obtain ⟨ps, e, t⟩ := x
  exact ⟨ps, k _ e, t⟩
theorem tab_obj {pr : Program} {w : World} {H : Hp} {h : Heap} {P : Addr} (x : tabIs P h) : ObjOk pr w H h P (TabO P) := by
  refine ⟨x, ?_, fun h1 h2 y k => tabIs_at y k⟩
  obtain ⟨ps, e, _⟩ := x
  exact ⟨_, e⟩
section
variable {X : Cx} {pins : List (Addr × Obj)} {σ : L2.St} {H : Hp} {s : Shared}
/-- the table may have grown: nothing else has changed -/
theorem inv_tabX {P : Addr} {h' : Heap} {g' : Array GenState} {d' : Drawn} {t' : Nat} (I : Inv X pins σ H s) (hP : H P = some (TabO P)) (k : ∀ b o, b ≠ P → s.heap.get? b = some o → h'.get? b = some o) (ht : tabIs P h') (hg : AllBare g') :
    Inv X pins σ H { s with heap := h', gens := g', drawn := d', toks := t' } := by
  have nf : ∀ b, H b = none → b ≠ P := fun b e z => by
    subst z
    rw [hP] at e
    cases e
  refine I.step (ch := []) (fun b hb => nomatch hb) (fun b o _ _ _ e n => k b o (nf b n) e) (fun b o _ _ _ e n => ⟨o.slots, k b o (nf b n) e⟩) (fun b o _ _ n => n) (fun b o _ e => ?_) (fun b u e => e) (fun b o u e => e) (fun b qs e => ⟨#[], by rw [e]; simp⟩) (fun m hn => ?_) (fun b u e => ?_) hg
  · by_cases hb : b = P
    · subst hb
      obtain ⟨ps, e2, _⟩ := ht
      exact ⟨_, e2⟩
    · exact ⟨o, k b o hb e⟩
  · obtain ⟨ob, es, ep, ho, r⟩ := hn
    exact ⟨ob, es, ep, k _ ob (nf _ I.free) ho, r⟩
  · by_cases hb : b = P
    · subst hb
      rw [hP] at e
      cases e
      exact tab_obj ht
    · refine (I.hok b u e).stay (fun d v hd q => k d v (fun z => ?_) q) (fun d q => q) fun d xs q => q
      subst z
      rcases hd with z | z
      · exact hb z.symm
      · rw [hP] at z
        cases z
/-- what an element of a generator expression gives, in whatever frame it is asked -/
def EltOk (X : Cx) (scope : Scope) (x : Str) (elt : Expr) (P : Addr) (σ : L2.St) (H : Hp) (xs : List V) (pb : Nat → Bool) : Prop :=
  ∀ (pins : List (Addr × Obj)) (s : Shared), Inv X pins σ H s → ∀ its : List Value, Vals xs its → ∀ cenv : Env, cenv.scope = scope → cenv.globals = X.env.globals → cenv.cells = cloFrom X.env.cells scope.names [] →
    ∀ (A' : Around) (E' : Value → Shared → Prop) (i : Nat) (v : Value) (s2 : Shared) (m2 : Str → Option Value), A'.handled = none → A'.depth ≤ X.A.depth + 1 → A'.units ≤ X.A.units + 8 → its[i]? = some v → s2.heap.Ns cenv.locals m2 → m2 x = some v →
      (∀ b o, b ≠ P → s.heap.get? b = some o → s2.heap.get? b = some o) → wpAny (model X.prog X.w) A' (eval elt cenv) (fun y s3 => y = .bool (pb i) ∧ Keeps s2 s3) E' s2
/-- a generator that stands ready, its n elements' truths pb -/
def RdyG (X : Cx) (pins : List (Addr × Obj)) (σ : L2.St) (H : Hp) (n : Nat) (pb : Nat → Bool) (g : Addr) (s5 : Shared) : Prop :=
  ∃ (fp wr : List Addr) (G : Array GenState → Array GenState → Prop) (F : Nat → Value → Prop) (St : Nat → Shared → Prop),
    WalksS X.prog X.w X.A.in1 g fp wr G n F St ∧ St 0 s5 ∧ TruthOf X.prog X.w X.A.in1 F pb ∧ ∀ s', Moved wr G s5 s' → Inv X pins σ H s'
theorem gen_tup {c P : Addr} {elt iter : Expr} {x : Str} {px gpos : Pos} {scope : Scope} {te : TE} {k : Nat} {Q' : Value → Shared → Prop} {R : List V → (Nat → Bool) → Hp → Prop} (hr : Room k X.A) (TB : GxR.TabB X.base X.mg c P) (hcode : X.env.code = .ref c) (S : GxR.GenS X.env scope x) (hi : PE X iter te)
    (hs : ∀ v, genFold iter X.env v = pure v) (I : Inv X pins σ H s) (h : te σ H fun v H1 => ∃ (a : Addr) (xs : List V) (pb : Nat → Bool), v = .ref a ∧ SqT X.K H1 a xs ∧ H1 P = some (TabO P) ∧ EltOk X scope x elt P σ H1 xs pb ∧ R xs pb H1)
    (hQ : ∀ xs pb H1 g s5, R xs pb H1 → RdyG X pins σ H1 xs.length pb g s5 → Q' (.ref g) s5) :
    wpAny (model X.prog X.w) X.A (eval (.GeneratorExp elt [⟨.Name x px, iter, [], 0⟩] scope gpos) X.env) Q' X.xe s := by
  have hdep : X.A.depth < recursionLimit := Nat.lt_of_le_of_lt (by omega) hr.dp
  refine wpAny_GeneratorExp_walksQD hr.hd S.co (closure_ok S.free) S.cell S.dot S.loc S.kind hdep (thn (hi.run pins s σ H _ I h) fun xv s1 hx1 => ?_) hs
  obtain ⟨v, H1, I1, r1, a, xs, pb, rfl, hsq, hP, hel, hR⟩ := hx1
  obtain rfl : xv = Value.ref a := r1
  obtain ⟨its, rv, htp, hsz⟩ := I1.tuple hsq
  have hlen : its.toArray.size = xs.length := by rw [List.size_toArray]; exact (Vals.length rv).symm
  refine wpAny_pyIter_tuple htp ?_
  obtain ⟨ps, hPs, htr⟩ := (show ObjOk X.prog X.w H1 s1.heap P (TabO P) from I1.hok P _ hP).1
  have hPlt : P < s1.heap.objs.size := Heap.lt_size hPs
  have halt : a < s1.heap.objs.size := htp.lt
  generalize hob : ({ cls := .type "tuple_iterator", data := .fields #[.ref a, .int 0 0] } : Obj) = ob
  have kpush : ∀ b u, s1.heap.get? b = some u → (s1.heap.push ob).get? b = some u := fun b u e => Heap.get?_push_of_some _ e
  have hit0 : (s1.heap.push ob).IsTupleIter s1.heap.objs.size a 0 := ⟨_, Heap.get?_push_size _ (by rw [← hob]; rfl), by rw [← hob], by rw [← hob]; rfl⟩
  have htp0 : (s1.heap.push ob).IsTuple a its.toArray := Heap.IsTuple.at htp fun o e => kpush a o e
  have hszp : (s1.heap.push ob).objs.size = s1.heap.objs.size + 1 := Heap.size_push ..
  have hPp : (s1.heap.push ob).get? P = some { cls := .none, data := .fields ps } := kpush P _ hPs
  have cd : PySem.W.CodeHd (s1.heap.push ob) c P := TB.code.keeps fun b u e => kpush b u (I1.bk b u e)
  have hlimp : (s1.heap.push ob).NoLimit := I1.nolimit.push ob
  have hcP : cStatics ≠ P := fun e => by
    obtain ⟨_, hns, _⟩ := I1.nolimit
    obtain ⟨o', es, ep, ho, hd, _⟩ := hns
    rw [e, hPs] at ho
    cases ho
    cases hd
  have hcl : cStatics < s1.heap.objs.size := let ⟨_, hns, _⟩ := I1.nolimit; hns.lt
  -- behind the code object: the table as it is then
  have fin : ∀ (code : Value) (h3 : Heap) (tk : Nat), Heap.ExtBut P (s1.heap.push ob) h3 → (s1.heap.push ob).objs.size ≤ h3.objs.size → tabIs P h3 →
      wpAny (model X.prog X.w) X.A (builtinsFor X.env.globals X.env.builtins) (fun bi s4 =>
        ∃ Ia fp wr n0 Pf St0 pz F, Value.ref s1.heap.objs.size = .ref Ia ∧ (∀ A' : Around, A'.handled = none → Walks X.prog X.w A' Ia fp wr n0 Pf St0) ∧ St0 0 s4.heap ∧ (∀ b ∈ fp, b < s4.heap.objs.size) ∧ s4.heap.NoLimit ∧ cStatics ∉ wr ∧
          (∀ href : Heap, (∀ b o, s4.heap.get? b = some o → href.get? b = some o) →
            QuietGenD X.prog X.w (genEnv scope (cloFrom X.env.cells scope.names []) s4.heap.objs.size code bi X.env) x [] elt (List.range s4.heap.objs.size) wr Pf pz F href (X.A.depth + 1) (X.A.units + 8)) ∧
          (∀ a h5 tk gs, gs.bare = true → s4.heap.objs.size < a → h5.objs.size = a + 1 → (∀ b o, s4.heap.get? b = some o → h5.get? b = some o) →
            WalksS X.prog X.w X.A.in4 a (a :: s4.heap.objs.size :: List.range s4.heap.objs.size) (s4.heap.objs.size :: wr) (GenOnlyQ s4.gens.size) (passing pz n0 0).length
              (fun j y => ∃ i, (passing pz n0 0)[j]? = some i ∧ F i y) (GenAt X.prog X.w X.A.in4 a s4.gens.size s4.heap.objs.size (List.range s4.heap.objs.size) wr pz n0 F) →
            GenAt X.prog X.w X.A.in4 a s4.gens.size s4.heap.objs.size (List.range s4.heap.objs.size) wr pz n0 F 0 { s4 with gens := s4.gens.push gs, toks := tk, heap := h5 } →
            Q' (.ref a) { s4 with gens := s4.gens.push gs, toks := tk, heap := h5 })) X.xe { s1 with heap := h3, toks := tk } := by
    intro code h3 tk hx hge ht3
    have keep3 : ∀ b u, b ≠ P → s1.heap.get? b = some u → h3.get? b = some u := fun b u hb e => hx b u hb (kpush b u e)
    obtain ⟨bm, ob2, e1, e2, e3, e4, e5, e6, e7, e8⟩ := TB.bm
    refine wpAny_builtinsFor (m := X.mg) (by rw [I1.ok.glob]; exact ((I1.mod.glob.keeps I1.bk).push ob).extBut hx TB.gP) e1 e2 (keep3 _ _ e4 (I1.bk _ _ e5)) e6 e7 e8 ?_
    have hs3 : s1.heap.objs.size + 1 ≤ h3.objs.size := by rw [← hszp]; exact hge
    have old3 : ∀ b u, s1.heap.get? b = some u → b < h3.objs.size := fun b u e => Nat.lt_of_lt_of_le (Nat.lt_of_lt_of_le (Heap.lt_size e) (Nat.le_succ _)) hs3
    have itP : s1.heap.objs.size ≠ P := (Nat.ne_of_lt hPlt).symm
    have aP : a ≠ P := fun z => by
      obtain ⟨o, ho, hc, _⟩ := htp
      rw [z, hPs] at ho
      cases ho
      cases hc
    refine ⟨s1.heap.objs.size, [s1.heap.objs.size, a], [s1.heap.objs.size], its.toArray.size, fun i v => its.toArray[i]? = some v, fun i h => h.IsTupleIter s1.heap.objs.size a i ∧ h.IsTuple a its.toArray, fun _ => true, fun i y => i < xs.length ∧ y = .bool (pb i), rfl, fun A' hA => Walks.tuple hA _ _ (Nat.ne_of_lt halt) _, ?_, ?_, hlimp.extBut hx hcP, ?_, ?_, ?_⟩
    · exact ⟨hit0.at fun o e => hx _ o itP e, htp0.at fun o e => hx _ o aP e⟩
    · intro b hb
      show b < h3.objs.size
      have hb2 : b = s1.heap.objs.size ∨ b = a := by simpa using hb
      rcases hb2 with z | z
      · rw [z]
        exact Nat.lt_of_lt_of_le (Nat.lt_succ_self _) hs3
      · rw [z]
        exact Nat.lt_of_lt_of_le (Nat.lt_of_lt_of_le halt (Nat.le_succ _)) hs3
    · intro z
      have z2 : cStatics = s1.heap.objs.size := by simpa using z
      exact Nat.ne_of_lt hcl z2
    · intro href hhref
      refine ⟨fun A' E' i v s2 m2 hA _ _ hPv hn hm hk => ?_, fun A' E' i v s2 m2 hA hD hU hPv _ hn hm hk => ?_⟩
      · simp only [List.forIn_nil]
        exact wpAny_pure ⟨rfl, GxR.keeps_refl _⟩
      · have hPv2 : its[i]? = some v := by simpa using hPv
        have hilt : i < xs.length := by
          have := (List.getElem?_eq_some_iff.mp hPv2).1
          rw [List.size_toArray] at hlen
          omega
        refine wpAny_mono (hel pins s1 I1 its rv (genEnv scope (cloFrom X.env.cells scope.names []) h3.objs.size code builtinsNs X.env) rfl rfl rfl A' E' i v s2 m2 hA hD hU hPv2 hn hm (fun b o hb e => ?_)) (fun y s3 q => ⟨⟨hilt, q.1⟩, q.2⟩) fun _ _ q => q
        have hblt := Heap.lt_size e
        refine hk b (List.mem_range.mpr ?_) (fun z => ?_) o (hhref b o (keep3 b o hb e))
        · exact old3 b o e
        · have z2 : b = s1.heap.objs.size := by simpa using z
          exact Nat.ne_of_lt hblt z2
    · intro g h5 tk5 gs hgb hag hsz5 hk5 W5 hat
      simp only [GxR.passing_true, List.length_range] at W5
      refine hQ xs pb H1 g _ hR ?_
      rw [← hlen]
      refine ⟨_, _, _, _, _, W5.in4_1, hat, ?_, fun s' hm => ?_⟩
      · intro j y sj Qj Ej hy hQj
        obtain ⟨i, hij, hlt, rfl⟩ := hy
        obtain ⟨hj, ej⟩ := List.getElem?_eq_some_iff.mp hij
        have ej2 : i = j := by simpa [GxR.passing_true] using ej.symm
        subst ej2
        exact wpAny_truthy_bool hQj
      · have nwr : ∀ b u, s1.heap.get? b = some u → b ∉ h3.objs.size :: [s1.heap.objs.size] := fun b u e hb => by
          have hl := Heap.lt_size e
          have hb2 : b = h3.objs.size ∨ b = s1.heap.objs.size := by simpa using hb
          rcases hb2 with z | z
          · exact Nat.ne_of_lt (old3 b u e) z
          · exact Nat.ne_of_lt hl z
        have J := inv_tabX (h' := s'.heap) (g' := s'.gens) (d' := s'.drawn) (t' := s'.toks) I1 hP (fun b u hb e => hm.heap b u (nwr b u e) (hk5 b u (keep3 b u hb e))) (tabIs_at ht3 fun o e => hm.heap P o (nwr P _ hPs) (hk5 P o e)) (AllBare.movedS (I1.bare.push hgb) hm)
        rw [GxR.sh_eta s1 s' hm.os] at J
        exact J
  refine ⟨hlimp, ?_⟩
  cases hf : codeAmong gpos ps.toList with
  | none =>
    refine wpAny_genexprCodeX hcode (cd.code hPp htr) (cd.tab hPp) hf fun c' h' tk hx hge hlt hco' _ htab' _ => ?_
    obtain ⟨o1, vs, f1, tf, fl, tg, inF, tx, tt, op, _, _, _, _, _, _, _, _, _, htr2, _⟩ := hco'
    exact fin _ h' tk hx (Nat.le_trans hge (Nat.le_of_lt hlt)) ⟨_, htab'.2, htr2⟩
  | some cv =>
    refine wpAny_genexprCode_hit hcode (cd.code hPp htr) hf ?_
    exact fin cv (s1.heap.push ob) s1.toks (Heap.ExtBut.refl _ _) (Nat.le_refl _) ⟨ps, hPp, htr⟩
end
/-! ### defs that are called where no text is under way -/
structure FnG (P : Program) (w : World) (K : PySem.W.Frag) (mg : Str → Option Value) (base : Heap) (k : Nat) (f : Addr) (fd : FuncData) (ps : List Str) (sp : Sp) : Prop where
  ln : ∀ vs H Q E, sp vs H Q E → vs.length = ps.length
  go : ∀ (A : Around) (outer : List Env) (s : Shared) (H : Hp) (args : Args) (us : List Value) (vs : List V) (Q : VK) (E : XK), A.guards = some [] → Room k A → Env0 P w K mg base A outer s H → BindsTo s fd args (ps.zip us) → Vals vs us → sp vs H Q E → codeAny (model P w) A (.call (.ref f) args) (CR CX0 outer P w H s Q E) s
section
variable {P : Program} {w : World} {K : PySem.W.Frag} {mg : Str → Option Value} {base : Heap}
theorem FnG.of {k : Nat} {f : Addr} {fd : FuncData} {ps : List Str} {sp : Sp} (F : FnOk P w K mg base CX0 k f fd ps sp) : FnG P w K mg base k f fd ps sp := ⟨F.len, fun A outer s H args us vs Q E _ => F.run A outer s H args us vs Q E⟩
theorem fnG_of {k : Nat} {f : Addr} {name x : Str} {params : Arguments} {body : List Stmt} {scope : Scope} {dV kV doc pm cdv ct oc : Value} {an od : Option Addr} {osl : Array (Option Value)} {N ps : List Str} {sp : Sp} (lk : K.lookup f = some ⟨oc, od, .func (PySem.W.fnOf name x params body scope dV kV doc pm an cdv ct), osl⟩) (hcd : PySem.W.codeIn K cdv x = true) (S : FnScope N ps scope) (ln : ∀ vs H Q E, sp vs H Q E → vs.length = ps.length)
    (bd : ∀ (A : Around) (outer : List Env) (s : Shared) (H : Hp) (vs : List V) (Q : VK) (E : XK), A.guards = some [] → Room k (A.deeper (envOfC x scope s.heap.objs.size f cdv)) → sp vs H Q E → ∃ t, PSs (cxOf CX0 P w K mg base N x scope f cdv A outer s H E).nox body t ∧ t { nx := fun _ H' => Q .non H', rt := Q } (start N vs) H) :
    FnG P w K mg base (k + 1) f (PySem.W.fnOf name x params body scope dV kV doc pm an cdv ct) ps sp := by
  refine ⟨ln, fun A outer s H args us vs Q E gd hr e0 hb r hsp => ?_⟩
  have up : ∀ b o, base.get? b = some o → s.heap.get? b = some o := fun b o z => (e0.bs b o z).1
  have KX : K.In s.heap := e0.mod.kin.keeps up
  have par : ∀ y ∈ ps.zip us, scope.names.lookup y.1 = some .local ∨ (scope.names.lookup y.1 = some .cell ∧ ((cellsFrom (s.heap.objs.size + 1) scope.names []).lookup y.1).isSome = true) := fun y hy =>
    (S.par y.1 (List.of_mem_zip (show (y.1, y.2) ∈ ps.zip us from hy)).1).imp id fun q => ⟨q, PySem.W.cellsFrom_some _ _ _ (.inl q)⟩
  refine codeAny_call_function hr.depth (KX _ _ lk) rfl S.co S.gen rfl (PySem.W.codeRec_of KX hcd) (hb _ _ _ _ (wpAny_newFunctionEnv_cells S.kind par fun env he s1 z => ?_))
  subst he
  obtain ⟨t, ht, hq⟩ := bd A outer s H vs Q E gd (hr.deeper _) hsp
  have I := inv_start (CX := CX0) (E := E) S hr.hd e0 (ln _ _ _ _ hsp) r z
  refine ⟨(e0.mod.nolimit.keeps up).keeps z.toInCall.keep, codeAny_func (wpAny_mono (ht.nox.run [] s1 (start N vs) H _ I hq) (fun fl s' hs => ?_) fun e s' hs => hs)⟩
  match fl, hs with
  | .ret u, ⟨v, σ', H', J, rv, q⟩ => exact ⟨v, H', J.os, J.bare, J.base, J.hok, rv, q⟩
  | .next, ⟨σ', H', J, q⟩ => exact ⟨.non, H', J.os, J.bare, J.base, J.hok, rfl, q⟩
  | .brk, ⟨_, _, _, q⟩ => exact q.elim
  | .cont, ⟨_, _, _, q⟩ => exact q.elim
theorem okG {x : Str} {st : Stmt} {f : Addr} {fd : FuncData} {N ps : List Str} {k : Nat} {sp : Sp} (F : Fun K x x st f fd) (S : FnScope N ps (defScope st)) (ln : ∀ vs H Q E, sp vs H Q E → vs.length = ps.length)
    (bd : ∀ (cdv : Value) (A : Around) (outer : List Env) (s : Shared) (H : Hp) (vs : List V) (Q : VK) (E : XK), A.guards = some [] → Room k (A.deeper (envOfC x (defScope st) s.heap.objs.size f cdv)) → sp vs H Q E → ∃ t, PSs (cxOf CX0 P w K mg base N x (defScope st) f cdv A outer s H E).nox (defBody st) t ∧ t { nx := fun _ H' => Q .non H', rt := Q } (start N vs) H) :
    FnG P w K mg base (k + 1) f fd ps sp := by
  obtain ⟨oc, od, kV, doc, pm, an, cdv, ct, osl, rfl, lk, hcd⟩ := F.ex
  exact fnG_of lk hcd S ln fun A outer s H vs Q E gd hr hsp => bd cdv A outer s H vs Q E gd hr hsp
end
section
variable {X : Cx} {k : Nat} {f : Addr} {fd : FuncData} {ps : List Str} {sp : Sp} {E : XK} {x : Str} {p pos : Pos} {e : Expr} {es : List Expr} {t : TA}
theorem pe_callG (F : FnG X.prog X.w X.K X.mg X.base k f fd ps sp) (gd : X.A.guards = some []) (hr : Room k X.A) (hg : Gl X x) (hm : X.mg x = some (.ref f)) (hk : PySem.W.keepIn X.K (.ref f) = true) (hb : Binds X.K fd ps []) (ha : PA X (e :: es) t)
    (hdb : (x == ("__debug__" : Str)) = false := by decide) (he : starEach (e :: es) X.env = (false, eval e X.env) :: starEach es X.env := by rfl) (hpl : (backTo pos (starEach es X.env)).any (·.1) = false := by rfl) : PE X (.Call (.Name x p) (e :: es) [] pos) (tCall sp [] E t) := ⟨fun pins s σ H Q I h => by
  refine wpAny_Call_Name_kw (ld_glob I hg hm (PySem.W.callWith_K (h₀ := X.base) I.ok.mod.kin hk (thn (ha.run pos pins s σ H _ I h) fun us s1 ⟨vs, H1, I1, r, q⟩ => ⟨I1.kIn, ?_⟩) he hpl) hdb)
  have q : sp (vs ++ []) H1 Q E := q
  rw [List.append_nil] at q
  have hl : (us ++ []).length = ps.length := by rw [List.append_nil, ← r.length]; exact F.ln _ _ _ _ q
  have bt := hb s1 us I1.kIn hl
  rw [List.append_nil] at bt
  refine wpAny_call (codeAny_mono (F.go X.A X.stack s1 H1 ⟨us, []⟩ us vs Q E gd hr I1.env0 bt r q) fun r s' z => ?_)
  match r, z with
  | .ok (.ret u), z => exact I1.after z
  | .ok .next, z => exact z.elim
  | .ok .brk, z => exact z.elim
  | .ok .cont, z => exact z.elim
  | .error e, z => exact z.elim⟩
end
/-! ### the end of a law whose def is an FnG: its tables as things that stay tables (Ps), as the head leaves them (Ts) -/
def spLawY (K : PySem.W.Frag) (Ps Ts : List Addr) : Sp := fun vs H Q _ => ∃ (a : Addr) (ns : List Int), vs = [.ref a] ∧ SqL K H a (ns.map V.int) ∧ ns.length ≤ 63 ∧ (∀ p ∈ Ps, H p = some (TabO p)) ∧ (∀ p ∈ Ts, H p = some (.tbl #[])) ∧ ∀ H', (∀ p ∈ Ps, H' p = some (TabO p)) → Q (.bl true) H'
/-- what is tracked at the law's call -/
def hd0 (K : PySem.W.Frag) (Ps Ts : List Addr) (a : Addr) (o : Obj) (xs : List V) : Hp := fun b =>
  if b ∈ Ps then some (TabO b) else if b ∈ Ts then some (.tbl #[]) else if b = a ∧ (K.lookup a).isNone = true then some (.frz o (.lst xs)) else none
/-- a code object c of the module, its table at P, untouched as yet -/
structure CdK (K : PySem.W.Frag) (h : Heap) (P : Addr) : Prop where
  tab : h.get? P = some { cls := .none, data := .fields #[] }
  free : K.lookup P = none
  cd : ∃ c, PySem.W.codeHdIn K c P = true
theorem cdk_mk {K : PySem.W.Frag} {h : Heap} {f c P : Addr} {oc e : Value} {od dd : Option Addr} {fd : FuncData} {osl sl : Array (Option Value)} {vs : Array Value} (O : LamX.OwnTab K f h) (l : K.lookup f = some ⟨oc, od, .func fd, osl⟩) (hc : fd.code = .ref c) (lc : K.lookup c = some ⟨e, dd, .fields vs, sl⟩) (v : vs[11]? = some (.ref P)) (hh : PySem.W.codeHdIn K c P = true) (np : K.lookup P = none) : CdK K h P :=
  ⟨O c P _ fd e dd vs sl l rfl hc lc v, np, c, hh⟩
theorem law_callG {P : Program} {w : World} {K : PySem.W.Frag} {mg mb : Str → Option Value} {k : Nat} {fa a : Addr} {Ps Ts : List Addr} {fd : FuncData} {x : Str} {s₁ : Shared} {vs : List Value} {ns : List Int}
    (KX : K.In s₁.heap) (hns : s₁.heap.Ns mainGlobals mg) (hb : s₁.heap.Ns builtinsNs mb) (hbb : ∀ x : Str, x ≠ "__name__" → mb x = bootBuiltins x) (hlim : s₁.heap.NoLimit) (hg : s₁.gens = #[])
    (CP : ∀ p ∈ Ps, CdK K s₁.heap p) (CT : ∀ p ∈ Ts, CdK K s₁.heap p) (apart : ∀ p ∈ Ts, p ∉ Ps)
    (hbm : ∃ (bm : Addr) (ob : Obj), mg "__builtins__" = some (.ref bm) ∧ bm ≠ builtinsNs ∧ s₁.heap.get? bm = some ob ∧ ob.cls = .type "module" ∧ ob.dict = some builtinsNs ∧ ob.data = .plain)
    (ha : s₁.heap.get? a = some { cls := .type "list", data := .seq vs.toArray }) (hi : IntsAre vs ns) (hl : ns.length ≤ 63) (hr : Room k callerA)
    (F : ∀ base : Heap, K.In base → base.Ns mainGlobals mg → (∀ (c p : Addr), p ∈ Ps ++ Ts → PySem.W.codeHdIn K c p = true → GxR.TabB base mg c p) → FnG P w K mg base k fa fd [x] (spLawY K Ps Ts)) (hbind : ∀ (s : Shared) (u : Value), BindsTo s fd ⟨[u], []⟩ [(x, u)]) :
    codeAny (model P w) callerA (.call (.ref fa) ⟨[.ref a], []⟩) (fun r s' => r = .ok (.ret (.bool true)) ∧ OldK s₁.heap s'.heap ∧ s'.os = s₁.os ∧ AllBare s'.gens) s₁ := by
  have CA : ∀ p ∈ Ps ++ Ts, CdK K s₁.heap p := fun p hp => (List.mem_append.mp hp).elim (CP p) (CT p)
  have rv := vals_ints hi
  have aP : a ∉ Ps ++ Ts := fun z => by
    have q := (CA a z).tab
    rw [ha] at q
    exact absurd (congrArg Obj.data (Option.some.inj q)) (fun z => nomatch z)
  have aP1 : a ∉ Ps := fun z => aP (List.mem_append_left _ z)
  have aP2 : a ∉ Ts := fun z => aP (List.mem_append_right _ z)
  obtain ⟨H, hH⟩ : ∃ H, H = hd0 K Ps Ts a { cls := .type "list", data := .seq vs.toArray } (ns.map V.int) := ⟨_, rfl⟩
  have H1 : ∀ p ∈ Ps, H p = some (TabO p) := fun p hp => by rw [hH]; exact if_pos hp
  have H2 : ∀ p ∈ Ts, H p = some (.tbl #[]) := fun p hp => by rw [hH]; exact (if_neg (apart p hp)).trans (if_pos hp)
  have H3 : ∀ b, b ∉ Ps ++ Ts → b ≠ a → H b = none := fun b h1 h2 => by
    rw [hH]
    exact (if_neg fun z => h1 (List.mem_append_left _ z)).trans ((if_neg fun z => h1 (List.mem_append_right _ z)).trans (if_neg fun z => h2 z.1))
  have Ha : H a = if (K.lookup a).isNone = true then some (.frz { cls := .type "list", data := .seq vs.toArray } (.lst (ns.map V.int))) else none := by
    rw [hH]
    refine (if_neg aP1).trans ((if_neg aP2).trans ?_)
    by_cases hk : (K.lookup a).isNone = true
    · rw [if_pos hk]; exact if_pos ⟨rfl, hk⟩
    · rw [if_neg hk]; exact if_neg fun z => hk z.2
  have low : ∀ {b : Addr} {o : Obj}, s₁.heap.get? b = some o → (∀ u n, o.data ≠ .seq u n) → o.data ≠ .fields #[] → H b = none := fun {b o} e h1 h2 => by
    refine H3 b (fun z => ?_) fun z => ?_
    · rw [(CA b z).tab] at e
      cases e
      exact h2 rfl
    · rw [z, ha] at e
      cases e
      exact h1 _ _ rfl
  have dic : ∀ {b : Addr} {m : Str → Option Value}, s₁.heap.Ns b m → (hidT s₁.heap H).Ns b m := fun {b m} ⟨o, es, ep, e, d, r⟩ => ⟨o, es, ep, hidT_get e (low e (fun u n z => by rw [d] at z; cases z) fun z => by rw [d] at z; cases z), d, r⟩
  have KB : K.In (hidT s₁.heap H) := fun b o e => hidT_get (KX b o e) (by
    by_cases h1 : b ∈ Ps ++ Ts
    · rw [(CA b h1).free] at e; cases e
    · by_cases h2 : b = a
      · subst h2
        rw [Ha, e]
        rfl
      · exact H3 b h1 h2)
  have MO : Mod K mg (hidT s₁.heap H) := ⟨KB, dic hns, ⟨mb, dic hb, hbb⟩, let ⟨mc, l1, l2⟩ := hlim; ⟨mc, dic l1, l2⟩⟩
  have TB : ∀ (c p : Addr), p ∈ Ps ++ Ts → PySem.W.codeHdIn K c p = true → GxR.TabB (hidT s₁.heap H) mg c p := fun c p hp hc => by
    have ht := (CA p hp).tab
    obtain ⟨o, es, ep, eo, ed, _⟩ := hns
    refine ⟨PySem.W.codeHd_of_K KB hc, ?_, fun z => by rw [z, ht] at eo; cases eo; cases ed⟩
    obtain ⟨bm, ob, b1, b2, b3, b4, b5, b6⟩ := hbm
    exact ⟨bm, ob, b1, b2, fun z => (by rw [z, eo] at b3; cases b3; rw [ed] at b6; cases b6), fun z => (by rw [z, ht] at b3; cases b3; cases b6), hidT_get b3 (low b3 (fun u n z => by rw [b6] at z; cases z) fun z => by rw [b6] at z; cases z), b4, b5, b6⟩
  have OK : HOk P w H s₁.heap := fun b u e => by
    by_cases h1 : b ∈ Ps
    · rw [H1 b h1] at e
      cases e
      exact tab_obj ⟨#[], (CP b h1).tab, True.intro⟩
    · by_cases h2 : b ∈ Ts
      · rw [H2 b h2] at e
        cases e
        exact (CT b h2).tab
      · by_cases h3 : b = a
        · subst h3
          rw [Ha] at e
          by_cases hk : (K.lookup b).isNone = true
          · rw [if_pos hk] at e
            cases e
            exact ⟨ha, by rw [List.length_map]; exact Nat.le_trans hl (by decide), vs, _, rv, ha⟩
          · rw [if_neg hk] at e; cases e
        · rw [H3 b (fun z => (List.mem_append.mp z).elim h1 h2) h3] at e; cases e
  have hS : SqL K H a (ns.map V.int) := by
    cases hk : K.lookup a with
    | none => exact .inl (.inr ⟨_, by rw [Ha, hk]; rfl⟩)
    | some o =>
      have e := KX a o hk
      rw [ha] at e
      cases e
      exact .inr ⟨_, vs.toArray, _, hk, rfl, rfl, rfl, by rw [List.size_toArray, hi.length]; exact Nat.le_trans hl (by decide), by simpa using rv⟩
  have e0 : Env0 P w K mg (hidT s₁.heap H) callerA [] s₁ H := ⟨rfl, MO, fun b o e => of_hidT e, Nat.le_of_eq (hidT_size _ _), trivial, fun b hb => absurd (show b ∈ ([] : List Addr) from hb) (by simp), OK, .of_eq hg⟩
  refine codeAny_mono ((F _ KB (dic hns) TB).go callerA [] s₁ H ⟨[.ref a], []⟩ [.ref a] [.ref a] (fun v H' => v = .bl true ∧ ∀ p ∈ Ps, H' p = some (TabO p)) (fun _ _ _ => False) rfl hr e0 (hbind s₁ (.ref a)) (.cons rfl .nil) ⟨a, ns, rfl, hS, hl, H1, H2, fun H' h' => ⟨rfl, h'⟩⟩) fun r s' h => ?_
  match r, h with
  | .error e, h => exact h.elim
  | .ok .next, h => exact h.elim
  | .ok .brk, h => exact h.elim
  | .ok .cont, h => exact h.elim
  | .ok (.ret u), ⟨v, H', os, bare, un, hok', r', q, tb⟩ =>
    subst q
    obtain rfl : u = Value.bool true := r'
    have nf : ∀ b : Addr, b ∉ frs [] := fun b z => absurd (show b ∈ ([] : List Addr) from z) (by simp)
    have same : ∀ b o, b ∉ Ps ++ Ts → s₁.heap.get? b = some o → s'.heap.get? b = some o := fun b o h1 e => by
      by_cases h2 : b = a
      · subst h2
        by_cases hk : (K.lookup b).isNone = true
        · rw [if_pos hk] at Ha
          have z := hok' b _ (un.frzs b _ _ Ha)
          rw [ha] at e
          cases e
          exact z.1
        · rw [if_neg hk] at Ha
          exact un.keep b o e Ha (nf b) (by simp)
      · exact un.keep b o e (H3 b h1 h2) (nf b) (by simp)
    have grown : ∀ p ∈ Ps ++ Ts, ∃ more : Array Value, s'.heap.get? p = some { cls := .none, data := .fields more } := fun p hp => by
      rcases List.mem_append.mp hp with hp | hp
      · obtain ⟨⟨ps, e, _⟩, _⟩ := hok' p _ (tb p hp)
        exact ⟨ps, e⟩
      · obtain ⟨more, z⟩ := un.tbls p #[] (H2 p hp)
        exact ⟨_, hok' p _ z⟩
    refine ⟨rfl, ⟨fun b o e => ?_, fun b o e => ?_⟩, os, bare⟩
    · by_cases h1 : b ∈ Ps ++ Ts
      · obtain ⟨more, hm⟩ := grown b h1
        have ht := (CA b h1).tab
        obtain ⟨c, hc⟩ := (CA b h1).cd
        rw [ht] at e
        cases e
        exact .inr (.inl ⟨((PySem.W.codeHd_of_K KX hc).tab ht).isCodeTable, rfl, #[], more, rfl, by rw [Array.empty_append]; exact hm⟩)
      · exact .inl (same b o h1 e)
    · by_cases h1 : b ∈ Ps ++ Ts
      · obtain ⟨more, hm⟩ := grown b h1
        exact ⟨_, hm⟩
      · exact ⟨o, same b o h1 e⟩
/-- what is known of the law's def at the head's heap -/
def LawG (l : PySem.W.OpenLaw) (w : World) (K : PySem.W.Frag) (k : Nat) (x : Str) (mg : Str → Option Value) (fa : Addr) (h : Heap) : Prop :=
  ∃ (fd : FuncData) (Ps Ts : List Addr), (∀ p ∈ Ps, CdK K h p) ∧ (∀ p ∈ Ts, CdK K h p) ∧ (∀ p ∈ Ts, p ∉ Ps) ∧ (∀ (s : Shared) (u : Value), BindsTo s fd ⟨[u], []⟩ [(x, u)]) ∧
    ∀ base : Heap, K.In base → base.Ns mainGlobals mg → (∀ (c p : Addr), p ∈ Ps ++ Ts → PySem.W.codeHdIn K c p = true → GxR.TabB base mg c p) → FnG l.prog w K mg base k fa fd [x] (spLawY K Ps Ts)
theorem walk_G {l : PySem.W.OpenLaw} {k : Nat} {q : Program} {loose : List Str} {XP : (Str → Option Value) → Heap → Prop} {YP : World → Heap → Prop} {d : DefRec} {K : Params → PySem.W.Frag} {x : Str} (names : List Str)
    (hn : l.most = some 63) (hdf : d.params.defaults = []) (hr : Room k callerA) (hrec : (names.all fun nm => (recsOf q).any fun e => e.name == nm) = true) (hY : ∀ (w : World) (h : Heap), YP w h → (K w.params).In h)
    (F : ∀ (w : World) (mg : Str → Option Value) (fa : Addr) (h : Heap), (K w.params).In h → h.Ns mainGlobals mg → mg d.name = some (.ref fa) → (∀ nm ∈ names, ∀ f, mg nm = some (.ref f) → LamX.OwnTab (K w.params) f h) → LawG l w (K w.params) k x mg fa h) :
    PySem.W.WalkO q loose XP YP l.row.toRowW d [] (fun f vs => PySem.call f vs) := by
  refine Att.attach_callB hn hdf fun w s₀ s₁ mg mb fa o pm cd doc a vs ns G Y ho hd hcd hmg hobj hints hlen hbits hg => ?_
  have KX := hY w _ Y
  have own : ∀ nm ∈ names, ∀ f, mg nm = some (.ref f) → LamX.OwnTab (K w.params) f s₁.heap := fun nm hnm f hf c P o1 fd1 e dd vs1 sl k1 k2 k3 k4 k5 => by
    obtain ⟨r, hr1, hr2⟩ := List.any_eq_true.mp (List.all_eq_true.mp hrec nm hnm)
    have er : r.name = nm := beq_iff_eq.mp hr2
    obtain ⟨a', o', fd', c', P', h1, h2, h3, h4, _, h6⟩ := G.T.tab r hr1
    rw [er, hf] at h1
    cases h1
    rw [KX _ _ k1] at h2
    cases h2
    rw [k2] at h3
    cases h3
    rw [k3] at h4
    cases h4
    obtain ⟨⟨oc, vc, e1, _, e3, e4⟩, hP⟩ := h6
    rw [KX _ _ k4] at e1
    cases e1
    cases e3
    rw [k5] at e4
    cases e4
    exact hP
  obtain ⟨fd, Ps, Ts, c1, c2, c3, hb, hF⟩ := F w mg fa _ KX G.T.g hmg own
  exact law_callG KX G.T.g G.T.b G.T.builtins G.T.nolimit hg c1 c2 c3 G.T.bmain hobj hints hlen hr hF hb
/-! ### things: data with lists and dicts, apart from the box at b; c: no list stands at the modules' place -/
def keyD : Key → PyData
  | .inl i => .int i
  | .inr x => .str x
def dictD (ks : List (Key × Int)) : PyData := .dict (ks.map fun p => (keyD p.1, .int p.2))
mutual
inductive Od (K : PySem.W.Frag) (b : Addr) (c : Bool) (H : Hp) : V → PyData → Prop
  | non : Od K b c H .non .none
  | bl (x : Bool) : Od K b c H (.bl x) (.bool x)
  | int (i : Int) : Od K b c H (.int i) (.int i)
  | str (x : Str) : Od K b c H (.str x) (.str x)
  | tup {a : Addr} {xs : List V} {ds : List PyData} : SqT K H a xs → OdAll K b c H xs ds → Od K b c H (.ref a) (.tuple ds)
  | lst {a : Addr} {xs : List V} {ds : List PyData} : a ≠ b → H a = some (.lst xs) → (c = true → a ≠ sysModules) → OdAll K b c H xs ds → Od K b c H (.ref a) (.list ds)
  | dct {a : Addr} {ks : List (Key × Int)} : a ≠ b → H a = some (.dK (ks.map fun p => (p.1, V.int p.2))) → Od K b c H (.ref a) (dictD ks)
inductive OdAll (K : PySem.W.Frag) (b : Addr) (c : Bool) (H : Hp) : List V → List PyData → Prop
  | nil : OdAll K b c H [] []
  | cons {v : V} {vs : List V} {d : PyData} {ds : List PyData} : Od K b c H v d → OdAll K b c H vs ds → OdAll K b c H (v :: vs) (d :: ds)
end
section
variable {K : PySem.W.Frag} {b : Addr} {c : Bool} {H H' : Hp}
mutual
theorem od_bk (x : Bk b H H') : ∀ {v : V} {d : PyData}, Od K b c H v d → Od K b c H' v d
  | _, _, .non => .non
  | _, _, .bl y => .bl y
  | _, _, .int i => .int i
  | _, _, .str y => .str y
  | _, _, .tup h a => .tup (tx_sq x.tx h) (oda_bk x a)
  | _, _, .lst n h m a => .lst n (x.bx _ _ n h) m (oda_bk x a)
  | _, _, .dct n h => .dct n (x.bx _ _ n h)
theorem oda_bk (x : Bk b H H') : ∀ {vs : List V} {ds : List PyData}, OdAll K b c H vs ds → OdAll K b c H' vs ds
  | _, _, .nil => .nil
  | _, _, .cons h t => .cons (od_bk x h) (oda_bk x t)
end
theorem od_ex (e : Ex H H') {v : V} {d : PyData} (h : Od K b c H v d) : Od K b c H' v d := od_bk (bk_ex e) h
theorem oda_ex (e : Ex H H') {vs : List V} {ds : List PyData} (h : OdAll K b c H vs ds) : OdAll K b c H' vs ds := oda_bk (bk_ex e) h
mutual
theorem od_dt : ∀ {v : V} {d : PyData}, Dt K H v d → Od K b c H v d
  | _, _, .non => .non
  | _, _, .bl y => .bl y
  | _, _, .int i => .int i
  | _, _, .str y => .str y
  | _, _, .tup h a => .tup h (oda_dt a)
theorem oda_dt : ∀ {vs : List V} {ds : List PyData}, DtAll K H vs ds → OdAll K b c H vs ds
  | _, _, .nil => .nil
  | _, _, .cons h t => .cons (od_dt h) (oda_dt t)
end
theorem oda_len : ∀ {vs : List V} {ds : List PyData}, OdAll K b c H vs ds → vs.length = ds.length
  | _, _, .nil => rfl
  | _, _, .cons _ t => by rw [List.length_cons, List.length_cons, oda_len t]
theorem oda_get : ∀ {vs : List V} {ds : List PyData} {i : Nat} {v : V}, OdAll K b c H vs ds → vs[i]? = some v → ∃ d, ds[i]? = some d ∧ Od K b c H v d
  | _, _, _, _, .nil, e => by simp at e
  | _, _, 0, _, .cons h _, e => by simp at e; subst e; exact ⟨_, rfl, h⟩
  | _, _, i + 1, v, .cons _ t, e => by
    obtain ⟨d, h1, h2⟩ := oda_get (i := i) (v := v) t (by simpa using e)
    exact ⟨d, by simpa using h1, h2⟩
theorem oda_get' : ∀ {vs : List V} {ds : List PyData} {i : Nat} {d : PyData}, OdAll K b c H vs ds → ds[i]? = some d → ∃ v, vs[i]? = some v ∧ Od K b c H v d
  | _, _, _, _, .nil, e => by simp at e
  | _, _, 0, _, .cons h _, e => by simp at e; subst e; exact ⟨_, rfl, h⟩
  | _, _, i + 1, d, .cons _ t, e => by
    obtain ⟨v, h1, h2⟩ := oda_get' (i := i) (d := d) t (by simpa using e)
    exact ⟨v, by simpa using h1, h2⟩
theorem oda_app : ∀ {vs ws : List V} {ds es : List PyData}, OdAll K b c H vs ds → OdAll K b c H ws es → OdAll K b c H (vs ++ ws) (ds ++ es)
  | _, _, _, _, .nil, s => s
  | _, _, _, _, .cons h t, s => .cons h (oda_app t s)
theorem oda_take : ∀ {vs : List V} {ds : List PyData} (n : Nat), OdAll K b c H vs ds → OdAll K b c H (vs.take n) (ds.take n)
  | _, _, 0, _ => .nil
  | _, _, _ + 1, .nil => .nil
  | _, _, n + 1, .cons h t => .cons h (oda_take n t)
/-- the type of a thing -/
def tyD : PyData → String
  | .none => "NoneType"
  | .bool _ => "bool"
  | .int _ => "int"
  | .str _ => "str"
  | .list _ => "list"
  | .tuple _ => "tuple"
  | .dict _ => "dict"
theorem tyD_in (d : PyData) : tyD d ∈ tyNames := by cases d <;> simp [tyD, tyNames]
theorem od_ty {v : V} {d : PyData} (h : Od K b c H v d) : TyX K H v (.type (tyD d)) := by
  cases h with
  | non => exact .base .non
  | bl y => exact .base (.bl y)
  | int i => exact .base (.int i)
  | str y => exact .base (.str y)
  | tup h a =>
    rcases h with (h | ⟨o, h⟩) | ⟨o, its, n, hk, hc, _⟩
    · exact .base (.tup h)
    · exact .fTuple h
    · exact .kTuple hk hc
  | lst n h m a => exact .base (.lst h)
  | dct n h => exact .base (.dK h)
end
section
variable {X : Cx} {pins : List (Addr × Obj)} {σ : L2.St} {H : Hp} {s : Shared} {b : Addr} {c : Bool}
theorem pairs_read {es : List DictEntry} {kvs : List (Key × Value)} (p : Pairs (mixKind X.prog X.w) es kvs) : ∀ {ks : List (Key × Int)}, KV (ks.map fun p => (p.1, V.int p.2)) kvs → ReadsAll s.heap (es.map (·.key)) (ks.map fun p => keyD p.1) [] ∧ ReadsAll s.heap (es.map (·.val)) (ks.map fun p => PyData.int p.2) [] := by
  induction p with
  | nil =>
    intro ks r
    cases ks with
    | nil => exact ⟨.nil, .nil⟩
    | cons p r' => cases r
  | @cons e kv es kvs h1 h2 _ ih =>
    intro ks r
    cases ks with
    | nil => cases r
    | cons q r' =>
      cases r with
      | cons a t =>
        obtain ⟨g1, g2⟩ := ih t
        have hk : Reads s.heap e.key (keyD q.1) [] := by
          have h1 : keyIs kv.1 e.key = true := h1
          rw [← show q.1 = kv.1 from a.1] at h1
          rcases keyIs_shape h1 with ⟨i, t, z1, z2⟩ | ⟨y, t, z1, z2⟩
          · rw [z1, z2]; exact .int i t
          · rw [z1, z2]; exact .str y t
        have hv : Reads s.heap e.val (.int q.2) [] := by
          obtain ⟨t, z⟩ := a.2
          rw [h2, z]
          exact .int _ t
        exact ⟨.cons (as := []) (bs := []) hk g1, .cons (as := []) (bs := []) hv g2⟩
mutual
theorem od_reads (I : Inv X pins σ H s) : ∀ {v : V} {d : PyData} {u : Value}, Od X.K b c H v d → RelV v u → ∃ as, Reads s.heap u d as ∧ (c = true → sysModules ∉ as)
  | _, _, _, .non, r => by
    cases r
    exact ⟨_, .none, fun _ z => nomatch z⟩
  | _, _, _, .bl y, r => by
    cases r
    exact ⟨_, .bool y, fun _ z => nomatch z⟩
  | _, _, _, .int i, r => by
    obtain ⟨t, rfl⟩ := r
    exact ⟨_, .int i t, fun _ z => nomatch z⟩
  | _, _, _, .str y, r => by
    obtain ⟨t, rfl⟩ := r
    exact ⟨_, .str y t, fun _ z => nomatch z⟩
  | _, _, _, .tup hs ha, r => by
    cases r
    obtain ⟨its, rv, ⟨o, ho, hc, n, hd⟩, _⟩ := I.tuple hs
    obtain ⟨as, hr, hn⟩ := oda_reads I ha rv
    exact ⟨_, .tuple ho hc hd hr, hn⟩
  | _, _, _, .lst _ hs hm ha, r => by
    cases r
    obtain ⟨its, rv, ⟨o, n, ho, hc, _, hd⟩, _⟩ := I.list (sq_of hs)
    obtain ⟨as, hr, hn⟩ := oda_reads I ha rv
    refine ⟨_, .list ho hc hd hr, fun hc z => ?_⟩
    rcases List.mem_cons.mp z with z | z
    · exact hm hc z.symm
    · exact hn hc z
  | _, _, _, .dct _ hs, r => by
    cases r
    obtain ⟨_, hsys, vs, kv, o, es, ep, ho, hx, hd, _, hp, _⟩ := dk_of I.hok hs
    obtain ⟨g1, g2⟩ := pairs_read (X := X) (s := s) hp kv
    refine ⟨_, .dict (as := []) (bs := []) ho hx.1 hd (by rw [List.map_map]; exact g1) (by rw [List.map_map]; exact g2), fun _ z => ?_⟩
    have z' : sysModules ∈ [_] := z
    rw [← List.mem_singleton.mp z'] at hsys
    cases hsys
theorem oda_reads (I : Inv X pins σ H s) : ∀ {vs : List V} {ds : List PyData} {us : List Value}, OdAll X.K b c H vs ds → Vals vs us → ∃ as, ReadsAll s.heap us ds as ∧ (c = true → sysModules ∉ as)
  | _, _, _, .nil, r => by
    cases r
    exact ⟨_, .nil, fun _ z => nomatch z⟩
  | _, _, _, .cons h t, r => by
    cases r with
    | cons r1 r2 =>
      obtain ⟨as, q1, n1⟩ := od_reads I h r1
      obtain ⟨bs, q2, n2⟩ := oda_reads I t r2
      exact ⟨_, .cons q1 q2, fun hc z => (List.mem_append.mp z).elim (n1 hc) (n2 hc)⟩
end
/-! repr -/
def showOk (d : PyData) : Prop := d.showable = true ∧ d.depth ≤ 40 ∧ d.shown.length ≤ sizeLine
def rRep (K : PySem.W.Frag) : List V → Hp → VK → Prop := fun xs H Q => ∃ (b : Addr) (c : Bool) (v : V) (d : PyData), xs = [v] ∧ Od K b c H v d ∧ (c = true ∨ d.hasDict = false) ∧ showOk d ∧ Q (.str d.shown) H
theorem call_rep (gd : X.A.guards = some []) (hu : X.A.units + 64 < cLine) : CallR X (.builtin "repr") (rRep X.K) := by
  intro pins s σ H xs us Q I r h
  obtain ⟨b, c, v, d, rfl, hd, hc, ⟨h1, h2, h3⟩, q⟩ := h
  obtain ⟨u, rfl, ru⟩ := vals1 r
  obtain ⟨as, hr, hn⟩ := od_reads I hd ru
  have sm : d.hasDict = true → sysModules ∉ as := fun z => hc.elim hn fun y => by rw [z] at y; cases y
  cases hr with
  | none => exact PySem.P.repr_of_none ⟨.str _, H, I.tok _, ⟨_, rfl⟩, q⟩
  | bool y => exact PySem.P.repr_of_bool ⟨.str _, H, I.tok _, ⟨_, rfl⟩, q⟩
  | int i t => exact PySem.P.repr_of_int (of_decide_eq_true h1) ⟨.str _, H, I.tok _, ⟨_, rfl⟩, q⟩
  | str y t => exact PySem.P.repr_of_str ⟨.str _, H, I.tok _, ⟨_, rfl⟩, q⟩ h3
  | list e1 e2 e3 e4 => exact repr_of_reads' (.list e1 e2 e3 e4) h1 sm gd (by omega) (fun _ _ e => e) (fun h' u tk hk => ⟨.str _, H, I.kept hk, ⟨_, rfl⟩, q⟩) h3
  | tuple e1 e2 e3 e4 => exact repr_of_reads' (.tuple e1 e2 e3 e4) h1 sm gd (by omega) (fun _ _ e => e) (fun h' u tk hk => ⟨.str _, H, I.kept hk, ⟨_, rfl⟩, q⟩) h3
  | dict e1 e2 e3 e4 e5 => exact repr_of_reads' (.dict e1 e2 e3 e4 e5) h1 sm gd (by omega) (fun _ _ e => e) (fun h' u tk hk => ⟨.str _, H, I.kept hk, ⟨_, rfl⟩, q⟩) h3
/-! l != [] -/
def rNe0 (K : PySem.W.Frag) : R2 := fun x y H Q => ∃ (p q : Addr) (xs : List V), x = .ref p ∧ y = .ref q ∧ SqL K H p xs ∧ SqL K H q [] ∧ Q (.bl (!xs.isEmpty)) H
theorem op_ne0 (hu : X.A.units + 64 < cLine) : OpR X (compareOp .NotEq) (rNe0 X.K) := by
  intro pins s σ H x y v u Q I rx ry h
  obtain ⟨p, q, xs, rfl, rfl, hp, hq, k⟩ := h
  cases rx
  cases ry
  obtain ⟨its, rv, l1, _⟩ := I.list hp
  obtain ⟨its2, rv2, l2, _⟩ := I.list hq
  cases rv2
  cases xs with
  | nil =>
    cases rv
    obtain ⟨o, n, ho, hc, _, hd⟩ := l1
    obtain ⟨o2, n2, ho2, hc2, _, hd2⟩ := l2
    exact SeqAt.compareNe_shaped (.list ho hc hd .nil) (.list ho2 hc2 hd2 .nil) (by decide +kernel) (by decide +kernel) hu ⟨.bl _, H, I, rfl, k⟩
  | cons z zs =>
    cases rv
    exact SeqAt.RcNeAt.lists_lengths l1.isList l2.isList (by simp) (by omega) X.prog X.w _ _ ⟨.bl _, H, I, rfl, k⟩
/-! a list that is made stands elsewhere than the modules -/
def tLstB (t : TA) : TE := fun σ H Q => t σ H fun xs H1 => xs.length ≤ sizeLine ∧ ∀ p, H1 p = none → p ≠ sysModules → Q (.ref p) (upd H1 p (.lst xs))
theorem pe_lstB {es : List Expr} {t : TA} {pos : Pos} (h : PA X es t) : PE X (.List es pos) (tLstB t) := ⟨fun pins s σ H Q I hq => wpAny_List_spliced (thn (h.run pos pins s σ H _ I hq) fun us s1 ⟨xs, H1, I1, r, z, q⟩ => ⟨by rw [← r.length]; exact z,
  .ref s1.heap.objs.size, upd H1 s1.heap.objs.size (.lst xs), I1.laid (t' := s1.toks) (fun b u e => Heap.get?_push_of_some _ e) (Nat.le_refl _) ⟨z, us, 0, r, Heap.get?_push_size _ rfl⟩, rfl, q _ (I1.hok.fresh (Nat.le_refl _)) (Nat.ne_of_gt I1.big)⟩)⟩
end
/-! ### what evaluates to which thing -/
theorem any_filter {α : Type} (f : α → Bool) : ∀ xs : List α, (!(xs.filter f).isEmpty) = xs.any f
  | [] => rfl
  | x :: xs => by
    rw [List.filter_cons, List.any_cons]
    cases f x with
    | true => rfl
    | false => exact any_filter f xs
def EvO (K : PySem.W.Frag) (b : Addr) (c : Bool) (te : TE) (σ : L2.St) (H : Hp) (d : PyData) : Prop := ∀ H1, Ex H H1 → ∀ Q : VK, (∀ v H2, Ex H1 H2 → Od K b c H2 v d → Q v H2) → te σ H1 Q
def EvOB (K : PySem.W.Frag) (b : Addr) (c : Bool) (ta : TA) (σ : L2.St) (H : Hp) (ds : List PyData) : Prop := ∀ H1, Ex H H1 → ∀ Q : List V → Hp → Prop, (∀ vs H2, Ex H1 H2 → OdAll K b c H2 vs ds → Q vs H2) → ta σ H1 Q
section
variable {K : PySem.W.Frag} {b : Addr} {c : Bool} {σ : L2.St} {H H' : Hp} {ta tb te tl : TE} {t : TT} {v : V} {d : PyData} {ds es : List PyData}
theorem EvO.mono (e : Ex H H') (h : EvO K b c te σ H d) : EvO K b c te σ H' d := fun H1 a Q q => h H1 (e.trans a) Q q
theorem eo_d (h : EvD K te σ H d) : EvO K b c te σ H d := fun H1 e Q q => h H1 e Q fun v H2 e2 hv => q v H2 e2 (od_dt hv)
theorem eo_var {i : Nat} (h : σ[i]? = some (some v)) (hd : Od K b c H v d) : EvO K b c (tVar i) σ H d := fun H1 e _ q => ⟨v, h, q v H1 (Ex.refl H1) (od_ex e hd)⟩
theorem eo_is {e : PyData} (h : EvO K b c te σ H d) (q : d = e) : EvO K b c te σ H e := q ▸ h
theorem ob_nil : EvOB K b c tNil σ H [] := fun H1 _ _ q => q [] H1 (Ex.refl H1) .nil
theorem ob_cons {tr : TA} (h : EvO K b c ta σ H d) (hr : EvOB K b c tr σ H ds) : EvOB K b c (tCons ta tr) σ H (d :: ds) := fun H1 e _ q =>
  h H1 e _ fun v H2 e2 hd => hr H2 (e.trans e2) _ fun vs H3 e3 ha => q (v :: vs) H3 (e2.trans e3) (.cons (od_ex e3 hd) ha)
theorem eo_non : EvO K b c (tC .non) σ H .none := fun H1 _ _ q => q _ H1 (Ex.refl H1) .non
theorem eo_bl {x : Bool} : EvO K b c (tC (.bl x)) σ H (.bool x) := fun H1 _ _ q => q _ H1 (Ex.refl H1) (.bl x)
theorem eo_str {x : Str} : EvO K b c (tC (.str x)) σ H (.str x) := fun H1 _ _ q => q _ H1 (Ex.refl H1) (.str x)
theorem eo_int {i : Int} (h : Ev te σ H (.int i)) : EvO K b c te σ H (.int i) := eo_d (ed_int h)
theorem eo_tup {ta : TA} (h : EvOB K b c ta σ H ds) (hl : ds.length ≤ 100000) : EvO K b c (tTup ta) σ H (.tuple ds) := fun H1 e _ q =>
  h H1 e _ fun vs H2 e2 ha => ⟨sz_of (by rw [oda_len ha]; exact hl), fun p hp => q _ _ (e2.trans (Ex.new hp)) (.tup (.inl (.inl upd_same)) (oda_ex (Ex.new hp) ha))⟩
theorem eo_lst {ta : TA} (hb : BoxAt H b) (h : EvOB K b c ta σ H ds) (hl : ds.length ≤ 100000) : EvO K b c (tLstB ta) σ H (.list ds) := fun H1 e _ q =>
  h H1 e _ fun vs H2 e2 ha => ⟨sz_of (by rw [oda_len ha]; exact hl), fun p hp hs => q _ _ (e2.trans (Ex.new hp)) (.lst (box_ne (hb.ex (e.trans e2)) hp) upd_same (fun _ => hs) (oda_ex (Ex.new hp) ha))⟩
theorem eo_dict0 (hb : BoxAt H b) : EvO K b c tDNewK σ H (dictD []) := fun H1 e _ q p hp => q _ _ (Ex.new hp) (.dct (ks := []) (box_ne (hb.ex e) hp) upd_same)
theorem eo_dict1 {i j : Int} (hb : BoxAt H b) : EvO K b c (tDisp [(tC (.int i), tC (.int j))]) σ H (dictD [(.inl i, j)]) := fun H1 e _ q p hp =>
  ⟨upd_same, [(.inl i, .int j)], rfl, by show 1 ≤ 15; decide, q _ _ (Ex.mut (Ex.new hp) hp) (.dct (ks := [(.inl i, j)]) (box_ne (hb.ex e) hp) upd_same)⟩
theorem eo_dict2 {i j k l : Int} (hb : BoxAt H b) (hk : i ≠ k) : EvO K b c (tDisp [(tC (.int i), tC (.int j)), (tC (.int k), tC (.int l))]) σ H (dictD [(.inl i, j), (.inl k, l)]) := fun H1 e _ q p hp =>
  ⟨upd_same, [(.inl i, .int j), (.inl k, .int l)], rfl, by show 2 ≤ 15; decide, q _ _ (Ex.mut (Ex.new hp) hp) (.dct (ks := [(.inl i, j), (.inl k, l)]) (box_ne (hb.ex e) hp) (by
    rw [upd_same]
    congr 2
    show putK (putK ([] : List (Key × V)) (Sum.inl i) (.int j)) (Sum.inl k) (.int l) = _
    have e1 : putK ([] : List (Key × V)) (Sum.inl i) (.int j) = [(Sum.inl i, .int j)] := rfl
    rw [e1, putK_new (.int l) (by rw [valV_neg (fun z => hk (Sum.inl.inj z))]; rfl)]
    rfl))⟩
theorem eo_cat {xs ys : List PyData} (ha : EvO K b c ta σ H (.tuple xs)) (hb : EvO K b c tb σ H (.tuple ys)) (hl : xs.length + ys.length ≤ 100000) : EvO K b c (tOp (rCatA K) ta tb) σ H (.tuple (xs ++ ys)) := fun H1 e Q q =>
  ha H1 e _ fun v H2 e2 hv => hb H2 (e.trans e2) _ fun w H3 e3 hw => by
    have hv := od_ex e3 hv
    cases hv with
    | tup hs hx =>
      cases hw with
      | tup ht hy =>
        refine ⟨_, _, _, _, rfl, rfl, hs, ht, sz_of (by rw [oda_len hx, oda_len hy]; exact hl), fun z => ?_, fun _ z => ?_, fun _ _ p hp => ?_⟩
        · subst z
          cases hx
          exact q _ _ (e2.trans e3) (.tup ht hy)
        · subst z
          cases hy
          rw [List.append_nil] at q
          exact q _ _ (e2.trans e3) (.tup hs hx)
        · exact q _ _ ((e2.trans e3).trans (Ex.new hp)) (.tup (.inl (.inl upd_same)) (oda_ex (Ex.new hp) (oda_app hx hy)))
/-- list(t), of a tuple -/
theorem eo_list (hb : BoxAt H b) (h : EvO K b false te σ H (.tuple ds)) : EvO K b false (tCB (rListS K) (tCons te tNil)) σ H (.list ds) := fun H1 e Q q =>
  h H1 e _ fun v H2 e2 hv => by
    cases hv with
    | tup hs hx => exact ⟨_, _, rfl, .inr hs, fun p hp => q _ _ (e2.trans (Ex.new hp)) (.lst (box_ne (hb.ex (e.trans e2)) hp) upd_same (fun z => nomatch z) (oda_ex (Ex.new hp) hx))⟩
theorem cutV_take (xs : List V) (n : Nat) : cutV xs none (some (n : Int)) = xs.take n := by
  unfold cutV
  rw [HT.sIx_none, show HT.sIx xs.length xs.length (some (n : Int)) = min n xs.length from HT.sIx_nat xs.length xs.length n]
  show (xs.drop 0).take (min n xs.length - 0) = xs.take n
  rw [List.drop_zero, Nat.sub_zero, List.take_eq_take_iff]
  simp
/-- t[:n] -/
theorem eo_cut {n : Nat} {tn : TE} (h : EvO K b c te σ H (.tuple ds)) (hn : Ev tn σ H (.int (n : Int))) : EvO K b c (tSl (rSlA K) te tNoPart (tPart tn)) σ H (.tuple (ds.take n)) := fun H1 e Q q =>
  h H1 e _ fun v H2 e2 hv => hn H2 (e.trans e2) _ fun H3 e3 => by
    have hv := od_ex e3 hv
    cases hv with
    | tup hs hx =>
      rename_i a xs
      refine ⟨_, rfl, _, _, rfl, hs, fun hw => ?_, fun hw p hp => ?_⟩
      · have h2 := hw.2
        rw [show HT.sIx xs.length xs.length (some (n : Int)) = min n xs.length from HT.sIx_nat xs.length xs.length n] at h2
        have : ds.take n = ds := List.take_of_length_le (by rw [← oda_len hx]; omega)
        rw [this] at q
        exact q _ _ (e2.trans e3) (.tup hs hx)
      · refine q _ _ ((e2.trans e3).trans (Ex.new hp)) (.tup (.inl (.inl (by rw [upd_same, cutV_take]))) (oda_ex (Ex.new hp) (oda_take n hx)))
/-- range from below nought on -/
theorem s_forRN {D : Ends} {tu : TS} {ta : TA} {j : Nat} {lo n : Int} (h : EvA ta σ H [.int lo, .int n]) (hn : -1000 ≤ lo ∧ lo ≤ 1000 ∧ -1000 ≤ n ∧ n ≤ 1000) (Pv : Nat → L2.St → Hp → Prop) (h0 : ∀ H1, Ex H H1 → Pv 0 σ H1)
    (hs : ∀ (i : Nat) σ' H', lo + (i : Int) < n → Pv i σ' H' → tu { D with nx := Pv (i + 1), ct := Pv (i + 1), bk := D.nx } (σ'.set j (some (.int (lo + (i : Int))))) H') (hd : ∀ σ' H', Pv (n - lo).toNat σ' H' → D.nx σ' H') : tFor (iRng2 ta) (gName j) tu D σ H :=
  h H (Ex.refl H) _ fun H1 e => ⟨lo, n, rfl, ⟨by omega, by omega, by omega, by omega⟩, for_range (lo := lo) (n := (n - lo).toNat) Pv (h0 H1 e) (fun i σ' H' hi p => hs i σ' H' (by omega) p) hd⟩
theorem q_forRN {D : Ends} {tu tz : TS} {ta : TA} {j : Nat} {lo n : Int} (h : EvA ta σ H [.int lo, .int n]) (hn : -1000 ≤ lo ∧ lo ≤ 1000 ∧ -1000 ≤ n ∧ n ≤ 1000) (Pv : Nat → L2.St → Hp → Prop) (h0 : ∀ H1, Ex H H1 → Pv 0 σ H1)
    (hs : ∀ (i : Nat) σ' H', lo + (i : Int) < n → Pv i σ' H' → tu { D with nx := Pv (i + 1), ct := Pv (i + 1), bk := tz D } (σ'.set j (some (.int (lo + (i : Int))))) H') (hd : ∀ σ' H', Pv (n - lo).toNat σ' H' → tz D σ' H') : tSeq (tFor (iRng2 ta) (gName j) tu) tz D σ H := s_forRN (D := { D with nx := tz D }) h hn Pv h0 hs hd
end
/-! things for the asking -/
def Tg (K : PySem.W.Frag) (b : Addr) (H : Hp) (v : V) (d : PyData) : Prop := ∃ c, Od K b c H v d ∧ (c = true ∨ d.hasDict = false)
inductive TgAll (K : PySem.W.Frag) (b : Addr) (H : Hp) : List V → List PyData → Prop
  | nil : TgAll K b H [] []
  | cons {v : V} {vs : List V} {d : PyData} {ds : List PyData} : Tg K b H v d → TgAll K b H vs ds → TgAll K b H (v :: vs) (d :: ds)
def EvTB (K : PySem.W.Frag) (b : Addr) (ta : TA) (σ : L2.St) (H : Hp) (ds : List PyData) : Prop := ∀ H1, Ex H H1 → ∀ Q : List V → Hp → Prop, (∀ vs H2, Ex H1 H2 → TgAll K b H2 vs ds → Q vs H2) → ta σ H1 Q
def EvTF (K : PySem.W.Frag) (b : Addr) (te : TE) (σ : L2.St) (H : Hp) (ds : List PyData) : Prop := ∀ H1, Ex H H1 → ∀ Q : VK, (∀ p xs H2, H1 p = none → Ex H1 H2 → H2 p = some (.lst xs) → TgAll K b H2 xs ds → Q (.ref p) H2) → te σ H1 Q
section
variable {K : PySem.W.Frag} {b : Addr} {c : Bool} {σ : L2.St} {H H' : Hp} {ta tb te tl : TE} {t : TT} {v : V} {d : PyData} {ds es : List PyData} {D : Ends} {tz tu : TS} {i : Nat}
theorem tg_bk (x : Bk b H H') (h : Tg K b H v d) : Tg K b H' v d := by
  obtain ⟨c, h1, h2⟩ := h
  exact ⟨c, od_bk x h1, h2⟩
theorem tg_ex (e : Ex H H') (h : Tg K b H v d) : Tg K b H' v d := tg_bk (bk_ex e) h
theorem tga_ex (e : Ex H H') : ∀ {vs : List V} {ds : List PyData}, TgAll K b H vs ds → TgAll K b H' vs ds
  | _, _, .nil => .nil
  | _, _, .cons h t => .cons (tg_ex e h) (tga_ex e t)
theorem tga_len : ∀ {vs : List V} {ds : List PyData}, TgAll K b H vs ds → vs.length = ds.length
  | _, _, .nil => rfl
  | _, _, .cons _ t => by rw [List.length_cons, List.length_cons, tga_len t]
theorem tga_get : ∀ {vs : List V} {ds : List PyData} {i : Nat} {v : V}, TgAll K b H vs ds → vs[i]? = some v → ∃ d, ds[i]? = some d ∧ Tg K b H v d
  | _, _, _, _, .nil, e => by simp at e
  | _, _, 0, _, .cons h _, e => by simp at e; subst e; exact ⟨_, rfl, h⟩
  | _, _, i + 1, v, .cons _ t, e => by
    obtain ⟨d, h1, h2⟩ := tga_get (i := i) (v := v) t (by simpa using e)
    exact ⟨d, by simpa using h1, h2⟩
theorem tga_app : ∀ {vs ws : List V} {ds es : List PyData}, TgAll K b H vs ds → TgAll K b H ws es → TgAll K b H (vs ++ ws) (ds ++ es)
  | _, _, _, _, .nil, s => s
  | _, _, _, _, .cons h t, s => .cons h (tga_app t s)
theorem tb_nil : EvTB K b tNil σ H [] := fun H1 _ _ q => q [] H1 (Ex.refl H1) .nil
theorem tb_cons {tr : TA} (h : EvO K b true ta σ H d) (hr : EvTB K b tr σ H ds) : EvTB K b (tCons ta tr) σ H (d :: ds) := fun H1 e _ q =>
  h H1 e _ fun v H2 e2 hd => hr H2 (e.trans e2) _ fun vs H3 e3 ha => q (v :: vs) H3 (e2.trans e3) (.cons ⟨true, od_ex e3 hd, .inl rfl⟩ ha)
theorem tb_consF {tr : TA} (h : EvO K b false ta σ H d) (hd : d.hasDict = false) (hr : EvTB K b tr σ H ds) : EvTB K b (tCons ta tr) σ H (d :: ds) := fun H1 e _ q =>
  h H1 e _ fun v H2 e2 ho => hr H2 (e.trans e2) _ fun vs H3 e3 ha => q (v :: vs) H3 (e2.trans e3) (.cons ⟨false, od_ex e3 ho, .inr hd⟩ ha)
theorem tf_lst {ta : TA} (h : EvTB K b ta σ H ds) (hl : ds.length ≤ 100000) : EvTF K b (tLst ta) σ H ds := fun H1 e _ q =>
  h H1 e _ fun vs H2 e2 ha => ⟨sz_of (by rw [tga_len ha]; exact hl), fun p hp => q p vs _ (fresh_back e2 hp) (e2.trans (Ex.new hp)) upd_same (tga_ex (Ex.new hp) ha)⟩
theorem tf_catLF {p : Addr} {xs : List V} (ha : Ev ta σ H (.ref p)) (hp : H p = some (.lst xs)) (hx : TgAll K b H xs ds) (hb : EvTF K b tb σ H es) (hl : ds.length + es.length ≤ 100000) : EvTF K b (tOp rCat ta tb) σ H (ds ++ es) := fun H1 e Q q =>
  ha H1 e _ fun H2 e2 => hb H2 (e.trans e2) _ fun r ys H3 _ e3 hr hy =>
    ⟨_, _, _, _, rfl, rfl, ((e.trans e2).trans e3) p _ hp, hr, sz_of (by rw [tga_len hx, tga_len hy]; exact hl), fun n hn =>
      q n _ _ (fresh_back (e2.trans e3) hn) ((e2.trans e3).trans (Ex.new hn)) upd_same (tga_ex (Ex.new hn) (tga_app (tga_ex ((e.trans e2).trans e3) hx) hy))⟩
theorem q_asgTF (h : EvTF K b te σ H ds) (k : ∀ p xs H1, H p = none → Ex H H1 → H1 p = some (.lst xs) → TgAll K b H1 xs ds → tz D (σ.set i (some (.ref p))) H1) : tSeq (tAsg te (gName i)) tz D σ H := h H (Ex.refl H) _ k
theorem s_forTg {g : TG} (h : EvTF K b tl σ H ds) (Pv : Nat → L2.St → Hp → Prop) (h0 : ∀ H1, Ex H H1 → Pv 0 σ H1)
    (hs : ∀ H1 i x d σ' H', Ex H H1 → Ex H1 H' → ds[i]? = some d → Tg K b H' x d → Pv i σ' H' → g x σ' H' fun σ2 H2 => tu { D with nx := fun σ3 H3 => Ex H1 H3 ∧ Pv (i + 1) σ3 H3, ct := fun σ3 H3 => Ex H1 H3 ∧ Pv (i + 1) σ3 H3, bk := D.nx } σ2 H2)
    (hd : ∀ σ' H', Ex H H' → Pv ds.length σ' H' → D.nx σ' H') : tFor (iList K tl) g tu D σ H :=
  h H (Ex.refl H) _ fun p xs H1 np e1 hp hx => ⟨p, rfl, ⟨xs, sq_of hp⟩, for_list (xs := xs) (fun i σ' H' => Ex H1 H' ∧ Pv i σ' H') ⟨Ex.refl _, h0 H1 e1⟩ (fun i σ' H' _ hw => sq_of (hw.1 p _ hp)) (fun i x σ' H' hi hw => by
      obtain ⟨d, h1, h2⟩ := tga_get (tga_ex hw.1 hx) hi
      exact hs H1 i x d σ' H' e1 hw.1 h1 h2 hw.2) (fun σ' H' hw => hd σ' H' (e1.trans hw.1) (by rw [← tga_len hx]; exact hw.2))⟩
/-- [..][take], things in the list -/
theorem q_menuO {ta : TA} {tk : TE} (hl : EvOB K b true ta σ H ds) (hz : ds.length ≤ 1000) (hb : BoxAt H b) (hi : ∀ H', Ex H H' → BoxAt H' b → EvK K b tk σ H' (fun d => ∃ r : Int, d = .int r ∧ 0 ≤ r ∧ r < (ds.length : Int)))
    (k : ∀ v d H2, d ∈ ds → Od K b true H2 v d → BoxAt H2 b → Bk b H H2 → tz D (σ.set i (some v)) H2) : tSeq (tAsg (tOp (rIxL K) (tLst ta) tk) (gName i)) tz D σ H :=
  hl H (Ex.refl H) _ fun xs H1 e1 hx => ⟨sz_of (by rw [oda_len hx]; omega), fun p hp => hi _ (e1.trans (Ex.new hp)) (hb.ex (e1.trans (Ex.new hp))) _ fun v d H2 hr hv hb2 x2 => by
    obtain ⟨r, rfl, r0, r1⟩ := hr
    cases hv
    obtain ⟨m, rfl⟩ : ∃ m : Nat, r = (m : Int) := ⟨r.toNat, by omega⟩
    have hm : m < ds.length := by omega
    have np : p ≠ b := box_ne (hb.ex e1) hp
    obtain ⟨w, hw, hd⟩ := oda_get' (oda_bk x2 (oda_ex (Ex.new hp) hx)) (List.getElem?_eq_getElem hm)
    exact ⟨p, xs, (m : Int), w, rfl, rfl, sq_of (x2.bx p _ np upd_same), atI_nat hw, k w _ H2 (List.getElem_mem hm) hd hb2 ((bk_ex (e1.trans (Ex.new hp))).trans x2)⟩⟩
/-- repr(x) -/
theorem ev_rep (h : Ev te σ H v) (hv : Tg K b H v d) (hs : showOk d) : Ev (tCB (rRep K) (tCons te tNil)) σ H (.str d.shown) := fun H1 e Q q => h H1 e _ fun H2 e2 => by
  obtain ⟨c, h1, h2⟩ := hv
  exact ⟨b, c, v, d, rfl, od_ex (e.trans e2) h1, h2, hs, q H2 e2⟩
/-- the items of a tuple that pass, as they are -/
theorem ne_lcT {a : Addr} {xs : List V} {j : Nat} {vs : List Nat} (f : V → Bool) (h : Ev tl σ H (.ref a)) (hx : SqT K H a xs) (hz : xs.length < 50000) (hw : ∀ x, wipe ((wipe σ vs).set j (some x)) vs = wipe σ vs) (hj : ∀ x, ((wipe σ vs).set j (some x))[j]? = some (some x))
    (ht : ∀ (x : V) H1, Ex H H1 → x ∈ xs → EvT t ((wipe σ vs).set j (some x)) H1 (f x)) : Ev (tOp (rNe0 K) (tLc (iTup K tl) (gName j) t (tVar j) vs) (tLst tNil)) σ H (.bl (xs.any f)) := fun H0 e Q q => h H0 e _ fun H1 e1 => ⟨a, rfl, ⟨xs, ex_t (e.trans e1) hx⟩, fun Dl hD => by
  have e01 := e.trans e1
  refine lc_tup (xs := xs) (fun i H' => H1 Dl = none ∧ Ex H1 H' ∧ H' Dl = some (.lst ((xs.take i).filter f))) ⟨hD, Ex.new hD, upd_same⟩ (fun i H' _ p => ex_t (e01.trans p.2.1) hx) (fun i x H' hi p => ⟨hw x, ?_⟩) (fun H' p => ?_)
  · obtain ⟨p1, p2, p3⟩ := p
    refine ht x H' (e01.trans p2) (List.mem_of_getElem? hi) H' (Ex.refl H') _ fun H3 e3 => ?_
    have en := filter_take_succ (f := f) hi
    cases hb : f x with
    | true =>
      rw [hb, if_pos rfl] at en
      refine iteT ⟨x, hj x, _, e3 Dl _ p3, sz_lt ?_, p1, Ex.mut (p2.trans e3) p1, by rw [upd_same, en]⟩
      have h1 := List.length_filter_le f (xs.take i)
      have h2 : (xs.take i).length ≤ xs.length := by rw [List.length_take]; exact Nat.min_le_right _ _
      omega
    | false =>
      rw [hb, if_neg Bool.false_ne_true, List.append_nil] at en
      refine iteF ⟨p1, p2.trans e3, by rw [en]; exact e3 Dl _ p3⟩
  · obtain ⟨p1, p2, p3⟩ := p
    rw [List.take_of_length_le (Nat.le_refl _)] at p3
    refine ⟨sz_of (by show 0 ≤ 100000; decide), fun r hr => ⟨Dl, r, _, rfl, rfl, sq_of (Ex.new hr Dl _ p3), sq_of upd_same, ?_⟩⟩
    rw [any_filter f xs]
    exact q _ ((e1.trans p2).trans (Ex.new hr))⟩
end
/-! ### things short enough to be shown -/
mutual
def leafOk : PyData → Bool
  | .none => true
  | .bool _ => true
  | .int i => decide (i.natAbs < 10 ^ 40)
  | .str x => x.cps.toList.all fun c => decide (c < 16 ^ 8)
  | .list xs => leafOkAll xs
  | .tuple xs => leafOkAll xs
  | .dict kvs => leafOkKv kvs
def leafOkAll : List PyData → Bool
  | [] => true
  | x :: xs => leafOk x && leafOkAll xs
def leafOkKv : List (PyData × PyData) → Bool
  | [] => true
  | (k, v) :: r => leafOk k && leafOk v && leafOkKv r
end
mutual
theorem leaf_of : ∀ d : PyData, leafOk d = true → d.leavesShort 50 = true ∧ d.showable = true
  | .none, _ => ⟨rfl, rfl⟩
  | .bool _, _ => ⟨rfl, rfl⟩
  | .int i, h => by
    have h : i.natAbs < 10 ^ 40 := by simpa [leafOk] using h
    refine ⟨?_, ?_⟩
    · have e := int_text_length_le10 (k := 40) (by decide) h
      have e2 : (PyData.shown (.int i)).length ≤ 50 := by
        show (Str.ofString (toString i)).length ≤ 50
        rw [PySem.ofString_length]
        omega
      simpa [PyData.leavesShort] using e2
    · have : i.natAbs.log2 < 1920 := PySem.Spec.log2_small (Nat.lt_trans h (by decide +kernel))
      simpa [PyData.showable] using this
  | .str x, h => ⟨by simpa [leafOk, PyData.leavesShort] using h, rfl⟩
  | .list xs, h => by
    have := leaf_all xs (by simpa [leafOk] using h)
    exact ⟨by simpa [PyData.leavesShort] using this.1, by simpa [PyData.showable] using this.2⟩
  | .tuple xs, h => by
    have := leaf_all xs (by simpa [leafOk] using h)
    exact ⟨by simpa [PyData.leavesShort] using this.1, by simpa [PyData.showable] using this.2⟩
  | .dict kvs, h => by
    have := leaf_kv kvs (by simpa [leafOk] using h)
    exact ⟨by simpa [PyData.leavesShort] using this.1, by simpa [PyData.showable] using this.2⟩
theorem leaf_all : ∀ xs : List PyData, leafOkAll xs = true → PyData.leavesShortAll 50 xs = true ∧ PyData.showableAll xs = true
  | [], _ => ⟨rfl, rfl⟩
  | x :: xs, h => by
    have h : leafOk x = true ∧ leafOkAll xs = true := by simpa [leafOkAll] using h
    have h1 := leaf_of x h.1
    have h2 := leaf_all xs h.2
    exact ⟨by simp [PyData.leavesShortAll, h1.1, h2.1], by simp [PyData.showableAll, h1.2, h2.2]⟩
theorem leaf_kv : ∀ kvs : List (PyData × PyData), leafOkKv kvs = true → PyData.leavesShortKv 50 kvs = true ∧ PyData.showableKv kvs = true
  | [], _ => ⟨rfl, rfl⟩
  | (k, v) :: r, h => by
    have h : (leafOk k = true ∧ leafOk v = true) ∧ leafOkKv r = true := by simpa [leafOkKv] using h
    have h1 := leaf_of k h.1.1
    have h2 := leaf_of v h.1.2
    have h3 := leaf_kv r h.2
    exact ⟨by simp [PyData.leavesShortKv, h1.1, h2.1, h3.1], by simp [PyData.showableKv, h1.2, h2.2, h3.2]⟩
end
def okT (d : PyData) : Bool := leafOk d && decide (d.bulk ≤ 10000) && decide (d.depth ≤ 40)
theorem show_of {d : PyData} (h : okT d = true) : showOk d := by
  unfold okT at h
  simp only [Bool.and_eq_true, decide_eq_true_eq] at h
  obtain ⟨⟨h1, h2⟩, h3⟩ := h
  obtain ⟨g1, g2⟩ := leaf_of d h1
  have g3 := PyData.shown_le_bulk 50 (by decide) d g1
  refine ⟨g2, h3, Nat.le_trans g3 ?_⟩
  have : sizeLine = 16777216 := rfl
  rw [this]
  omega
section
variable {K : PySem.W.Frag} {b : Addr} {c : Bool} {H : Hp}
theorem oda_typed : ∀ {xs : List V} {ds : List PyData}, OdAll K b c H xs ds → ∀ y ∈ xs, Typed K H y
  | _, _, .nil, _, hy => nomatch hy
  | _, _, .cons h t, y, hy => by
    rcases List.mem_cons.mp hy with rfl | hy
    · exact ⟨_, tyD_in _, od_ty h⟩
    · exact oda_typed t y hy
end
theorem sorted_eq : ∀ {a b : List Int}, a.Pairwise (· < ·) → b.Pairwise (· < ·) → (∀ x, x ∈ a ↔ x ∈ b) → a = b
  | [], [], _, _, _ => rfl
  | [], y :: b, _, _, h => absurd ((h y).mpr (by simp)) (by simp)
  | x :: a, [], _, _, h => absurd ((h x).mp (by simp)) (by simp)
  | x :: a, y :: b, ha, hb, h => by
    have ha' := List.pairwise_cons.mp ha
    have hb' := List.pairwise_cons.mp hb
    have e : x = y := by
      rcases List.mem_cons.mp ((h x).mp (by simp)) with e | e
      · exact e
      · rcases List.mem_cons.mp ((h y).mpr (by simp)) with e2 | e2
        · exact e2.symm
        · have h1 := hb'.1 x e
          have h2 := ha'.1 y e2
          omega
    subst e
    congr 1
    refine sorted_eq ha'.2 hb'.2 fun z => ⟨fun hz => ?_, fun hz => ?_⟩
    · rcases List.mem_cons.mp ((h z).mp (List.mem_cons_of_mem _ hz)) with e | e
      · subst e
        have := ha'.1 z hz
        omega
      · exact e
    · rcases List.mem_cons.mp ((h z).mpr (List.mem_cons_of_mem _ hz)) with e | e
      · subst e
        have := hb'.1 z hz
        omega
      · exact e
/-! ### t[::-1] -/
section
variable {prog : Program} {w : World} {A : Around} {E : Value → Shared → Prop} {s : Shared}
theorem adjust_rev (n : Nat) : Builtin.Slice.sliceAdjust none none (-1) (n : Int) = ((n : Int) - 1, -1) := by
  unfold Builtin.Slice.sliceAdjust
  simp
theorem places_rev (n : Nat) : Builtin.Slice.slicePlaces ((n : Int) - 1) (-1) (-1) = n := by
  unfold Builtin.Slice.slicePlaces
  simp
  omega
theorem sliceApplied_rev {sl : Addr} {vl vu vs : Value} {n : Nat} {Q : Int × Int × Nat → Shared → Prop} (hs : s.heap.IsSliceOf sl vl vu vs) (pl : IsPart vl none) (pu : IsPart vu none) (ps : IsPart vs (some (-1)))
    (h : Q ((n : Int) - 1, -1, n) s) : wpAny (model prog w) A (Builtin.Slice.sliceApplied (.ref sl) (pure (n : Int))) Q E s := by
  obtain ⟨os, hos, hcs, hds⟩ := id hs
  unfold Builtin.Slice.sliceApplied Builtin.Slice.sliceFields
  refine wpAny_bind (wpAny_bind (wpAny_field hos hds (x := vl) rfl (wpAny_bind (wpAny_field hos hds (x := vu) rfl (wpAny_bind (wpAny_field hos hds (x := vs) rfl (wpAny_pure ?_)))))))
  refine wpAny_bind (HT.slicePart_ ps ?_)
  show wpAny _ _ (if ((-1 : Int) == 0) = true then _ else _) _ _ s
  rw [if_neg (by decide)]
  refine wpAny_bind (HT.slicePart_ pl (wpAny_bind (HT.slicePart_ pu (wpAny_bind (wpAny_pure ?_)))))
  show wpAny _ _ (match Builtin.Slice.sliceAdjust none none (-1) (n : Int) with | (lo, hi) => pure (lo, (-1 : Int), Builtin.Slice.slicePlaces lo hi (-1))) _ _ s
  rw [adjust_rev]
  show wpAny _ _ (pure ((n : Int) - 1, (-1 : Int), Builtin.Slice.slicePlaces ((n : Int) - 1) (-1) (-1))) _ _ s
  rw [places_rev]
  exact wpAny_pure h
theorem fm_congr {α β : Type} {f g : α → Option β} : ∀ {l : List α}, (∀ a ∈ l, f a = g a) → l.filterMap f = l.filterMap g
  | [], _ => rfl
  | a :: l, h => by rw [List.filterMap_cons, List.filterMap_cons, h a (by simp), fm_congr (l := l) fun b hb => h b (List.mem_cons_of_mem _ hb)]
theorem pick_rev (xs : List Value) : ((List.range xs.length).filterMap fun (m : Nat) => xs.toArray[((((xs.length : Nat) : Int) - 1) + (m : Int) * (-1)).toNat]?) = xs.reverse := by
  refine List.ext_getElem? fun j => ?_
  have e : (List.range xs.length).filterMap (fun (m : Nat) => xs.toArray[((((xs.length : Nat) : Int) - 1) + (m : Int) * (-1)).toNat]?) = (List.range xs.length).map fun m => xs.getD (xs.length - 1 - m) .none := by
    rw [← List.filterMap_eq_map]
    refine fm_congr fun m hm => ?_
    have hm := List.mem_range.mp hm
    have e1 : ((((xs.length : Nat) : Int) - 1) + (m : Int) * (-1)).toNat = xs.length - 1 - m := by omega
    rw [e1]
    have h2 : xs.length - 1 - m < xs.length := by omega
    simp [List.getD_eq_getElem?_getD, List.getElem?_eq_getElem h2]
  rw [e, List.getElem?_map, show xs.reverse[j]? = if j < xs.length then xs[xs.length - 1 - j]? else none from by split <;> simp [List.getElem?_reverse, *] <;> omega]
  by_cases hj : j < xs.length
  · rw [List.getElem?_range hj]
    have h2 : xs.length - 1 - j < xs.length := by omega
    simp [List.getD_eq_getElem?_getD, List.getElem?_eq_getElem h2, hj]
  · rw [List.getElem?_eq_none (by rw [List.length_range]; omega)]
    simp; omega
theorem getItem_tuple_rev {t sl : Addr} {its : List Value} {vl vu vs : Value} {Q : Value → Shared → Prop} (ht : IsTup s.heap t its.toArray) (hs : s.heap.IsSliceOf sl vl vu vs) (pl : IsPart vl none) (pu : IsPart vu none) (ps : IsPart vs (some (-1)))
    (h : Q (.ref s.heap.objs.size) { s with heap := s.heap.push { cls := .type "tuple", data := .seq its.reverse.toArray } })
    (hsz : its.length ≤ sizeLine) : wpAny (model prog w) A (getItem (.ref t) (.ref sl)) Q E s := by
  have htake : sizeOk (.seq its.reverse.toArray) := by
    show its.reverse.toArray.size ≤ sizeLine
    rw [List.size_toArray, List.length_reverse]
    exact hsz
  obtain ⟨os, hos, hcs, hds⟩ := id hs
  have hTs : s.TypeIs (.ref sl) "slice" := ⟨os, hos, hcs⟩
  unfold getItem
  try with_reducible refine wpAny_holding ?_
  first | refine wpAny_bind (wpAny_pure ?_) | skip
  refine wpAny_bind (wpAny_sequenceKey ht.typeIs (by decide) ?_)
  refine wpAny_bind (wpAny_callSpecial?_slot (name := Str.ofString "__getitem__") ht.typeIs PyProof.Rows.slot_tuple_getitem
    (wpAny_call_entry PyProof.Rows.slot_tuple_getitem ht.typeIs entry_tuple_getitem ?_ (args_tuple_getitem _ _)))
  show wpAny _ _ (Builtin.Tuple.tupleItemsOf (.ref t) >>= _) _ _ s
  refine wpAny_bind (tupleItemsOf_ ht ?_)
  refine wpAny_bind (wpAny_typeOf hTs ?_)
  rw [if_pos (by decide)]
  have hn : (its.toArray.size : Int) = ((its.length : Nat) : Int) := by rw [List.size_toArray]
  rw [hn]
  refine wpAny_bind (sliceApplied_rev hs pl pu ps ?_)
  have hno : ¬ (((((its.length : Nat) : Int) - 1) == 0 && (-1 : Int) == 1 && its.length == its.toArray.size) = true) := by simp
  show wpAny _ _ (if ((((its.length : Nat) : Int) - 1) == 0 && (-1 : Int) == 1 && its.length == its.toArray.size) = true then _ else _) _ _ s
  rw [if_neg hno, pick_rev]
  first
    | exact wpAny_bind (m := Builtin.Tuple.tupleExact _) (wpAny_newObj_type (wpAny_pure ⟨_, rfl, wpAny_pure h⟩) htake)
    | exact wpAny_bind (m := Builtin.Tuple.tupleExact _) (wpAny_newObj_type (wpAny_bind (wpAny_pure (wpAny_pure ⟨_, rfl, wpAny_pure h⟩))) htake)
    | exact wpAny_bind (wpAny_bind (m := Builtin.Tuple.tupleExact _) (wpAny_newObj_type (wpAny_pure (wpAny_pure ⟨_, rfl, wpAny_pure h⟩)) htake))
    | exact wpAny_bind (wpAny_bind (m := Builtin.Tuple.tupleExact _) (wpAny_newObj_type (wpAny_pure ⟨_, rfl, wpAny_pure h⟩) htake))
end
section
variable {X : Cx}
def tRevT (K : PySem.W.Frag) (te : TE) : TE := fun σ H Q => te σ H fun x H1 => ∃ a xs, x = .ref a ∧ SqT K H1 a xs ∧ ∀ p, H1 p = none → Q (.ref p) (upd H1 p (.tup xs.reverse))
theorem pe_revT {e : Expr} {te : TE} {k : Nat} {p1 p2 p3 pos : Pos} (he : PE X e te) : PE X (.Subscript e (.Slice none none (some (.UnaryOp .USub (.Constant (.int 1) k p1) p2)) p3) pos) (tRevT X.K te) := by
  refine ⟨fun pins s σ H Q I h => ?_⟩
  refine Subscript_ (thn (he.run pins s σ H _ I h) fun v s1 ⟨x, H1, I1, r1, q1⟩ => ?_)
  obtain ⟨a, xs, ex, hx, q⟩ := q1
  subst ex
  cases r1
  have hst : PO X (some (.UnaryOp .USub (.Constant (.int 1) k p1) p2)) (tPart (tUn (rU fun i => .int (-i)) (tC (.int 1)))) := po_some (pe_un un_neg pe_int)
  refine wpAny_Slice (thn (po_none.run pins s1 σ H1 (fun o H2 => o = none ∧ H2 = H1) I1 ⟨rfl, rfl⟩) fun vl s2 ⟨l, H2, I2, pl, el, e2⟩ => ?_)
  subst el e2
  refine thn (po_none.run pins s2 σ H2 (fun o H3 => o = none ∧ H3 = H2) I2 ⟨rfl, rfl⟩) fun vu s3 ⟨u, H3, I3, pu, eu, e3⟩ => ?_
  subst eu e3
  refine thn (hst.run pins s3 σ H3 (fun o H4 => o = some (-1) ∧ H4 = H3) I3 ⟨1, rfl, -1, rfl, rfl, rfl⟩) fun vs s4 ⟨o, H4, I4, ps, eo, e4⟩ => ?_
  subst eo e4
  have I5 : Inv X pins σ H4 { s4 with heap := s4.heap.push { cls := .type "slice", data := .fields #[vl, vu, vs] } } := I4.kept (t' := s4.toks) fun b ob q => Heap.get?_push_of_some _ q
  obtain ⟨its, r, ht, hz⟩ := I5.tuple hx
  have hlen := r.length
  show wpAny (model X.prog X.w) X.A (subscriptTail e (.Slice none none (some (.UnaryOp .USub (.Constant (.int 1) k p1) p2)) p3) (.ref a) (.ref s4.heap.objs.size)) (EP X pins σ Q) X.xe { s4 with heap := s4.heap.push { cls := .type "slice", data := .fields #[vl, vu, vs] } }
  refine tail_any (ops := [.ref a, .ref s4.heap.objs.size]) ht.typeIs (PyProof.Rows.slot_tuple_getitem.lookup) ?_ (by with_unfolding_all rfl)
  refine getItem_tuple_rev ht (Heap.IsSliceOf.new _ vl vu vs) pl pu ps ?_ (by omega)
  refine ⟨.ref _, _, I5.laid (t' := s4.toks) (o := .tup xs.reverse) (fun b ob q => Heap.get?_push_of_some _ q) (Nat.le_refl _) ?_, rfl, q _ (I5.hok.fresh (Nat.le_refl _))⟩
  exact ⟨by rw [List.length_reverse]; exact hz, _, r.reverse, IsTup.new _ _⟩
end
/-! ### things as lots -/
def intsOf : List PyData → Option (List Int)
  | [] => some []
  | .int i :: r => (intsOf r).map (i :: ·)
  | _ :: _ => none
def lotOf (m : Int) : PyData → Option (List Int)
  | .tuple ds => (intsOf ds).bind fun l => if lotL m l = true then some l else none
  | _ => none
theorem lotOf_tup (m : Int) (ds : List PyData) : lotOf m (.tuple ds) = (intsOf ds).bind fun l => if lotL m l = true then some l else none := rfl
theorem intsOf_eq : ∀ {ds : List PyData} {l : List Int}, intsOf ds = some l → ds = l.map PyData.int := by
  intro ds
  induction ds with
  | nil => intro l e; cases e; rfl
  | cons x r ih =>
    intro l e
    cases x with
    | int i =>
      have e : (intsOf r).map (i :: ·) = some l := e
      cases hr : intsOf r with
      | none => rw [hr] at e; cases e
      | some l' => rw [hr] at e; cases e; rw [ih hr]; rfl
    | _ => cases e
theorem lotOf_lot {m : Int} {d : PyData} {l : List Int} (h : lotOf m d = some l) : d = lotD l ∧ lotL m l = true := by
  cases d with
  | tuple ds =>
    rw [lotOf_tup] at h
    cases hi : intsOf ds with
    | none => rw [hi] at h; cases h
    | some l' =>
      rw [hi] at h
      have h : (if lotL m l' = true then some l' else none) = some l := h
      by_cases hl : lotL m l' = true
      · rw [if_pos hl] at h
        cases h
        exact ⟨by rw [intsOf_eq hi]; rfl, hl⟩
      · rw [if_neg hl] at h
        cases h
  | _ => cases h
theorem intsOf_map : ∀ l : List Int, intsOf (l.map PyData.int) = some l
  | [] => rfl
  | i :: l => by show (intsOf (l.map PyData.int)).map (i :: ·) = _; rw [intsOf_map l]; rfl
theorem lotOf_of {m : Int} {l : List Int} (h : lotL m l = true) : lotOf m (lotD l) = some l := by
  unfold lotD
  rw [lotOf_tup, intsOf_map]
  exact if_pos h
section
variable {K : PySem.W.Frag} {b : Addr} {c : Bool} {H : Hp}
theorem oda_ints : ∀ {xs : List V} {ds : List PyData} {l : List Int}, OdAll K b c H xs ds → intsOf ds = some l → xs = l.map V.int
  | _, _, _, .nil, e => by cases e; rfl
  | _, _, l, .cons h t, e => by
    cases h with
    | int i =>
      rename_i vs ds
      have e : (intsOf ds).map (i :: ·) = some l := e
      cases hr : intsOf ds with
      | none => rw [hr] at e; cases e
      | some l' => rw [hr] at e; cases e; rw [oda_ints t hr]; rfl
    | _ => cases e
theorem oda_noints {m : Int} : ∀ {xs : List V} {ds : List PyData}, OdAll K b c H xs ds → intsOf ds = none → xs.all (cornerB m) = false
  | _, _, .nil, e => by cases e
  | _, _, .cons h t, e => by
    cases h with
    | int i =>
      rename_i vs ds
      have e : (intsOf ds).map (i :: ·) = none := e
      cases hr : intsOf ds with
      | none => rw [List.all_cons, oda_noints t hr, Bool.and_false]
      | some l' => rw [hr] at e; cases e
    | _ => rfl
/-- whether a tuple is a lot -/
theorem lotOf_V {m : Int} {xs : List V} {ds : List PyData} (h : OdAll K b c H xs ds) : (lotOf m (.tuple ds)).isSome = lotV m xs := by
  rw [lotOf_tup]
  cases hi : intsOf ds with
  | none =>
    show false = lotV m xs
    rw [lotV_eq, oda_noints h hi]
    rfl
  | some l =>
    rw [oda_ints h hi]
    show (if lotL m l = true then some l else none).isSome = lotL m l
    cases lotL m l <;> rfl
theorem thl_of {v : V} {d : PyData} (m : Int) (h : Od K b c H v d) : ThL K H v m (lotOf m d) := by
  have ty := od_ty h
  cases h with
  | tup hs hx =>
    rename_i a xs ds
    cases hl : lotOf m (.tuple ds) with
    | none =>
      refine .inr ⟨a, xs, rfl, hs, oda_typed hx, ?_⟩
      rw [← lotOf_V hx, hl]
      rfl
    | some l =>
      obtain ⟨e1, e2⟩ := lotOf_lot hl
      refine ⟨?_, e2⟩
      unfold lotD at e1
      cases e1
      have := oda_ints hx (intsOf_map l)
      subst this
      exact lot_dt hs
  | non => exact .inl ⟨_, tyD_in _, by decide, ty⟩
  | bl y => exact .inl ⟨_, tyD_in _, by show "bool" ≠ "tuple"; decide, ty⟩
  | int i => exact .inl ⟨_, tyD_in _, by show "int" ≠ "tuple"; decide, ty⟩
  | str y => exact .inl ⟨_, tyD_in _, by show "str" ≠ "tuple"; decide, ty⟩
  | lst n h m a => exact .inl ⟨_, tyD_in _, by show "list" ≠ "tuple"; decide, ty⟩
  | dct n h => exact .inl ⟨_, tyD_in _, by show "dict" ≠ "tuple"; decide, ty⟩
end
/-! lots are parts of all corners -/
theorem upTo_nil {lo hi : Int} (h : hi ≤ lo) : upTo lo hi = [] := by
  unfold upTo
  rw [show (hi - lo).toNat = 0 by omega]
  rfl
theorem upTo_cons {lo hi : Int} (h : lo < hi) : upTo lo hi = lo :: upTo (lo + 1) hi := by
  unfold upTo
  obtain ⟨n, hn⟩ : ∃ n, (hi - lo).toNat = n + 1 := ⟨(hi - lo).toNat - 1, by omega⟩
  rw [hn, show (hi - (lo + 1)).toNat = n by omega, List.range_succ_eq_map, List.map_cons, List.map_map]
  congr 1
  · omega
  · refine List.map_congr_left fun i _ => ?_
    show lo + ((i + 1 : Nat) : Int) = lo + 1 + (i : Int)
    omega
theorem sub_upTo : ∀ (n : Nat) {lo hi : Int} {l : List Int}, (hi - lo).toNat = n → l.Pairwise (· < ·) → (∀ x ∈ l, lo ≤ x ∧ x < hi) → l.Sublist (upTo lo hi)
  | 0, lo, hi, l, hn, _, hb => by
    cases l with
    | nil => exact List.nil_sublist _
    | cons x r => have := hb x (by simp); omega
  | n + 1, lo, hi, l, hn, hp, hb => by
    rw [upTo_cons (by omega)]
    cases l with
    | nil => exact List.nil_sublist _
    | cons x r =>
      have hx := hb x (by simp)
      have hp' := List.pairwise_cons.mp hp
      by_cases e : x = lo
      · subst e
        refine List.Sublist.cons_cons _ (sub_upTo n (by omega) hp'.2 fun y hy => ?_)
        have := hp'.1 y hy
        have := hb y (List.mem_cons_of_mem _ hy)
        omega
      · refine List.Sublist.cons _ (sub_upTo n (by omega) hp fun y hy => ?_)
        have := hb y hy
        rcases List.mem_cons.mp hy with rfl | hy
        · omega
        · have := hp'.1 y hy
          omega
theorem lot_sub {m : Int} {l : List Int} (h : lotL m l = true) : l.Sublist (upTo 0 m) := by
  unfold lotL at h
  rw [lotV_eq] at h
  simp only [Bool.and_eq_true] at h
  obtain ⟨h1, h2⟩ := h
  have e : (l.map V.int).map intV = l := by rw [List.map_map]; exact List.map_id l
  rw [e] at h2
  refine sub_upTo _ rfl (rising_pw h2) fun x hx => ?_
  have := List.all_eq_true.mp h1 (.int x) (List.mem_map.mpr ⟨x, hx, rfl⟩)
  have : (decide (0 ≤ x) && decide (x < m)) = true := this
  simpa using this
/-! things that can be shown -/
def okE (e : PyData) : Bool := leafOk e && decide (e.bulk ≤ 100) && decide (e.depth ≤ 5)
theorem okE_all : ∀ {ds : List PyData}, (∀ e ∈ ds, okE e = true) → leafOkAll ds = true ∧ PyData.bulkAll ds ≤ 101 * ds.length ∧ PyData.depthAll ds ≤ 5
  | [], _ => ⟨rfl, Nat.le_refl _, Nat.zero_le _⟩
  | e :: ds, h => by
    obtain ⟨h1, h2, h3⟩ := okE_all (ds := ds) fun x hx => h x (List.mem_cons_of_mem _ hx)
    have he := h e (by simp)
    unfold okE at he
    simp only [Bool.and_eq_true, decide_eq_true_eq] at he
    obtain ⟨⟨k1, k2⟩, k3⟩ := he
    refine ⟨by show (leafOk e && leafOkAll ds) = true; rw [k1, h1]; rfl, ?_, ?_⟩
    · show e.bulk + 1 + PyData.bulkAll ds ≤ _
      rw [List.length_cons]
      omega
    · show max e.depth (PyData.depthAll ds) ≤ 5
      omega
theorem okT_tup {ds : List PyData} (h : ∀ e ∈ ds, okE e = true) (hl : ds.length ≤ 50) : okT (.tuple ds) = true := by
  obtain ⟨h1, h2, h3⟩ := okE_all h
  have b : PyData.bulk (.tuple ds) ≤ 10000 := by show PyData.bulkAll ds ≤ 10000; omega
  have d : PyData.depth (.tuple ds) ≤ 40 := by show PyData.depthAll ds + 1 ≤ 40; omega
  unfold okT
  rw [show leafOk (.tuple ds) = true from h1, decide_eq_true b, decide_eq_true d]
  rfl
theorem okT_lst {ds : List PyData} (h : ∀ e ∈ ds, okE e = true) (hl : ds.length ≤ 50) : okT (.list ds) = true := by
  obtain ⟨h1, h2, h3⟩ := okE_all h
  have b : PyData.bulk (.list ds) ≤ 10000 := by show PyData.bulkAll ds ≤ 10000; omega
  have d : PyData.depth (.list ds) ≤ 40 := by show PyData.depthAll ds + 1 ≤ 40; omega
  unfold okT
  rw [show leafOk (.list ds) = true from h1, decide_eq_true b, decide_eq_true d]
  rfl
theorem okE_int {i : Int} (h0 : -100 ≤ i) (h1 : i ≤ 100) : okE (.int i) = true := by
  have h : i.natAbs < 10 ^ 40 := Nat.lt_of_le_of_lt (show i.natAbs ≤ 100 by omega) (by decide)
  unfold okE
  rw [show leafOk (.int i) = true from decide_eq_true h]
  rfl
theorem okE_ints {l : List Int} (h : ∀ x ∈ l, -100 ≤ x ∧ x ≤ 100) : ∀ e ∈ l.map PyData.int, okE e = true := fun e he => by
  obtain ⟨i, hi, rfl⟩ := List.mem_map.mp he
  exact okE_int (h i hi).1 (h i hi).2
theorem sub_bd {m : Int} (hm : m ≤ 9) {l : List Int} (h : l.Sublist (upTo 0 m)) : (∀ x ∈ l, 0 ≤ x ∧ x < m) ∧ l.length ≤ 9 := by
  refine ⟨fun x hx => ?_, ?_⟩
  · have := h.subset hx
    unfold upTo at this
    obtain ⟨i, hi, rfl⟩ := List.mem_map.mp this
    have := List.mem_range.mp hi
    omega
  · have := h.length_le
    rw [upTo_len] at this
    omega
theorem okE_lot {l : List Int} (h : ∀ x ∈ l, 0 ≤ x ∧ x < 10) (hl : l.length ≤ 20) : okE (lotD l) = true := by
  have := okE_all (okE_ints fun x hx => ⟨by have := h x hx; omega, by have := h x hx; omega⟩)
  rw [List.length_map] at this
  have d0 : PyData.depthAll (l.map PyData.int) = 0 := ints_deep l
  have b0 : ∀ l : List Int, PyData.bulkAll (l.map PyData.int) = l.length := fun l => by
    induction l with
    | nil => rfl
    | cons x r ih => show 0 + 1 + PyData.bulkAll (r.map PyData.int) = _; rw [ih, List.length_cons]; omega
  unfold okE
  rw [show leafOk (lotD l) = true from this.1, decide_eq_true (show PyData.bulk (lotD l) ≤ 100 by show PyData.bulkAll (l.map PyData.int) ≤ 100; rw [b0]; omega), decide_eq_true (show PyData.depth (lotD l) ≤ 5 by show PyData.depthAll (l.map PyData.int) + 1 ≤ 5; omega)]
  rfl
/-! ### set(tuple of ints), sorted of it -/
section
variable {X : Cx}
def rSetTI (K : PySem.W.Frag) (w : World) : List V → Hp → VK → Prop := fun xs H Q => ∃ (l : Addr) (ns : List Int), xs = [V.ref l] ∧ SqT K H l (ns.map V.int) ∧ ns.length < 60 ∧ ∀ a c, H a = none → c ≤ ns.length → Q (.ref a) (upd H a (SetO w a (fun j => decide (j ∈ ns)) c))
theorem cr_setTI (hc : X.calm = true) : CallR X (.type "set") (rSetTI X.K X.w) := by
  intro pins s σ H xs us Q I r h
  obtain ⟨l, ns, rfl, hl, hf, q⟩ := h
  rw [Vals.ref1 r]
  obtain ⟨its, rv, pl, hz⟩ := I.tuple hl
  have hn : H s.heap.objs.size = none := I.hok.fresh (Nat.le_refl _)
  refine call_set_tupI ns (I.ok.hd hc) (show s.heap.IsTuple l its.toArray from pl) (by simpa using intsAre_of rv) (by unfold scanBound; omega) fun h' tk c R hcn k => ?_
  exact ⟨.ref s.heap.objs.size, upd H s.heap.objs.size (SetO X.w s.heap.objs.size (fun j => decide (j ∈ ns)) c), I.laid (t' := tk) k (Nat.le_refl _) (setO_new R), rfl, q _ c hn hcn⟩
end
section
variable {K : PySem.W.Frag} {σ : L2.St} {H : Hp}
/-- list(t) == sorted(set(t)), t a tuple of ints -/
theorem ev_listSorted {w : World} {te : TE} {ns : List Int} (h : EvD K te σ H (lotD ns)) (hl : ns.length < 60) :
    Ev (tOp (rEqD K) (tCB (rListS K) (tCons te tNil)) (tCB (rSortedSet w) (tCons (tCB (rSetTI K w) (tCons te tNil)) tNil))) σ H (.bl (risingL ns)) := fun H1 e Q q =>
  h H1 e _ fun v H2 e2 hv => by
    obtain ⟨a, rfl, ha⟩ := dt_lot hv
    refine ⟨a, _, rfl, .inr ha, fun p hp => ?_⟩
    have eN := Ex.new (o := .lst (ns.map V.int)) hp
    refine h _ ((e.trans e2).trans eN) _ fun v' H3 e3 hv' => ?_
    obtain ⟨a', rfl, ha'⟩ := dt_lot hv'
    refine ⟨a', ns, rfl, ha', hl, fun s c hs hc => ?_⟩
    have eS := Ex.new (o := SetO w s (fun j => decide (j ∈ ns)) c) hs
    refine ⟨s, _, c, rfl, upd_same, by omega, fun ms r hpw hmem _ hr => ?_⟩
    have eR := Ex.new (o := .lst (ms.map V.int)) hr
    have hp3 : upd (upd H3 s (SetO w s (fun j => decide (j ∈ ns)) c)) r (.lst (ms.map V.int)) p = some (.lst (ns.map V.int)) := (e3.trans (eS.trans eR)) _ _ upd_same
    refine ⟨.list (ns.map PyData.int), .list (ms.map PyData.int), .lst (sq_of hp3) (dta_dp (dta_ints ns)), .lst (sq_of upd_same) (dta_dp (dta_ints ms)), ints_shaped _, ints_shaped _, ?_⟩
    have hv : PyData.eqv (.list (ns.map PyData.int)) (.list (ms.map PyData.int)) = risingL ns := by
      show PyData.eqvAll (ns.map PyData.int) (ms.map PyData.int) = _
      rw [eqv_ints2, Bool.eq_iff_iff, decide_eq_true_eq]
      constructor
      · intro z
        rw [z]
        exact pw_rising hpw
      · intro z
        refine sorted_eq (rising_pw z) hpw fun x => ?_
        rw [hmem x, decide_eq_true_eq]
    rw [hv]
    exact q _ ((e2.trans eN).trans ((e3.trans eS).trans eR))
end
section
variable {P : Program} {w : World} {K : PySem.W.Frag} {mg : Str → Option Value} {base : Heap}
def spIsL (K : PySem.W.Frag) : Sp := fun vs H Q _ => ∃ (b : Addr) (c : Bool) (v : V) (m : Int) (d : PyData), vs = [v, .int m] ∧ Od K b c H v d ∧ (∀ ds, d = .tuple ds → ds.length < 60) ∧ ∀ H2, Ex H H2 → Q (.bl (lotOf m d).isSome) H2
theorem ok_isl {f : Addr} {fd : FuncData} {k : Nat} (D : Df K mg "_law_is_lot" s__law_is_lot ["_law_thing", "_law_many"] f fd) (B : Bt mg) : FnOk P w K mg base CX0 (k + 1) f fd ["_law_thing", "_law_many"] (spIsL K) := by
  refine D.F.ok sc__law_is_lot (fun vs H Q E h => ?_) (fun cdv A outer s H vs Q E hr h => ?_)
  · obtain ⟨b, c, v, m, d, rfl, _⟩ := h
    rfl
  · obtain ⟨b, c, v, m, d, rfl, hv, hlen, q⟩ := h
    refine ⟨_, (pss_cons (ps_if (pt_not (pt_val (pe_callB (show CallR _ _ (rIsi K) from call_isi) (by rfl) B.isinstance_ (by decide +kernel) (pa_cons (pv 0) (pa_cons (pe_bltn (v := .ty "tuple") (by rfl) B.tuple_ (by decide +kernel) rfl) pa_nil)))))   (pss_one (ps_ret pe_bl))   pss_nil)  (pss_cons (ps_if (pt_cmpR (show OpR _ _ (rNe0 K) from op_ne0 hr.units) (pe_lc (own := [("_law_one", 2)]) rfl sc__law_is_lot.nd (pi_tup (pv 0)) (blkOk_by (own := [("_law_one", 2)]) (N := N__law_is_lot) (sc := defScope s__law_is_lot) (by decide +kernel)) (fun _ _ _ _ _ => (pg_name (i := 2) sc__law_is_lot.nd rfl (.inl rfl))) (fun _ _ _ _ _ => pts_one (PW.pt (pw_or (pt_val (pe_callB (show CallR _ _ (rIsi K) from call_isi) (by rfl) B.isinstance_ (by decide +kernel) (pa_cons (pv 2) (pa_cons (pe_bltn (v := .ty "bool") (by rfl) B.bool_ (by decide +kernel) rfl) pa_nil)))) (pw_or (pt_not (pt_val (pe_callB (show CallR _ _ (rIsi K) from call_isi) (by rfl) B.isinstance_ (by decide +kernel) (pa_cons (pv 2) (pa_cons (pe_bltn (v := .ty "int") (by rfl) B.int_ (by decide +kernel) rfl) pa_nil))))) (pw_or1 (pt_not (pt_chain op_le op_lt pe_int (pv 2) (pv 1)))))))) (fun _ _ _ _ _ => (pv 2))) (pe_lst pa_nil) (nomark _))   (pss_one (ps_ret pe_bl))   pss_nil)  (pss_one (ps_ret (pe_cmpR (show OpR _ _ (rEqD K) from op_eqD hr.units) (pe_callTy (show CallR _ _ (rListS K) from call_list_of) (by rfl) B.list_ (by decide +kernel) (pa_cons (pv 0) pa_nil)) (pe_callB (show CallR _ _ (rSortedSet w) from cr_sortedSet rfl) (by rfl) B.sorted_ (by decide +kernel) (pa_cons (pe_callTy (show CallR _ _ (rSetTI K w) from cr_setTI rfl) (by rfl) B.set_ (by decide +kernel) (pa_cons (pv 0) pa_nil)) pa_nil)) (nomark _)))))), ?_⟩
    by_cases htup : ∃ ds, d = .tuple ds
    · obtain ⟨ds, rfl⟩ := htup
      have hlen := hlen ds rfl
      cases hv with
      | tup hS hx =>
      rename_i a xs
      have hty := oda_typed hx
      have hxl := oda_len hx
      refine q_when (b := false) (et_is (et_not (et_B (ev_isi (K := K) (ev_var rfl) ev_c (fun H2 e2 => tyx_ex e2 (ty_sqt hS)) (ty_tup (t := "tuple") (by decide))))) rfl) (fun hb => by cases hb) (fun _ H1 e1 => ?_)
      refine q_when (b := xs.any fun z => !cornerB m z) (et_test (ne_lcT (K := K) (fun z => !cornerB m z) (ev_var rfl) (ex_t e1 hS) (by omega) (fun _ => rfl) (fun _ => rfl) (fun z H2 e2 hz => ?_))) (fun hb H2 e2 => ?_) (fun hb H2 e2 => ?_)
      · obtain ⟨t, t1, t2⟩ := (hty z hz).ex (e1.trans e2)
        obtain ⟨p, r, hp, hr', hpr⟩ := ty_ib t1
        cases hb : (t == "int") with
        | true =>
          obtain ⟨i, rfl⟩ := ty_int_inv t2 (eq_of_beq hb)
          rw [hb] at hpr
          have hp1 : p = true := by cases p <;> simp_all
          have hr1 : r = false := by cases r <;> simp_all
          subst hp1 hr1
          exact et_is (et_or (et_B (ev_isi (K := K) (ev_var rfl) ev_c (fun H3 e3 => tyx_ex e3 t2) hr')) (fun _ => et_or (et_not (et_B (ev_isi (K := K) (ev_var rfl) ev_c (fun H3 e3 => tyx_ex e3 t2) hp))) (fun _ => et_not (et_test (ev_chain ev_c (ev_var rfl) (ev_var rfl) rv_I0 rv_I0))))) rfl
        | false =>
          rw [hb] at hpr
          have hz2 : cornerB m z = false := by
            cases z with
            | int i => rw [ty_of_int t2] at hb; cases hb
            | _ => rfl
          rw [hz2]
          cases hr2 : r with
          | true => exact et_is (et_or (b := true) (et_B (ev_is (ev_isi (K := K) (ev_var rfl) ev_c (fun H3 e3 => tyx_ex e3 t2) hr') (by rw [hr2]))) (fun z => by cases z)) rfl
          | false =>
            have hp2 : p = false := by cases p <;> simp_all
            exact et_is (et_or (b := true) (et_B (ev_isi (K := K) (ev_var rfl) ev_c (fun H3 e3 => tyx_ex e3 t2) hr')) (fun _ => et_is (et_or (b := true) (et_not (et_B (ev_isi (K := K) (ev_var rfl) ev_c (fun H3 e3 => tyx_ex e3 t2) hp))) (fun z => by rw [hp2] at z; cases z)) (by rw [hp2]; rfl))) (by rw [Bool.or_true]; rfl)
      · refine s_ret ev_c fun H3 e3 => ?_
        have : (lotOf m (.tuple ds)).isSome = false := by
          rw [lotOf_V hx]
          rw [lotV_eq]
          obtain ⟨z, hz1, hz2⟩ := List.any_eq_true.mp hb
          have : xs.all (cornerB m) = false := by
            rw [Bool.eq_false_iff]
            intro h
            have := List.all_eq_true.mp h z hz1
            rw [this] at hz2
            cases hz2
          rw [this]
          rfl
        rw [this] at q
        exact q H3 ((e1.trans e2).trans e3)
      · have hall : xs.all (cornerB m) = true := by
          refine List.all_eq_true.mpr fun z hz => ?_
          have := List.any_eq_false.mp hb z hz
          simpa using this
        have hxs := corners_ints hall
        obtain ⟨ns, hns⟩ : ∃ ns : List Int, xs = ns.map V.int := ⟨_, hxs⟩
        subst hns
        have hr2 : (lotOf m (.tuple ds)).isSome = risingL ns := by
          rw [lotOf_V hx]
          rw [lotV_eq]
          rw [hall, List.map_map]
          show (true && risingL (ns.map id)) = _
          rw [List.map_id]
          rfl
        rw [hr2] at q
        rw [List.length_map] at hxl
        exact s_ret (ev_listSorted (K := K) (ed_var rfl (lot_dt (ex_t (e1.trans e2) hS))) (by omega)) fun H3 e3 => q H3 ((e1.trans e2).trans e3)
    · have ty := od_ty hv
      have hnt : tyD d ≠ "tuple" := fun z => by
        cases d with
        | tuple ds => exact htup ⟨ds, rfl⟩
        | none => exact absurd z (by decide)
        | bool x => exact absurd (show "bool" = "tuple" from z) (by decide)
        | int x => exact absurd (show "int" = "tuple" from z) (by decide)
        | str x => exact absurd (show "str" = "tuple" from z) (by decide)
        | list x => exact absurd (show "list" = "tuple" from z) (by decide)
        | dict x => exact absurd (show "dict" = "tuple" from z) (by decide)
      have hno : lotOf m d = none := by
        cases d with
        | tuple ds => exact absurd ⟨ds, rfl⟩ htup
        | _ => rfl
      rw [hno] at q
      have e0 : (tyD d == "tuple") = false := beq_eq_false_iff_ne.mpr hnt
      refine q_when (b := true) (et_is (et_not (et_B (ev_isi (K := K) (ev_var rfl) ev_c (fun H2 e2 => tyx_ex e2 ty) (ty_tup (tyD_in d))))) (by rw [e0]; rfl)) (fun _ H1 e1 => s_ret ev_c fun H2 e2 => q H2 (e1.trans e2)) (fun hb => by cases hb)
end
/-! ### the asking of a thing -/
def lot2F (m d : Int) (ps : List (List Int)) (l : List Int) : Bool := decide (l.length ≤ 9) && (paneF m d l == ps.any fun z => decide (z = l)) && (faceF m d l == !(ps.filter fun p => hasL p l).isEmpty)
def good2 (m d : Int) (ps : List (List Int)) : Bool := !ps.isEmpty && decide (ps.length ≤ 300) && (ps.all fun p => p.isSublist (upTo 0 m) && decide ((p.length : Int) = d)) && (subs (upTo 0 m)).all (lot2F m d ps)
def all2 : Bool := curvesAll.all fun c => good2 c.1 c.2 (panesL c.1 c.2)
theorem all_2 : all2 = true := by decide +kernel
structure F2 (m d : Int) : Prop where
  ne : panesL m d ≠ []
  few : (panesL m d).length ≤ 300
  sub : ∀ p ∈ panesL m d, p.Sublist (upTo 0 m)
  len : ∀ p ∈ panesL m d, (p.length : Int) = d
  lot : ∀ l, l.Sublist (upTo 0 m) → l.length ≤ 9 ∧ paneF m d l = ((panesL m d).any fun z => decide (z = l)) ∧ faceF m d l = !((panesL m d).filter fun p => hasL p l).isEmpty
theorem facts2 {m d : Int} (hc : okC m d) : F2 m d := by
  have h : good2 m d (panesL m d) = true := curve_all all_2 hc
  unfold good2 at h
  simp only [Bool.and_eq_true, decide_eq_true_eq] at h
  obtain ⟨⟨⟨h1, h2⟩, h3⟩, h4⟩ := h
  have h3 := List.all_eq_true.mp h3
  refine ⟨fun z => ?_, h2, fun p hp => ?_, fun p hp => ?_, fun l hl => ?_⟩
  · rw [z] at h1; cases h1
  · have := h3 p hp
    simp only [Bool.and_eq_true, decide_eq_true_eq] at this
    exact List.isSublist_iff_sublist.mp this.1
  · have := h3 p hp
    simp only [Bool.and_eq_true, decide_eq_true_eq] at this
    exact this.2
  · have := List.all_eq_true.mp h4 l (subs_of hl)
    unfold lot2F at this
    simp only [Bool.and_eq_true, decide_eq_true_eq] at this
    exact ⟨this.1.1, eq_of_beq this.1.2, eq_of_beq this.2⟩
theorem okT_bools (x y z : Bool) : okT (.list [.bool x, .bool y, .bool z]) = true := by cases x <;> cases y <;> cases z <;> decide +kernel
section
variable {P : Program} {w : World} {K : PySem.W.Frag} {mg : Str → Option Value} {base : Heap}
theorem ev_isl {σ : L2.St} {H : Hp} {ta tb : TE} {v : V} {b : Addr} {c : Bool} {m : Int} {d : PyData} {E : XK} (ha : Ev ta σ H v) (hb : Ev tb σ H (.int m)) (ho : Od K b c H v d) (hl : ∀ ds, d = .tuple ds → ds.length < 60) : Ev (tCall (spIsL K) [] E (tCons ta (tCons tb tNil))) σ H (.bl (lotOf m d).isSome) := fun H1 e Q q =>
  ha H1 e _ fun H2 e2 => hb H2 (e.trans e2) _ fun H3 e3 => ⟨b, c, v, m, d, rfl, od_ex ((e.trans e2).trans e3) ho, hl, fun H4 e4 => q H4 ((e2.trans e3).trans e4)⟩
theorem tg_bools {H : Hp} {p : Addr} {xs : List V} {x y z : Bool} (hp : H p = some (.lst xs)) (hx : DtAll K H xs [.bool x, .bool y, .bool z]) : Tg K (p + 1) H (.ref p) (.list [.bool x, .bool y, .bool z]) :=
  ⟨false, .lst (Nat.ne_of_lt (Nat.lt_succ_self p)) hp (fun z => nomatch z) (oda_dt hx), .inr rfl⟩
def spRight2 (K : PySem.W.Frag) : Sp := fun vs H Q _ => ∃ (b : Addr) (v cv : V) (p : Addr) (xs : List V) (m d : Int) (dd : PyData), vs = [v, cv, .ref p] ∧ Tg K b H v dd ∧ showOk dd ∧ (∀ ds, dd = .tuple ds → ds.length < 60) ∧ Dt K H cv (curveD m d) ∧ okC m d ∧ H p = some (.lst xs) ∧ DtAll K H xs ((panesL m d).map lotD) ∧ ∀ H2, Ex H H2 → Q (.bl true) H2
theorem okG_right (L : All K mg) {k : Nat} : FnG P w K mg base (k + (0 + 6)) L.f__law_right L.fd__law_right ["_law_thing", "_law_curve_here", "_law_rows"] (spRight2 K) := by
  have B := L.B
  have D := L.D__law_right
  have D__law_is_lot := L.D__law_is_lot
  have D__law_has := L.D__law_has
  have D_is_lot := L.D_is_lot
  have D_is_pane := L.D_is_pane
  have D_is_face := L.D_is_face
  have G__law_is_lot : FnOk P w K mg base CX0 1 _ _ ["_law_thing", "_law_many"] (spIsL K) := ok_isl (k := 0) D__law_is_lot B
  have G__law_has := ok__law_has (P := P) (w := w) (base := base) L (k := 0)
  have G_is_lot := ok_is_lot (P := P) (w := w) (base := base) L (k := 0)
  have G_is_pane := ok_is_pane (P := P) (w := w) (base := base) L (k := 0)
  have G_is_face := ok_is_face (P := P) (w := w) (base := base) L (k := 0)
  refine okG D.F sc__law_right (fun vs H Q E h => ?_) (fun cdv A outer s H vs Q E gd hr h => ?_)
  · obtain ⟨b, v, cv, p, xs, m, d, dd, rfl, _⟩ := h
    rfl
  · obtain ⟨b, v, cv, p, xs, m, d, dd, rfl, hv, hs, hlen, hcv, hc, hp, hx, q⟩ := h
    refine ⟨_, (pss_cons (ps_set (i := 3) sc__law_right.nd rfl (.inl rfl) (pe_callB (show CallR _ _ (rRep K) from call_rep gd hr.units) (by rfl) B.repr_ (by decide +kernel) (pa_cons (pv 0) pa_nil)))  (pss_cons (ps_set (i := 4) sc__law_right.nd rfl (.inl rfl) (pe_call G__law_is_lot (hr.mono (by omega)) (by rfl) D__law_is_lot.g D__law_is_lot.F.kp D__law_is_lot.b .nil pass0 (pa_cons (pv 0) (pa_cons (pe_ix (show IxR _ (rIxT K) from ix_tup) (pv 1) pe_int (fun _ _ => rfl)) pa_nil))))  (pss_cons (ps_set (i := 5) sc__law_right.nd rfl (.inl rfl) (pe_lst (pa_cons (pv 4) (pa_cons (pe_and (pv 4) (pe_one (pe_cmpR (show OpR _ _ (rInD K) from op_inD (units1 hr)) (pv 0) (pv 2) (by rfl)))) (pa_cons (pe_and (pv 4) (pe_one (pe_cmpR (show OpR _ _ (rNeD K) from op_neD hr.units) (pe_lc (own := [("_law_pane", 6)]) rfl sc__law_right.nd (pi_list (pv 2)) (blkOk_by (own := [("_law_pane", 6)]) (N := N__law_right) (sc := defScope s__law_right) (by decide +kernel)) (fun _ _ _ _ _ => (pg_name (i := 6) sc__law_right.nd rfl (.inl rfl))) (fun _ _ _ _ _ => pts_one (pt_val (pe_call G__law_has (hr.mono (by omega)) (by rfl) D__law_has.g D__law_has.F.kp D__law_has.b .nil pass0 (pa_cons (pv 6) (pa_cons (pv 0) pa_nil))))) (fun _ _ _ _ _ => (pv 6))) (pe_lst pa_nil) (nomark _)))) pa_nil)))))  (pss_cons (ps_set (i := 7) sc__law_right.nd rfl (.inl rfl) (pe_lst (pa_cons (pe_call G_is_lot (hr.mono (by omega)) (by rfl) D_is_lot.g D_is_lot.F.kp D_is_lot.b .nil pass0 (pa_cons (pv 0) (pa_cons (pv 1) pa_nil))) (pa_cons (pe_call G_is_pane (hr.mono (by omega)) (by rfl) D_is_pane.g D_is_pane.F.kp D_is_pane.b .nil pass0 (pa_cons (pv 0) (pa_cons (pv 1) pa_nil))) (pa_cons (pe_call G_is_face (hr.mono (by omega)) (by rfl) D_is_face.g D_is_face.F.kp D_is_face.b .nil pass0 (pa_cons (pv 0) (pa_cons (pv 1) pa_nil))) pa_nil)))))  (pss_one (ps_ret (pe_and (pe_cmpR op_eq (pe_callB (show CallR _ _ (rRep K) from call_rep gd hr.units) (by rfl) B.repr_ (by decide +kernel) (pa_cons (pv 7) pa_nil)) (pe_callB (show CallR _ _ (rRep K) from call_rep gd hr.units) (by rfl) B.repr_ (by decide +kernel) (pa_cons (pv 5) pa_nil)) (nomark _)) (pe_one (pe_cmpR op_eq (pe_callB (show CallR _ _ (rRep K) from call_rep gd hr.units) (by rfl) B.repr_ (by decide +kernel) (pa_cons (pv 0) pa_nil)) (pv 3) (nomark _)))))))))), ?_⟩
    obtain ⟨c, ho, hcd⟩ := hv
    have tg : ∀ {H1 : Hp}, Ex H H1 → Tg K b H1 v dd := fun e => ⟨c, od_ex e ho, hcd⟩
    have F := facts2 hc
    have few := F.few
    have hcm : ∀ {σ : L2.St} {H5 : Hp}, σ[1]? = some (some cv) → Ex H H5 → Ev (tOp (rIxT K) (tVar 1) (tC (.int 0))) σ H5 (.int m) := fun h6 e => ev_int (K := K) (ed_ixT (ds := [.int m, .int d]) (ed_var h6 (dt_ex e hcv)) ev_c rfl)
    refine q_asg (v := .str dd.shown) (ev_rep (K := K) (ev_var rfl) (tg (Ex.refl H)) hs) fun H1 e1 => ?_
    refine q_asg (v := .bl (lotOf m dd).isSome) (ev_isl (K := K) (ev_var rfl) (hcm rfl e1) (od_ex e1 ho) hlen) fun H2 e2 => ?_
    have e12 := e1.trans e2
    have hth : ThL K H v m (lotOf m dd) := thl_of m ho
    have hll : ∀ l, lotOf m dd = some l → l.length ≤ 1000 := fun l hl => by
      have := (F.lot l (lot_sub (lotOf_lot hl).2)).1
      omega
    have hpv : ((lotOf m dd).map (paneF m d)).getD false = ((lotOf m dd).map fun l => (panesL m d).any fun z => decide (z = l)).getD false := by
      cases hl : lotOf m dd with
      | none => rfl
      | some l => exact (F.lot l (lot_sub (lotOf_lot hl).2)).2.1
    have hfv : ((lotOf m dd).map (faceF m d)).getD false = ((lotOf m dd).map fun l => !((panesL m d).filter fun p => hasL p l).isEmpty).getD false := by
      cases hl : lotOf m dd with
      | none => rfl
      | some l => exact (F.lot l (lot_sub (lotOf_lot hl).2)).2.2
    refine q_asgF (K := K) (ds := [.bool (lotOf m dd).isSome, .bool (((lotOf m dd).map (paneF m d)).getD false), .bool (((lotOf m dd).map (faceF m d)).getD false)]) ?_ fun p5 xs5 H3 np5 e3 hp5 hx5 => ?_
    · rw [hpv, hfv]
      refine ef_lst (eb_cons (ed_bl (ev_var rfl)) (eb_cons (ed_bl ?_) (eb_cons (ed_bl ?_) eb_nil))) (by show 3 ≤ 100000; decide)
      · cases hl : lotOf m dd with
        | none => exact ev_is (ev_andV (a := false) (b := false) (ev_is (ev_var rfl) rfl) (fun z => by cases z)) rfl
        | some l =>
          have hd2 : Dt K H v (lotD l) := by rw [hl] at hth; exact hth.1
          exact ev_is (ev_andV (a := true) (ev_is (ev_var rfl) rfl) (fun _ => ev_op (ev_var rfl) (ev_var rfl) (rv_inD (dt_ex e12 hd2) (sq_of (e12 _ _ hp)) (dta_ex e12 hx)))) rfl
      · cases hl : lotOf m dd with
        | none => exact ev_is (ev_andV (a := false) (b := false) (ev_is (ev_var rfl) rfl) (fun z => by cases z)) rfl
        | some l =>
          have hd2 : Dt K H v (lotD l) := by rw [hl] at hth; exact hth.1
          have hl9 := hll l hl
          refine ev_is (ev_andV (a := true) (ev_is (ev_var rfl) rfl) (fun _ => ev_neFF (K := K) (ds := ((panesL m d).filter fun p => hasL p l).map lotD) (es := []) (ef_is (ef_lcL (ds := (panesL m d).map lotD) (fun z => hasL (unlot z) l) (fun z => z) (ev_var rfl) (sq_of (e12 _ _ hp)) (dta_ex e12 hx) (by rw [List.length_map]; omega) (fun _ => rfl) (fun z v' H7 e7 hm hz => ?_) (fun z v' H7 e7 hm hz _ => ed_var rfl hz)) (filt_lots fun z => by rw [unlot_lot])) (ef_lst eb_nil (by decide)) (lots_shaped _) (lots_shaped []))) ?_
          · obtain ⟨z', _, rfl⟩ := mem_lots hm
            rw [unlot_lot]
            exact et_B (ev__law_has (K := K) (eb_cons (ed_var rfl hz) (eb_cons (ed_var rfl (dt_ex (e12.trans e7) hd2)) eb_nil)) hl9)
          · rw [eqv_nil, List.isEmpty_map]
            rfl
    have e13 := e12.trans e3
    refine q_asgF (K := K) (ds := [.bool (lotOf m dd).isSome, .bool (((lotOf m dd).map (paneF m d)).getD false), .bool (((lotOf m dd).map (faceF m d)).getD false)]) (ef_lst (eb_cons (ed_bl (ev_isLot (K := K) (ev_var rfl) (ed_var rfl (dt_ex e13 hcv)) hc (hth.ex e13))) (eb_cons (ed_bl (ev_pane (K := K) (ev_var rfl) (ed_var rfl (dt_ex e13 hcv)) hc (hth.ex e13) hll)) (eb_cons (ed_bl (ev_face (K := K) (ev_var rfl) (ed_var rfl (dt_ex e13 hcv)) hc (hth.ex e13) hll)) eb_nil))) (by show 3 ≤ 100000; decide)) fun p7 xs7 H4 np7 e4 hp7 hx7 => ?_
    have e14 := e13.trans e4
    refine s_ret (v := .bl true) (ev_is (ev_andV (ev_op (ev_rep (K := K) (ev_var rfl) (tg_bools hp7 hx7) (show_of (okT_bools _ _ _))) (ev_rep (K := K) (ev_var rfl) (tg_bools (e4 _ _ hp5) (dta_ex e4 hx5)) (show_of (okT_bools _ _ _))) (rv_eq rfl)) (fun _ => ev_op (ev_rep (K := K) (ev_var rfl) (tg e14) hs) (ev_var rfl) (rv_eq rfl))) ?_) fun H5 e5 => q H5 (e14.trans e5)
    simp
end
/-! ### picks, slices, lists of drawn things -/
section
variable {K : PySem.W.Frag} {b : Addr} {σ : L2.St} {H H' : Hp} {ta tb te tl tn : TE} {p : PyData → Prop} {d : PyData} {ds : List PyData} {D : Ends} {tz : TS}
/-- l[take], l a list that stands -/
theorem ek_pick {q : Addr} {xs : List V} (hl : Ev tl σ H (.ref q)) (hq : H q = some (.lst xs)) (hx : DtAll K H xs ds) (nq : q ≠ b) (hi : ∀ H', Ex H H' → EvK K b ta σ H' (fun d => ∃ r : Int, d = .int r ∧ 0 ≤ r ∧ r < (ds.length : Int))) : EvK K b (tOp (rIxL K) tl ta) σ H (fun d => d ∈ ds) := fun Q k =>
  hl H (Ex.refl H) _ fun H1 e1 => hi H1 e1 _ fun v d H2 hr hv hb2 x2 => by
    obtain ⟨r, rfl, r0, r1⟩ := hr
    cases hv
    obtain ⟨m, rfl⟩ : ∃ m : Nat, r = (m : Int) := ⟨r.toNat, by omega⟩
    have hm : m < ds.length := by omega
    obtain ⟨w, hw, hd⟩ := dta_get' (dta_tx x2.tx (dta_ex e1 hx)) (List.getElem?_eq_getElem hm)
    exact ⟨q, xs, (m : Int), w, rfl, rfl, sq_of (x2.bx q _ nq (e1 q _ hq)), atI_nat hw, k w _ H2 (List.getElem_mem hm) hd hb2 ((bk_ex e1).trans x2)⟩
theorem cutV_to (xs : List V) (n : Nat) : cutV xs none (some (n : Int)) = xs.take n := by
  unfold cutV
  rw [HT.sIx_none, show HT.sIx xs.length xs.length (some (n : Int)) = min n xs.length from HT.sIx_nat xs.length xs.length n]
  show (xs.drop 0).take (min n xs.length - 0) = xs.take n
  rw [List.drop_zero, Nat.sub_zero, List.take_eq_take_iff]
  simp
theorem cutV_from (xs : List V) (n : Nat) : cutV xs (some (n : Int)) none = xs.drop n := by
  unfold cutV
  rw [HT.sIx_none, show HT.sIx xs.length 0 (some (n : Int)) = min n xs.length from HT.sIx_nat xs.length 0 n]
  show (xs.drop (min n xs.length)).take (xs.length - min n xs.length) = xs.drop n
  rw [List.take_of_length_le (by rw [List.length_drop]; exact Nat.le_refl _)]
  by_cases h : n ≤ xs.length
  · rw [Nat.min_eq_left h]
  · rw [Nat.min_eq_right (by omega), List.drop_length, List.drop_eq_nil_of_le (by omega)]
/-- t[:n] -/
theorem ed_cutTo {n : Nat} (h : EvD K te σ H (.tuple ds)) (hn : Ev tn σ H (.int (n : Int))) : EvD K (tSl (rSlA K) te tNoPart (tPart tn)) σ H (.tuple (ds.take n)) := fun H1 e Q q =>
  h H1 e _ fun v H2 e2 hv => hn H2 (e.trans e2) _ fun H3 e3 => by
    have hv := dt_ex e3 hv
    cases hv with
    | tup hs hx =>
      rename_i a xs
      refine ⟨_, rfl, _, _, rfl, hs, fun hw => ?_, fun hw p hp => ?_⟩
      · have h2 := hw.2
        rw [show HT.sIx xs.length xs.length (some (n : Int)) = min n xs.length from HT.sIx_nat xs.length xs.length n] at h2
        have : ds.take n = ds := List.take_of_length_le (by rw [← dta_len hx]; omega)
        rw [this] at q
        exact q _ _ (e2.trans e3) (.tup hs hx)
      · refine q _ _ ((e2.trans e3).trans (Ex.new hp)) (.tup (.inl (.inl (by rw [upd_same, cutV_to]))) (dta_ex (Ex.new hp) (dta_take n hx)))
/-- t[n:] -/
theorem ed_cutFrom {n : Nat} (h : EvD K te σ H (.tuple ds)) (hn : Ev tn σ H (.int (n : Int))) : EvD K (tSl (rSlA K) te (tPart tn) tNoPart) σ H (.tuple (ds.drop n)) := fun H1 e Q q =>
  h H1 e _ fun v H2 e2 hv => hn H2 (e.trans e2) _ fun H3 e3 => by
    have hv := dt_ex e3 hv
    cases hv with
    | tup hs hx =>
      rename_i a xs
      refine ⟨_, rfl, _, _, rfl, hs, fun hw => ?_, fun hw p hp => ?_⟩
      · have h2 := hw.1
        rw [show HT.sIx xs.length 0 (some (n : Int)) = min n xs.length from HT.sIx_nat xs.length 0 n] at h2
        have : ds.drop n = ds := by
          by_cases h0 : n = 0
          · rw [h0]; rfl
          · have hl : xs.length = 0 := by omega
            rw [dta_len hx] at hl
            rw [List.length_eq_zero_iff.mp hl]
            exact List.drop_nil
        rw [this] at q
        exact q _ _ (e2.trans e3) (.tup hs hx)
      · refine q _ _ ((e2.trans e3).trans (Ex.new hp)) (.tup (.inl (.inl (by rw [upd_same, cutV_from]))) (dta_ex (Ex.new hp) (dta_drop n hx)))
/-- [take.. for x in range(n)] -/
theorem eg_lcR {ta : TA} {j : Nat} {vs : List Nat} {hi : Int} (h : EvA ta σ H [.int hi]) (hb : BoxAt H b) (hn : 0 ≤ hi ∧ hi ≤ 1000) (hw : ∀ x, wipe ((wipe σ vs).set j (some x)) vs = wipe σ vs)
    (he : ∀ (i : Int) H1, Bk b H H1 → BoxAt H1 b → EvK K b te ((wipe σ vs).set j (some (.int i))) H1 p) : EvG K b (tLc (iRng1 ta) (gName j) tYes te vs) σ H (fun ds => (ds.length : Int) = hi ∧ ∀ d ∈ ds, p d) := fun Q q =>
  h H (Ex.refl H) _ fun H1 e1 => ⟨hi, rfl, by omega, by omega, fun Dl hD => by
    have nD : Dl ≠ b := box_ne (hb.ex e1) hD
    refine lc_range (lo := 0) (n := hi.toNat) (fun i H' => BoxAt H' b ∧ Bk b H1 H' ∧ ∃ (acc : List V) (ds : List PyData), H' Dl = some (.lst acc) ∧ DtAll K H' acc ds ∧ ds.length = i ∧ ∀ d ∈ ds, p d) ⟨(hb.ex e1).ex (Ex.new hD), bk_ex (Ex.new hD), [], [], upd_same, .nil, rfl, fun d hd => nomatch hd⟩ (fun i H' hi' pv => ⟨hw _, ?_⟩) (fun H' pv => ?_)
    · obtain ⟨hb2, x2, acc, ds, ha, hd, hl, hp⟩ := pv
      refine (he _ H' ((bk_ex e1).trans x2) hb2) _ fun v d H3 hpd hv hb3 x3 => ?_
      have ha3 := x3.bx Dl _ nD ha
      refine ⟨acc, ha3, sz_lt (by rw [dta_len hd]; omega), ?_, bk_mut (x2.trans x3) hD, acc ++ [v], ds ++ [d], upd_same, dta_tx (tx_lst ha3) (dta_app (dta_tx x3.tx hd) (dta_one hv)), by rw [List.length_append, hl]; rfl, fun d' hd' => ?_⟩
      · obtain ⟨n1, n2, hb4⟩ := hb3
        exact ⟨n1, n2, by rw [upd_ne nD.symm]; exact hb4⟩
      · rcases List.mem_append.mp hd' with z | z
        · exact hp d' z
        · rw [List.mem_singleton.mp z]; exact hpd
    · obtain ⟨hb2, x2, acc, ds, ha, hd, hl, hp⟩ := pv
      exact q Dl acc ds H' ⟨by omega, hp⟩ (fresh_back e1 hD) ha hd hb2 ((bk_ex e1).trans x2)⟩
theorem q_asgG {pl : List PyData → Prop} {i : Nat} (h : EvG K b te σ H pl) (k : ∀ q xs ds H2, pl ds → H q = none → H2 q = some (.lst xs) → DtAll K H2 xs ds → BoxAt H2 b → Bk b H H2 → tz D (σ.set i (some (.ref q))) H2) : tSeq (tAsg te (gName i)) tz D σ H := h _ k
end
theorem take_sub {l u : List Int} (h : l.Sublist u) (n : Nat) : (l.take n).Sublist u := (List.take_sublist n l).trans h
theorem drop_sub {l u : List Int} (h : l.Sublist u) (n : Nat) : (l.drop n).Sublist u := (List.drop_sublist n l).trans h
theorem cut_sub {l u : List Int} (h : l.Sublist u) (n : Nat) : (l.take n ++ l.drop (n + 1)).Sublist u := by
  refine List.Sublist.trans ?_ h
  have e : l.take n ++ l.drop n = l := List.take_append_drop n l
  have h2 : (l.drop (n + 1)).Sublist (l.drop n) := by
    rw [show n + 1 = n + 1 from rfl, ← List.drop_drop]
    exact List.drop_sublist _ _
  have h3 := (List.Sublist.refl (l.take n)).append h2
  rw [e] at h3
  exact h3
theorem one_sub {c m : Int} (h0 : 0 ≤ c) (h1 : c < m) : [c].Sublist (upTo 0 m) := by
  rw [List.singleton_sublist]
  unfold upTo
  exact List.mem_map.mpr ⟨c.toNat, List.mem_range.mpr (by omega), by omega⟩
theorem q_forTg {K : PySem.W.Frag} {b : Addr} {σ : L2.St} {H : Hp} {tl : TE} {ds : List PyData} {D : Ends} {tu tz : TS} {g : TG} (h : EvTF K b tl σ H ds) (Pv : Nat → L2.St → Hp → Prop) (h0 : ∀ H1, Ex H H1 → Pv 0 σ H1)
    (hs : ∀ H1 i x d σ' H', Ex H H1 → Ex H1 H' → ds[i]? = some d → Tg K b H' x d → Pv i σ' H' → g x σ' H' fun σ2 H2 => tu { D with nx := fun σ3 H3 => Ex H1 H3 ∧ Pv (i + 1) σ3 H3, ct := fun σ3 H3 => Ex H1 H3 ∧ Pv (i + 1) σ3 H3, bk := tz D } σ2 H2)
    (hd : ∀ σ' H', Ex H H' → Pv ds.length σ' H' → tz D σ' H') : tSeq (tFor (iList K tl) g tu) tz D σ H := s_forTg (D := { D with nx := tz D }) h Pv h0 hs hd
/-! ### the things of the law -/
theorem hasDict_ints : ∀ l : List Int, PyData.hasDictAll (l.map PyData.int) = false
  | [] => rfl
  | _ :: l => by show (false || PyData.hasDictAll (l.map PyData.int)) = false; rw [hasDict_ints l]; rfl
def odds2 (m x y z : Int) : List PyData := [.none, .bool true, .bool false, .str (toString x), .tuple [.int x], .list [.int x], .int (-1), .int m, .int (10 ^ 29)] ++ [.int y, .int z, dictD []]
def oddOk : Bool := (List.range 10).all fun x => okE (.str (toString ((x : Nat) : Int))) && okE (.tuple [.int x]) && okE (.list [.int x]) && okE (.int x)
theorem odd_ok : oddOk = true := by decide +kernel
theorem okE_odds {m x y z : Int} (hm : 0 ≤ m ∧ m < 10) (hx : 0 ≤ x ∧ x < 10) (hy : 0 ≤ y ∧ y < 10) (hz : 0 ≤ z ∧ z < 10) : ∀ o ∈ odds2 m x y z, okE o = true := fun o ho => by
  obtain ⟨n, rfl⟩ : ∃ n : Nat, x = (n : Int) := ⟨x.toNat, by omega⟩
  have k := List.all_eq_true.mp odd_ok n (List.mem_range.mpr (by omega))
  simp only [Bool.and_eq_true] at k
  obtain ⟨⟨⟨k1, k2⟩, k3⟩, k4⟩ := k
  unfold odds2 at ho
  simp only [List.cons_append, List.nil_append, List.mem_cons, List.not_mem_nil, or_false] at ho
  rcases ho with rfl | rfl | rfl | rfl | rfl | rfl | rfl | rfl | rfl | rfl | rfl | rfl
  · rfl
  · rfl
  · rfl
  · exact k1
  · exact k2
  · exact k3
  · decide +kernel
  · exact okE_int (by omega) (by omega)
  · decide +kernel
  · exact okE_int (by omega) (by omega)
  · exact okE_int (by omega) (by omega)
  · decide +kernel
section
variable {K : PySem.W.Frag} {b : Addr} {c : Bool} {σ : L2.St} {H : Hp} {te tn : TE} {ds es : List PyData} {d : PyData}
/-- t[:-1] -/
theorem ed_cutLast (h : EvD K te σ H (.tuple ds)) (hn : Ev tn σ H (.int (-1))) : EvD K (tSl (rSlA K) te tNoPart (tPart tn)) σ H (.tuple ds.dropLast) := fun H1 e Q q =>
  h H1 e _ fun v H2 e2 hv => hn H2 (e.trans e2) _ fun H3 e3 => by
    have hv := dt_ex e3 hv
    cases hv with
    | tup hs hx =>
      rename_i a xs
      refine ⟨_, rfl, _, _, rfl, hs, fun hw => ?_, fun hw p hp => ?_⟩
      · have h2 := hw.2
        have hnil : xs = [] := by
          cases hxs : xs with
          | nil => rfl
          | cons x r =>
            exfalso
            rw [hxs] at h2
            have : HT.sIx (x :: r).length (x :: r).length (some (-1)) = (x :: r).length - 1 := by
              show (HT.sIx ((x :: r).length) ((x :: r).length) (some (-1))) = _
              unfold HT.sIx
              simp
              omega
            rw [this, List.length_cons] at h2
            omega
        subst hnil
        cases hx
        exact q _ _ (e2.trans e3) (.tup hs .nil)
      · have hc : cutV xs none (some (-1)) = xs.dropLast := by
          cases hxs : xs.reverse with
          | nil =>
            have : xs = [] := by simpa using hxs
            subst this
            rfl
          | cons x r =>
            have : xs = r.reverse ++ [x] := by
              have := congrArg List.reverse hxs
              simpa using this
            subst this
            rw [cut_last, List.dropLast_concat]
        have hd : ∀ {xs : List V} {ds : List PyData}, DtAll K H3 xs ds → DtAll K H3 xs.dropLast ds.dropLast := fun {xs ds} h => by
          rw [List.dropLast_eq_take, List.dropLast_eq_take, dta_len h]
          exact dta_take _ h
        exact q _ _ ((e2.trans e3).trans (Ex.new hp)) (.tup (.inl (.inl (by rw [upd_same, hc]))) (dta_ex (Ex.new hp) (hd hx)))
/-- t[::-1] -/
theorem ed_revT (h : EvD K te σ H (.tuple ds)) : EvD K (tRevT K te) σ H (.tuple ds.reverse) := fun H1 e Q q =>
  h H1 e _ fun v H2 e2 hv => by
    cases hv with
    | tup hs hx =>
      refine ⟨_, _, rfl, hs, fun p hp => q _ _ (e2.trans (Ex.new hp)) (.tup (.inl (.inl upd_same)) (dta_ex (Ex.new hp) ?_))⟩
      have hr : ∀ {xs : List V} {ds : List PyData}, DtAll K H2 xs ds → DtAll K H2 xs.reverse ds.reverse := by
        intro xs ds h
        induction xs generalizing ds with
        | nil => cases h; exact .nil
        | cons x r ih =>
          cases h with
          | cons h1 h2 =>
            rw [List.reverse_cons, List.reverse_cons]
            exact dta_app (ih h2) (dta_one h1)
      exact hr hx
/-- list(t)[::-1], of ints -/
theorem eo_revL {l : List Int} (hb : BoxAt H b) (h : EvD K te σ H (lotD l)) : EvO K b false (tRevL K (tCB (rListS K) (tCons te tNil))) σ H (.list (l.reverse.map PyData.int)) := fun H1 e Q q =>
  h H1 e _ fun v H2 e2 hv => by
    obtain ⟨a, rfl, ha⟩ := dt_lot hv
    refine ⟨a, _, rfl, .inr ha, fun p hp => ⟨p, _, rfl, sq_of upd_same, fun r hr => ?_⟩⟩
    have e3 := Ex.new (o := .lst (l.map V.int)) hp
    have e4 := Ex.new (o := .lst (l.map V.int).reverse) hr
    refine q _ _ ((e2.trans e3).trans e4) (.lst (box_ne (hb.ex ((e.trans e2).trans e3)) hr) upd_same (fun z => nomatch z) ?_)
    rw [← List.map_reverse]
    exact oda_dt (dta_ints _)
theorem oda_map : ∀ {vs : List V} {ds : List PyData}, DtAll K H vs ds → OdAll K b c H vs ds := oda_dt
/-- (l + [..])[k] -/
theorem eo_pickCat {p : Addr} {xs : List V} {ta : TA} {tk : TE} {i k : Nat} (hi : σ[i]? = some (some (.ref p))) (hp : H p = some (.lst xs)) (hx : OdAll K b true H xs ds) (ha : EvOB K b true ta σ H es) (hk : Ev tk σ H (.int (k : Int))) (hl : ds.length + es.length ≤ 1000) (hd : (ds ++ es)[k]? = some d) : EvO K b true (tOp (rIxL K) (tOp rCat (tVar i) (tLst ta)) tk) σ H d := fun H1 e Q q =>
  ⟨_, hi, ha H1 e _ fun vs H2 e2 hvs => ⟨sz_of (by rw [oda_len hvs]; omega), fun r hr => by
    have e3 := Ex.new (o := .lst vs) hr
    have hp3 := ((e.trans e2).trans e3) _ _ hp
    refine ⟨_, _, _, _, rfl, rfl, hp3, upd_same, sz_of (by rw [oda_len hx, oda_len hvs]; omega), fun n hn => ?_⟩
    have e4 := Ex.new (o := .lst (xs ++ vs)) hn
    refine hk _ (((e.trans e2).trans e3).trans e4) _ fun H5 e5 => ?_
    have hall := oda_app (oda_ex ((e.trans e2).trans (e3.trans (e4.trans e5))) hx) (oda_ex (e3.trans (e4.trans e5)) hvs)
    obtain ⟨w, hw, hd2⟩ := oda_get' hall hd
    exact ⟨n, xs ++ vs, (k : Int), w, rfl, rfl, sq_of (e5 _ _ upd_same), atI_nat hw, q w H5 ((e2.trans e3).trans (e4.trans e5)) hd2⟩⟩⟩
theorem q_asgO {D : Ends} {tz : TS} {i : Nat} (h : EvO K b c te σ H d) (k : ∀ v H1, Ex H H1 → Od K b c H1 v d → tz D (σ.set i (some v)) H1) : tSeq (tAsg te (gName i)) tz D σ H := h H (Ex.refl H) _ k
theorem q_asgOF {D : Ends} {tz : TS} {ta : TA} {i : Nat} (h : EvOB K b c ta σ H ds) (hl : ds.length ≤ 1000) (k : ∀ p xs H1, H p = none → Ex H H1 → H1 p = some (.lst xs) → OdAll K b c H1 xs ds → tz D (σ.set i (some (.ref p))) H1) : tSeq (tAsg (tLst ta) (gName i)) tz D σ H :=
  h H (Ex.refl H) _ fun vs H2 e2 hvs => ⟨sz_of (by rw [oda_len hvs]; omega), fun p hp => k p vs _ (fresh_back e2 hp) (e2.trans (Ex.new hp)) upd_same (oda_ex (Ex.new hp) hvs)⟩
theorem eo_strI {i : Int} (h : Ev te σ H (.int i)) (hi : 0 ≤ i ∧ i < 10) : EvO K b c (tCB (fun xs H Q => ∃ i : Int, xs = [.int i] ∧ i.natAbs.log2 < 1920 ∧ Q (.str (toString i)) H) (tCons te tNil)) σ H (.str (toString i)) := fun H1 e Q q =>
  h H1 e _ fun H2 e2 => ⟨i, rfl, by
    have : i.natAbs < 2 ^ 1920 := Nat.lt_of_lt_of_le (show i.natAbs < 10 by omega) (by decide +kernel)
    exact (by
      by_cases z : i.natAbs = 0
      · rw [z]; decide
      · exact (Nat.log2_lt z).mpr this), q _ H2 e2 (.str _)⟩
end
section
variable {P : Program} {w : World} {K : PySem.W.Frag} {mg : Str → Option Value} {base : Heap}
theorem ok__law_lot (L : All K mg) {k : Nat} : FnOk P w K mg base CX0 (k + 3) L.f__law_lot L.fd__law_lot ["_law_box_here", "_law_many"] (spLot K) := okk_lot L.D__law_lot L.D__law_take L.D__law_more L.B
theorem ev_right2 {σ : L2.St} {H : Hp} {b : Addr} {v cv : V} {p : Addr} {xs : List V} {m d : Int} {dd : PyData} {i j n : Nat} {E : XK} (hi : σ[i]? = some (some v)) (hj : σ[j]? = some (some cv)) (hn : σ[n]? = some (some (.ref p))) (hv : Tg K b H v dd) (hs : okT dd = true) (hl : ∀ ds, dd = .tuple ds → ds.length < 60) (hcv : Dt K H cv (curveD m d)) (hc : okC m d) (hp : H p = some (.lst xs)) (hx : DtAll K H xs ((panesL m d).map lotD)) :
    Ev (tCall (spRight2 K) [] E (tCons (tVar i) (tCons (tVar j) (tCons (tVar n) tNil)))) σ H (.bl true) := fun H1 e Q q =>
  ⟨v, hi, cv, hj, _, hn, b, v, cv, p, xs, m, d, dd, rfl, tg_ex e hv, show_of hs, hl, dt_ex e hcv, hc, e _ _ hp, dta_ex e hx, fun H3 e3 => q H3 e3⟩
theorem ok_law (L : All K mg) {f : Addr} {fd : FuncData} (D : Df K mg "law" s_law ["_law_script"] f fd) : FnG P w K mg base 9 f fd ["_law_script"] (spLawY K [] []) := by
  have B := L.B
  have D__law_box := L.D__law_box
  have G__law_box := ok__law_box (P := P) (w := w) (base := base) L (k := 0)
  have D__law_take := L.D__law_take
  have G__law_take := ok__law_take (P := P) (w := w) (base := base) L (k := 0)
  have D__law_curve := L.D__law_curve
  have G__law_curve := ok__law_curve (P := P) (w := w) (base := base) L (k := 0)
  have D__law_panes := L.D__law_panes
  have G__law_panes := ok__law_panes (P := P) (w := w) (base := base) L (k := 0)
  have D__law_lot := L.D__law_lot
  have G__law_lot := ok__law_lot (P := P) (w := w) (base := base) L (k := 0)
  have D__law_right := L.D__law_right
  have G__law_right := okG_right (P := P) (w := w) (base := base) (k := 0) L
  refine okG D.F sc_law (fun vs H Q E h => ?_) (fun cdv A outer s H vs Q E gd hr h => ?_)
  · obtain ⟨a, ns, rfl, _⟩ := h
    rfl
  · obtain ⟨a, ns, rfl, hS, hlen, hPs, hTs, q⟩ := h
    refine ⟨_, (pss_cons (ps_for PassesOwn.never rfl (pi_range1 (by rfl) B.range_ (pa_cons (pe_callB (call_max2 rfl) (by rfl) B.max_ (by decide +kernel) (pa_cons pe_int (pa_cons (pe_callB (call_min2 rfl) (by rfl) B.min_ (by decide +kernel) (pa_cons (pe_callB (show CallR _ _ (rLenS K) from call_len_seq) (by rfl) B.len_ (by decide +kernel) (pa_cons (pv 0) pa_nil)) (pa_cons pe_int pa_nil))) pa_nil))) pa_nil)) (pg_name (i := 1) sc_law.nd rfl (.inl rfl))  (pss_cons (ps_set (i := 2) sc_law.nd rfl (.inl rfl) (pe_call G__law_box (hr.mono (by omega)) (by rfl) D__law_box.g D__law_box.F.kp D__law_box.b .nil pass0 (pa_cons (pv 0) (pa_cons (pv 1) pa_nil)))) (pss_cons (ps_set (i := 3) sc_law.nd rfl (.inl rfl) (pe_call G__law_take (hr.mono (by omega)) (by rfl) D__law_take.g D__law_take.F.kp D__law_take.b .nil pass0 (pa_cons (pv 2) (pa_cons pe_int pa_nil)))) (pss_cons (ps_set (i := 4) sc_law.nd rfl (.inl rfl) (pe_call G__law_curve (hr.mono (by omega)) (by rfl) D__law_curve.g D__law_curve.F.kp D__law_curve.b .nil pass0 (pa_cons (pv 2) pa_nil))) (pss_cons (ps_set (i := 5) sc_law.nd rfl (.inl rfl) (pe_call G__law_panes (hr.mono (by omega)) (by rfl) D__law_panes.g D__law_panes.F.kp D__law_panes.b .nil pass0 (pa_cons (pv 4) pa_nil))) (pss_cons (ps_set (i := 6) sc_law.nd rfl (.inl rfl) (pe_ix (show IxR _ (rIxL K) from ix_list) (pv 5) (pe_call G__law_take (hr.mono (by omega)) (by rfl) D__law_take.g D__law_take.F.kp D__law_take.b .nil pass0 (pa_cons (pv 2) (pa_cons (pe_callB (show CallR _ _ (rLenS K) from call_len_seq) (by rfl) B.len_ (by decide +kernel) (pa_cons (pv 5) pa_nil)) pa_nil))) (fun _ _ => rfl))) (pss_cons (ps_set (i := 7) sc_law.nd rfl (.inl rfl) (pe_call G__law_lot (hr.mono (by omega)) (by rfl) D__law_lot.g D__law_lot.F.kp D__law_lot.b .nil pass0 (pa_cons (pv 2) (pa_cons (pe_ix (show IxR _ (rIxT K) from ix_tup) (pv 4) pe_int (fun _ _ => rfl)) pa_nil)))) (pss_cons (ps_set (i := 8) sc_law.nd rfl (.inl rfl) (pe_lst (pa_cons (pv 7) (pa_cons (pv 6) (pa_cons (pe_slice (show SlR _ (rSlA K) from sl_tupA) (pv 6) (po_some pe_int) po_none) (pa_cons (pe_slice (show SlR _ (rSlA K) from sl_tupA) (pv 6) po_none (po_some (pe_un un_neg pe_int))) (pa_cons (pe_revT (pv 7)) (pa_cons (pe_callTy (show CallR _ _ (rListS K) from call_list_of) (by rfl) B.list_ (by decide +kernel) (pa_cons (pv 7) pa_nil)) (pa_cons (pe_revL (pe_callTy (show CallR _ _ (rListS K) from call_list_of) (by rfl) B.list_ (by decide +kernel) (pa_cons (pv 7) pa_nil))) (pa_cons (pe_tup (pa_cons (pv 7) pa_nil)) (pa_cons pe_non (pa_cons pe_dnewK (pa_cons pe_str (pa_cons (pe_disp (pps_cons pe_int pe_int pps_nil) rfl rfl (by decide) (by decide)) (pa_cons pe_int pa_nil))))))))))))))) (pss_cons (ps_for PassesOwn.never rfl (pi_list (pe_op op_cat (pv 8) (pe_lst (pa_cons (pe_tupRg rfl (by rfl) B.tuple_ (prg_1 (by rfl) B.range_ (pe_ix (show IxR _ (rIxT K) from ix_tup) (pv 4) pe_int (fun _ _ => rfl)))) (pa_cons (pe_tup pa_nil) pa_nil))))) (pg_name (i := 9) sc_law.nd rfl (.inl rfl))  (pss_one (ps_if (pt_not (pt_val (pe_callG (E := E0) G__law_right gd (hr.mono (by omega)) (by rfl) D__law_right.g D__law_right.F.kp D__law_right.b (pa_cons (pv 9) (pa_cons (pv 4) (pa_cons (pv 5) pa_nil))))))  (pss_one (ps_ret pe_bl))  pss_nil))) (pss_cons (ps_set (i := 10) sc_law.nd rfl (.inl rfl) (pe_call G__law_take (hr.mono (by omega)) (by rfl) D__law_take.g D__law_take.F.kp D__law_take.b .nil pass0 (pa_cons (pv 2) (pa_cons (pe_ix (show IxR _ (rIxT K) from ix_tup) (pv 4) pe_int (fun _ _ => rfl)) pa_nil)))) (pss_cons (ps_set (i := 11) sc_law.nd rfl (.inl rfl) (pe_lst (pa_cons pe_non (pa_cons pe_bl (pa_cons pe_bl (pa_cons (pe_callTy call_str_int (by rfl) B.str_ (by decide +kernel) (pa_cons (pe_ix (show IxR _ (rIxT K) from ix_tup) (pv 6) (pv 10) (fun _ _ => rfl)) pa_nil)) (pa_cons (pe_tup (pa_cons (pe_ix (show IxR _ (rIxT K) from ix_tup) (pv 6) (pv 10) (fun _ _ => rfl)) pa_nil)) (pa_cons (pe_lstB (pa_cons (pe_ix (show IxR _ (rIxT K) from ix_tup) (pv 6) (pv 10) (fun _ _ => rfl)) pa_nil)) (pa_cons (pe_un un_neg pe_int) (pa_cons (pe_ix (show IxR _ (rIxT K) from ix_tup) (pv 4) pe_int (fun _ _ => rfl)) (pa_cons (pe_op op_pow pe_int pe_int) pa_nil))))))))))) (pss_cons (ps_set (i := 11) sc_law.nd rfl (.inl rfl) (pe_ix (show IxR _ (rIxL K) from ix_list) (pe_op op_cat (pv 11) (pe_lst (pa_cons (pe_ix (show IxR _ (rIxT K) from ix_tup) (pv 6) pe_int (fun _ _ => rfl)) (pa_cons (pe_ix (show IxR _ (rIxT K) from ix_tup) (pv 6) (pe_un un_neg pe_int) (fun _ _ => rfl)) (pa_cons pe_dnewK pa_nil))))) (pv 3) (fun _ _ => rfl))) (pss_one (ps_for PassesOwn.never rfl (pi_list (pe_lst (pa_cons (pe_op (show OpR _ _ (rCatA K) from op_catA) (pe_op (show OpR _ _ (rCatA K) from op_catA) (pe_slice (show SlR _ (rSlA K) from sl_tupA) (pv 6) po_none (po_some (pv 10))) (pe_tup (pa_cons (pv 11) pa_nil))) (pe_slice (show SlR _ (rSlA K) from sl_tupA) (pv 6) (po_some (pe_op op_add (pv 10) pe_int)) po_none)) (pa_cons (pe_op (show OpR _ _ (rCatA K) from op_catA) (pe_op (show OpR _ _ (rCatA K) from op_catA) (pe_slice (show SlR _ (rSlA K) from sl_tupA) (pv 6) po_none (po_some (pv 10))) (pe_tup (pa_cons (pv 11) pa_nil))) (pe_slice (show SlR _ (rSlA K) from sl_tupA) (pv 6) (po_some (pv 10)) po_none)) (pa_cons (pe_op (show OpR _ _ (rCatA K) from op_catA) (pv 6) (pe_tup (pa_cons (pv 11) pa_nil))) (pa_cons (pe_op (show OpR _ _ (rCatA K) from op_catA) (pe_tup (pa_cons (pv 11) pa_nil)) (pv 6)) pa_nil)))))) (pg_name (i := 9) sc_law.nd rfl (.inl rfl))  (pss_one (ps_if (pt_not (pt_val (pe_callG (E := E0) G__law_right gd (hr.mono (by omega)) (by rfl) D__law_right.g D__law_right.F.kp D__law_right.b (pa_cons (pv 9) (pa_cons (pv 4) (pa_cons (pv 5) pa_nil))))))  (pss_one (ps_ret pe_bl))  pss_nil)))))))))))))))) (pss_one (ps_ret pe_bl))), ?_⟩
    obtain ⟨n, n0, n1, hn⟩ := ev_cells (K := K) (H := H) (σ := L2.start N_law [.ref a]) (ta := tVar 0) (c := 3) (ev_var rfl) hS (by decide)
    refine q_forR1 (n := n) (ea_cons hn ea_nil) ⟨by omega, by omega⟩ (fun i σ' H' => ∃ y1 y2 y3 y4 y5 y6 y7 y8 y9 y10 y11 : Option V, σ' = [some (.ref a), y1, y2, y3, y4, y5, y6, y7, y8, y9, y10, y11] ∧ Ex H H') (fun H2 e3 => ⟨_, _, _, _, _, _, _, _, _, _, _, rfl, e3⟩) ?_ ?_
    · rintro i σ' Hs hi ⟨y1, y2, y3, y4, y5, y6, y7, y8, y9, y10, y11, rfl, es⟩
      refine q_box (ev_var rfl) (ex_l es hS) (ev_var rfl) (by omega) (by omega) fun b H2 nb e2 hb => ?_
      refine q_asgK (K := K) (b := b) (ek_take (K := K) (wd := 12) rfl hb ev_c (by decide) (by decide)) fun kv kd0 Hk hkd hkv hbk xk => ?_
      obtain ⟨kd, rfl, kd0, kd1⟩ := hkd
      cases hkv
      obtain ⟨kn, rfl⟩ : ∃ k : Nat, kd = (k : Int) := ⟨kd.toNat, by omega⟩
      refine q_curve (K := K) rfl hbk fun cv m d H3 hc hcv hb3 x3 => ?_
      have x23 := xk.trans x3
      obtain ⟨c1, c2, c3, c4⟩ := id hc
      have F := facts2 hc
      have few := F.few
      have hcm : ∀ {σ : L2.St} {H5 : Hp}, σ[4]? = some (some cv) → Dt K H5 cv (curveD m d) → Ev (tOp (rIxT K) (tVar 4) (tC (.int 0))) σ H5 (.int m) := fun h6 e => ev_int (K := K) (ed_ixT (ds := [.int m, .int d]) (ed_var h6 e) ev_c rfl)
      have hcd : ∀ {σ : L2.St} {H5 : Hp}, σ[4]? = some (some cv) → Dt K H5 cv (curveD m d) → Ev (tOp (rIxT K) (tVar 4) (tC (.int 1))) σ H5 (.int d) := fun h6 e => ev_int (K := K) (ed_ixT (ds := [.int m, .int d]) (ed_var h6 e) ev_c rfl)
      refine q_asgF (K := K) (ev__law_panes (K := K) (eb_cons (ed_var rfl hcv) eb_nil) hc) fun p4 xs4 H4 np4 e4 hp4 hx4 => ?_
      have hb4 := hb3.ex e4
      have n4 : p4 ≠ b := box_ne hb3 np4
      have hne : 0 < (panesL m d).length := List.length_pos_iff.mpr F.ne
      refine q_asgK (K := K) (b := b) (ek_pick (ev_var rfl) hp4 hx4 n4 fun H' e' => ek_mono (ek_take (K := K) (wd := ((panesL m d).length : Int)) rfl (hb4.ex e') (ev_is (ev_lenD (K := K) (ev_var rfl) (sq_of (e' _ _ hp4)) (dta_ex e' hx4)) (by rw [List.length_map])) (by omega) (by omega)) fun dd h => by rw [List.length_map]; exact h) fun pv pd H5 hpd hpv hb5 x5 => ?_
      obtain ⟨pn, hpn, rfl⟩ := mem_lots hpd
      have x45 : Bk b H3 H5 := (bk_ex e4).trans x5
      have hcv5 := dt_tx x45.tx hcv
      refine q_asgK (K := K) (b := b) (ek_lot (K := K) rfl hb5 (hcm rfl hcv5) (by omega) (by omega)) fun lv ld H6 hld hlv hb6 x6 => ?_
      obtain ⟨l, rfl, hsub⟩ := hld
      have psub := F.sub pn hpn
      have plen := F.len pn hpn
      obtain ⟨pbd, pl9⟩ := sub_bd c4 psub
      obtain ⟨lbd, ll9⟩ := sub_bd c4 hsub
      have x46 := x45.trans x6
      have hcv6 := dt_tx x46.tx hcv
      have hpv6 := dt_tx x6.tx hpv
      have hp46 : H6 p4 = some (.lst xs4) := (x5.trans x6).bx p4 _ n4 hp4
      have hx46 := dta_tx (x5.trans x6).tx hx4
      have e06 : Ex H H6 := es.trans (ex_bx (ex_bx e2 x23 nb) x46 nb)
      have eP : ∀ {l' : List Int}, (∀ x ∈ l', 0 ≤ x ∧ x < m) → ∀ e ∈ l'.map PyData.int, okE e = true := fun h => okE_ints fun x hx => ⟨by have := h x hx; omega, by have := h x hx; omega⟩
      refine q_asgTF (K := K) (b := b) (ds := [lotD l, lotD pn, .tuple ((pn.map PyData.int).drop 1), .tuple (pn.map PyData.int).dropLast, .tuple (l.map PyData.int).reverse, .list (l.map PyData.int), .list (l.reverse.map PyData.int), .tuple [lotD l], .none, dictD [], .str "", dictD [(.inl 0, 1)], .int 5])
        (tf_lst (tb_cons (eo_d (ed_var rfl hlv)) (tb_cons (eo_d (ed_var rfl hpv6)) (tb_cons (eo_d (ed_cutFrom (n := 1) (ed_var rfl hpv6) ev_c)) (tb_cons (eo_d (ed_cutLast (ed_var rfl hpv6) (ev_un ev_c ru_neg))) (tb_cons (eo_d (ed_revT (ed_var rfl hlv)))
          (tb_consF (eo_list (ds := l.map PyData.int) hb6 (eo_d (ed_var rfl hlv))) (hasDict_ints l) (tb_consF (eo_revL hb6 (ed_var rfl hlv)) (hasDict_ints _) (tb_cons (eo_tup (ob_cons (eo_d (ed_var rfl hlv)) ob_nil) (by show 1 ≤ 100000; decide)) (tb_cons eo_non (tb_cons (eo_dict0 hb6) (tb_cons eo_str (tb_cons (eo_dict1 hb6) (tb_cons (eo_int ev_c) tb_nil))))))))))))) (by show 13 ≤ 100000; decide)) fun p8 xs8 H7 np8 e7 hp8 hx8 => ?_
      have hcv7 := dt_ex e7 hcv6
      refine q_forTg (K := K) (b := b) (tf_catLF (ev_var rfl) hp8 hx8 (tf_lst (ds := [lotD (upTo 0 m), .tuple []]) (tb_cons (eo_d (ed_tupRg (hcm rfl hcv7) (by omega) (by omega))) (tb_cons (eo_tup ob_nil (by decide)) tb_nil)) (by show 2 ≤ 100000; decide)) (by show 15 ≤ 100000; decide))
        (fun _ σ' H' => ∃ y9 y10 y11 : Option V, σ' = [some (.ref a), some (.int (i : Int)), some (.ref b), some (.int (kn : Int)), some cv, some (.ref p4), some pv, some lv, some (.ref p8), y9, y10, y11]) (fun H9 e9 => ⟨_, _, _, rfl⟩) ?_ ?_
      · rintro H8 t x dx σ' H9 e8 e9 ht hx ⟨y9, y10, y11, rfl⟩
        have e69 := e7.trans (e8.trans e9)
        have hdx := List.mem_of_getElem? ht
        have hok : okT dx = true ∧ ∀ ds, dx = .tuple ds → ds.length < 60 := by
          simp only [List.cons_append, List.nil_append, List.mem_cons, List.not_mem_nil, or_false] at hdx
          rcases hdx with rfl | rfl | rfl | rfl | rfl | rfl | rfl | rfl | rfl | rfl | rfl | rfl | rfl | rfl | rfl
          · exact ⟨okT_tup (eP lbd) (by rw [List.length_map]; omega), fun ds e => by cases e; rw [List.length_map]; omega⟩
          · exact ⟨okT_tup (eP pbd) (by rw [List.length_map]; omega), fun ds e => by cases e; rw [List.length_map]; omega⟩
          · exact ⟨okT_tup (fun e he => eP pbd e (List.mem_of_mem_drop he)) (by rw [List.length_drop, List.length_map]; omega), fun ds e => by cases e; rw [List.length_drop, List.length_map]; omega⟩
          · exact ⟨okT_tup (fun e he => eP pbd e (List.dropLast_subset _ he)) (by rw [List.length_dropLast, List.length_map]; omega), fun ds e => by cases e; rw [List.length_dropLast, List.length_map]; omega⟩
          · exact ⟨okT_tup (fun e he => eP lbd e (List.mem_reverse.mp he)) (by rw [List.length_reverse, List.length_map]; omega), fun ds e => by cases e; rw [List.length_reverse, List.length_map]; omega⟩
          · exact ⟨okT_lst (eP lbd) (by rw [List.length_map]; omega), fun ds e => by cases e⟩
          · exact ⟨okT_lst (eP (l' := l.reverse) fun x hx => lbd x (List.mem_reverse.mp hx)) (by rw [List.length_map, List.length_reverse]; omega), fun ds e => by cases e⟩
          · refine ⟨okT_tup (fun e he => ?_) (by show 1 ≤ 50; decide), fun ds e => by cases e; show 1 < 60; decide⟩
            rw [List.mem_singleton.mp he]
            exact okE_lot (fun x hx => by have := lbd x hx; omega) (by omega)
          · exact ⟨by decide +kernel, fun ds e => by cases e⟩
          · exact ⟨by decide +kernel, fun ds e => by cases e⟩
          · exact ⟨by decide +kernel, fun ds e => by cases e⟩
          · exact ⟨by decide +kernel, fun ds e => by cases e⟩
          · exact ⟨by decide +kernel, fun ds e => by cases e⟩
          · have hu := sub_bd c4 (List.Sublist.refl (upTo 0 m))
            exact ⟨okT_tup (eP hu.1) (by rw [List.length_map]; omega), fun ds e => by cases e; rw [List.length_map]; omega⟩
          · exact ⟨by decide +kernel, fun ds e => by cases e; decide⟩
        exact s_when (b := false) (et_not (et_B (ev_right2 (K := K) rfl rfl rfl hx hok.1 hok.2 (dt_ex e69 hcv6) hc (e69 _ _ hp46) (dta_ex e69 hx46)))) (fun hb => by cases hb) (fun _ HA eA => ⟨e9.trans eA, _, _, _, rfl⟩)
      · rintro σ' H8 e8 ⟨y9, y10, y11, rfl⟩
        have e68 := e7.trans e8
        have hb8 := hb6.ex e68
        have hcv8 := dt_ex e68 hcv6
        have hpv8 := dt_ex e68 hpv6
        refine q_asgK (K := K) (b := b) (ek_take (K := K) (wd := d) rfl hb8 (hcd rfl hcv8) (by omega) (by omega)) fun atv atd H9 hat hatv hb9 x9 => ?_
        obtain ⟨at0, rfl, at1, at2⟩ := hat
        cases hatv
        obtain ⟨an, rfl⟩ : ∃ k : Nat, at0 = (k : Int) := ⟨at0.toNat, by omega⟩
        have e69 : Ex H H9 := by
          have : Ex Hs H9 := ex_bx (ex_bx (ex_bx e2 x23 nb) x46 nb) ((bk_ex e68).trans x9) nb
          exact es.trans this
        have hcv9 := dt_tx x9.tx hcv8
        have hpv9 := dt_tx x9.tx hpv8
        have hp49 : H9 p4 = some (.lst xs4) := x9.bx p4 _ n4 (e68 _ _ hp46)
        have hx49 := dta_tx x9.tx (dta_ex e68 hx46)
        have hanl : an < pn.length := by omega
        have hp0 : 0 < pn.length := by omega
        obtain ⟨x0, hx0⟩ : ∃ x, pn[an]? = some x := ⟨_, List.getElem?_eq_getElem hanl⟩
        obtain ⟨f0, hf0⟩ : ∃ x, pn[0]? = some x := ⟨_, List.getElem?_eq_getElem hp0⟩
        have pne : pn ≠ [] := fun z => by rw [z] at hp0; exact absurd hp0 (by decide)
        have bx := pbd x0 (List.mem_of_getElem? hx0)
        have bf := pbd f0 (List.mem_of_getElem? hf0)
        have bz := pbd (pn.getLast pne) (List.getLast_mem pne)
        have ixA : ∀ {σ : L2.St} {H5 : Hp}, σ[6]? = some (some pv) → σ[10]? = some (some (.int (an : Int))) → Ex H9 H5 → Ev (tOp (rIxT K) (tVar 6) (tVar 10)) σ H5 (.int x0) := fun h6 h10 e => ev_int (K := K) (ed_ixT (ds := pn.map PyData.int) (ed_var h6 (dt_ex e hpv9)) (ev_var h10) (lotD_ix (atI_nat hx0)))
        have ix0 : ∀ {σ : L2.St} {H5 : Hp}, σ[6]? = some (some pv) → Ex H9 H5 → Ev (tOp (rIxT K) (tVar 6) (tC (.int 0))) σ H5 (.int f0) := fun h6 e => ev_int (K := K) (ed_ixT (ds := pn.map PyData.int) (ed_var h6 (dt_ex e hpv9)) ev_c (lotD_ix (by show atI pn ((0 : Nat) : Int) = _; exact atI_nat hf0)))
        have ixL : ∀ {σ : L2.St} {H5 : Hp}, σ[6]? = some (some pv) → Ex H9 H5 → Ev (tOp (rIxT K) (tVar 6) (tUn (rU fun i => .int (-i)) (tC (.int 1)))) σ H5 (.int (pn.getLast pne)) := fun h6 e => ev_int (K := K) (ed_ixT (ds := pn.map PyData.int) (ed_var h6 (dt_ex e hpv9)) (ev_un ev_c ru_neg) (lotD_ix (lastD pn pne)))
        refine q_asgOF (K := K) (b := b) (c := true) (ds := [.none, .bool true, .bool false, .str (toString x0), .tuple [.int x0], .list [.int x0], .int (-1), .int m, .int (10 ^ 29)]) (ob_cons eo_non (ob_cons eo_bl (ob_cons eo_bl (ob_cons (eo_strI (ixA rfl rfl (Ex.refl _)) ⟨by omega, by omega⟩) (ob_cons (eo_tup (ob_cons (eo_int (ixA rfl rfl (Ex.refl _))) ob_nil) (by show 1 ≤ 100000; decide)) (ob_cons (eo_lst hb9 (ob_cons (eo_int (ixA rfl rfl (Ex.refl _))) ob_nil) (by show 1 ≤ 100000; decide)) (ob_cons (eo_int (ev_un ev_c ru_neg)) (ob_cons (eo_int (hcm rfl hcv9)) (ob_cons (eo_int (ev_op ev_c ev_c (rv_I (show CPow 10 29 from ⟨by decide, by decide, by decide⟩)))) ob_nil))))))))) (by show 9 ≤ 1000; decide) fun p11 xs11 HA np11 eA hp11 hx11 => ?_
        obtain ⟨o, ho⟩ : ∃ o, (odds2 m x0 f0 (pn.getLast pne))[kn]? = some o := ⟨_, List.getElem?_eq_getElem (show kn < 12 by omega)⟩
        have hoE := okE_odds (m := m) ⟨by omega, by omega⟩ ⟨by omega, by omega⟩ ⟨by omega, by omega⟩ ⟨by omega, by omega⟩ o (List.mem_of_getElem? ho)
        refine q_asgO (K := K) (b := b) (c := true) (d := o) (eo_pickCat (es := [.int f0, .int (pn.getLast pne), dictD []]) (k := kn) rfl hp11 hx11 (ob_cons (eo_int (ix0 rfl eA)) (ob_cons (eo_int (ixL rfl eA)) (ob_cons (eo_dict0 (hb9.ex eA)) ob_nil))) (ev_var rfl) (by show 12 ≤ 1000; decide) ho) fun ov HB eB hov => ?_
        have eAB := eA.trans eB
        have e0B := e69.trans eAB
        have hpvB := dt_ex eAB hpv9
        have vo : ∀ {σ : L2.St}, σ[11]? = some (some ov) → EvO K b true (tTup (tCons (tVar 11) tNil)) σ HB (.tuple [o]) := fun h => eo_tup (ob_cons (eo_var h hov) ob_nil) (by show 1 ≤ 100000; decide)
        have pl1 : ∀ {σ : L2.St}, σ[10]? = some (some (.int (an : Int))) → Ev (tOp (rI0 fun i j => .int (i + j)) (tVar 10) (tC (.int 1))) σ HB (.int ((an + 1 : Nat) : Int)) := fun h => by
          have := ev_op (H := HB) (r := rI0 fun i j => .int (i + j)) (ev_var h) (ev_c (v := .int 1)) rv_I0
          exact this
        refine s_forTg (K := K) (b := b) (ds := [.tuple ((pn.map PyData.int).take an ++ [o] ++ (pn.map PyData.int).drop (an + 1)), .tuple ((pn.map PyData.int).take an ++ [o] ++ (pn.map PyData.int).drop an), .tuple (pn.map PyData.int ++ [o]), .tuple ([o] ++ pn.map PyData.int)])
          (tf_lst (tb_cons (eo_cat (eo_cat (eo_d (ed_cutTo (n := an) (ed_var rfl hpvB) (ev_var rfl))) (vo rfl) (by rw [List.length_take, List.length_map]; show _ + 1 ≤ 100000; omega)) (eo_d (ed_cutFrom (n := an + 1) (ed_var rfl hpvB) (pl1 rfl))) (by rw [List.length_append, List.length_take, List.length_drop, List.length_map]; show _ + 1 + _ ≤ 100000; omega)) (tb_cons (eo_cat (eo_cat (eo_d (ed_cutTo (n := an) (ed_var rfl hpvB) (ev_var rfl))) (vo rfl) (by rw [List.length_take, List.length_map]; show _ + 1 ≤ 100000; omega)) (eo_d (ed_cutFrom (n := an) (ed_var rfl hpvB) (ev_var rfl))) (by rw [List.length_append, List.length_take, List.length_drop, List.length_map]; show _ + 1 + _ ≤ 100000; omega))
            (tb_cons (eo_cat (eo_d (ed_var rfl hpvB)) (vo rfl) (by rw [List.length_map]; show _ + 1 ≤ 100000; omega)) (tb_cons (eo_cat (vo rfl) (eo_d (ed_var rfl hpvB)) (by rw [List.length_map]; show 1 + _ ≤ 100000; omega)) tb_nil)))) (by show 4 ≤ 100000; decide))
          (fun _ σ' H' => ∃ y9 : Option V, σ' = [some (.ref a), some (.int (i : Int)), some (.ref b), some (.int (kn : Int)), some cv, some (.ref p4), some pv, some lv, some (.ref p8), y9, some (.int (an : Int)), some ov]) (fun H9 e9 => ⟨_, rfl⟩) ?_ ?_
        · rintro HC t x dx σ' HD eC eD ht hx ⟨y9, rfl⟩
          have eBD := eAB.trans (eC.trans eD)
          have hdx := List.mem_of_getElem? ht
          have inP : ∀ e ∈ pn.map PyData.int, okE e = true := eP pbd
          have hok : okT dx = true ∧ ∀ ds, dx = .tuple ds → ds.length < 60 := by
            have main : ∀ ds : List PyData, dx = .tuple ds → (∀ e ∈ ds, e = o ∨ e ∈ pn.map PyData.int) → ds.length ≤ 30 → okT dx = true ∧ ∀ ds, dx = .tuple ds → ds.length < 60 := fun ds e h1 h2 => by
              subst e
              refine ⟨okT_tup (fun e he => ?_) (by omega), fun ds' e => by cases e; omega⟩
              rcases h1 e he with rfl | h
              · exact hoE
              · exact inP e h
            simp only [List.mem_cons, List.not_mem_nil, or_false] at hdx
            rcases hdx with rfl | rfl | rfl | rfl
            · refine main _ rfl (fun e he => ?_) (by rw [List.length_append, List.length_append, List.length_take, List.length_drop, List.length_map]; show _ + 1 + _ ≤ 30; omega)
              rcases List.mem_append.mp he with he | he
              · rcases List.mem_append.mp he with he | he
                · exact .inr (List.mem_of_mem_take he)
                · exact .inl (List.mem_singleton.mp he)
              · exact .inr (List.mem_of_mem_drop he)
            · refine main _ rfl (fun e he => ?_) (by rw [List.length_append, List.length_append, List.length_take, List.length_drop, List.length_map]; show _ + 1 + _ ≤ 30; omega)
              rcases List.mem_append.mp he with he | he
              · rcases List.mem_append.mp he with he | he
                · exact .inr (List.mem_of_mem_take he)
                · exact .inl (List.mem_singleton.mp he)
              · exact .inr (List.mem_of_mem_drop he)
            · refine main _ rfl (fun e he => ?_) (by rw [List.length_append, List.length_map]; show _ + 1 ≤ 30; omega)
              rcases List.mem_append.mp he with he | he
              · exact .inr he
              · exact .inl (List.mem_singleton.mp he)
            · refine main _ rfl (fun e he => ?_) (by rw [List.length_append, List.length_map]; show 1 + _ ≤ 30; omega)
              rcases List.mem_append.mp he with he | he
              · exact .inl (List.mem_singleton.mp he)
              · exact .inr he
          exact s_when (b := false) (et_not (et_B (ev_right2 (K := K) rfl rfl rfl hx hok.1 hok.2 (dt_ex eBD hcv9) hc (eBD _ _ hp49) (dta_ex eBD hx49)))) (fun hb => by cases hb) (fun _ HE eE => ⟨eD.trans eE, _, rfl⟩)
        · rintro σ' HC eC ⟨y9, rfl⟩
          exact ⟨_, _, _, _, _, _, _, _, _, _, _, rfl, e0B.trans eC⟩
    · rintro σ' H' ⟨y1, y2, y3, y4, y5, y6, y7, y8, y9, y10, y11, rfl, es⟩
      exact s_ret ev_c fun H2 e3 => q H2 (fun p hp => nomatch hp)
end
theorem all_mk {l : PySem.W.OpenLaw} {w : World} {K : PySem.W.Frag} {h : Heap} {mg : Str → Option Value} {fa f4 f5 f6 f7 f11 f12 f13 f14 f15 f17 f18 f19 f20 f21 f22 f23 f24 f25 f26 f27 f28   : Addr} (X : K.In h) (G : h.Ns mainGlobals mg) (hfa : mg "law" = some (.ref fa)) (O : ∀ nm ∈ ([] : List Str), ∀ f, mg nm = some (.ref f) → LamX.OwnTab K f h)
    {od4 an4 od5 an5 od6 an6 od7 an7 od11 an11 od12 an12 od13 an13 od14 an14 od15 an15 od17 an17 od18 an18 od19 an19 od20 an20 od21 an21 od22 an22 od23 an23 od24 an24 od25 an25 od26 an26 od27 an27 od28 an28  : Option Addr} {sl4 sl5 sl6 sl7 sl11 sl12 sl13 sl14 sl15 sl17 sl18 sl19 sl20 sl21 sl22 sl23 sl24 sl25 sl26 sl27 sl28  : Array (Option Value)} {oc4 kV4 dc4 pm4 cd4 ct4 oc5 kV5 dc5 pm5 cd5 ct5 oc6 kV6 dc6 pm6 cd6 ct6 oc7 kV7 dc7 pm7 cd7 ct7 oc11 kV11 dc11 pm11 cd11 ct11 oc12 kV12 dc12 pm12 cd12 ct12 oc13 kV13 dc13 pm13 cd13 ct13 oc14 kV14 dc14 pm14 cd14 ct14 oc15 kV15 dc15 pm15 cd15 ct15 oc17 kV17 dc17 pm17 cd17 ct17 oc18 kV18 dc18 pm18 cd18 ct18 oc19 kV19 dc19 pm19 cd19 ct19 oc20 kV20 dc20 pm20 cd20 ct20 oc21 kV21 dc21 pm21 cd21 ct21 oc22 kV22 dc22 pm22 cd22 ct22 oc23 kV23 dc23 pm23 cd23 ct23 oc24 kV24 dc24 pm24 cd24 ct24 oc25 kV25 dc25 pm25 cd25 ct25 oc26 kV26 dc26 pm26 cd26 ct26 oc27 kV27 dc27 pm27 cd27 ct27 oc28 kV28 dc28 pm28 cd28 ct28  : Value} {tk_MOST_DEEP tk_MOST_CORNERS : Tok}
    (a4 : PySem.W.nsIn K mainGlobals "is_whole" = some (some (.ref f4))) (l4 : K.lookup f4 = some ⟨oc4, od4, .func (PySem.W.fnOf "is_whole" "is_whole" (defArgs s_is_whole) (defBody s_is_whole) (defScope s_is_whole) .none kV4 dc4 pm4 an4 cd4 ct4), sl4⟩) (c4 : PySem.W.codeIn K cd4 "is_whole" = true) (k4 : PySem.W.keepIn K (.ref f4) = true)
    (a5 : PySem.W.nsIn K mainGlobals "is_lot_of" = some (some (.ref f5))) (l5 : K.lookup f5 = some ⟨oc5, od5, .func (PySem.W.fnOf "is_lot_of" "is_lot_of" (defArgs s_is_lot_of) (defBody s_is_lot_of) (defScope s_is_lot_of) .none kV5 dc5 pm5 an5 cd5 ct5), sl5⟩) (c5 : PySem.W.codeIn K cd5 "is_lot_of" = true) (k5 : PySem.W.keepIn K (.ref f5) = true)
    (a6 : PySem.W.nsIn K mainGlobals "odd_blocks" = some (some (.ref f6))) (l6 : K.lookup f6 = some ⟨oc6, od6, .func (PySem.W.fnOf "odd_blocks" "odd_blocks" (defArgs s_odd_blocks) (defBody s_odd_blocks) (defScope s_odd_blocks) .none kV6 dc6 pm6 an6 cd6 ct6), sl6⟩) (c6 : PySem.W.codeIn K cd6 "odd_blocks" = true) (k6 : PySem.W.keepIn K (.ref f6) = true)
    (a7 : PySem.W.nsIn K mainGlobals "has_pane" = some (some (.ref f7))) (l7 : K.lookup f7 = some ⟨oc7, od7, .func (PySem.W.fnOf "has_pane" "has_pane" (defArgs s_has_pane) (defBody s_has_pane) (defScope s_has_pane) .none kV7 dc7 pm7 an7 cd7 ct7), sl7⟩) (c7 : PySem.W.codeIn K cd7 "has_pane" = true) (k7 : PySem.W.keepIn K (.ref f7) = true)
    (a11 : PySem.W.nsIn K mainGlobals "is_curve" = some (some (.ref f11))) (l11 : K.lookup f11 = some ⟨oc11, od11, .func (PySem.W.fnOf "is_curve" "is_curve" (defArgs s_is_curve) (defBody s_is_curve) (defScope s_is_curve) .none kV11 dc11 pm11 an11 cd11 ct11), sl11⟩) (c11 : PySem.W.codeIn K cd11 "is_curve" = true) (k11 : PySem.W.keepIn K (.ref f11) = true)
    (a12 : PySem.W.nsIn K mainGlobals "need_curve" = some (some (.ref f12))) (l12 : K.lookup f12 = some ⟨oc12, od12, .func (PySem.W.fnOf "need_curve" "need_curve" (defArgs s_need_curve) (defBody s_need_curve) (defScope s_need_curve) .none kV12 dc12 pm12 an12 cd12 ct12), sl12⟩) (c12 : PySem.W.codeIn K cd12 "need_curve" = true) (k12 : PySem.W.keepIn K (.ref f12) = true)
    (a13 : PySem.W.nsIn K mainGlobals "is_lot" = some (some (.ref f13))) (l13 : K.lookup f13 = some ⟨oc13, od13, .func (PySem.W.fnOf "is_lot" "is_lot" (defArgs s_is_lot) (defBody s_is_lot) (defScope s_is_lot) .none kV13 dc13 pm13 an13 cd13 ct13), sl13⟩) (c13 : PySem.W.codeIn K cd13 "is_lot" = true) (k13 : PySem.W.keepIn K (.ref f13) = true)
    (a14 : PySem.W.nsIn K mainGlobals "is_pane" = some (some (.ref f14))) (l14 : K.lookup f14 = some ⟨oc14, od14, .func (PySem.W.fnOf "is_pane" "is_pane" (defArgs s_is_pane) (defBody s_is_pane) (defScope s_is_pane) .none kV14 dc14 pm14 an14 cd14 ct14), sl14⟩) (c14 : PySem.W.codeIn K cd14 "is_pane" = true) (k14 : PySem.W.keepIn K (.ref f14) = true)
    (a15 : PySem.W.nsIn K mainGlobals "is_face" = some (some (.ref f15))) (l15 : K.lookup f15 = some ⟨oc15, od15, .func (PySem.W.fnOf "is_face" "is_face" (defArgs s_is_face) (defBody s_is_face) (defScope s_is_face) .none kV15 dc15 pm15 an15 cd15 ct15), sl15⟩) (c15 : PySem.W.codeIn K cd15 "is_face" = true) (k15 : PySem.W.keepIn K (.ref f15) = true)
    (a17 : PySem.W.nsIn K mainGlobals "_law_box" = some (some (.ref f17))) (l17 : K.lookup f17 = some ⟨oc17, od17, .func (PySem.W.fnOf "_law_box" "_law_box" (defArgs s__law_box) (defBody s__law_box) (defScope s__law_box) .none kV17 dc17 pm17 an17 cd17 ct17), sl17⟩) (c17 : PySem.W.codeIn K cd17 "_law_box" = true) (k17 : PySem.W.keepIn K (.ref f17) = true)
    (a18 : PySem.W.nsIn K mainGlobals "_law_more" = some (some (.ref f18))) (l18 : K.lookup f18 = some ⟨oc18, od18, .func (PySem.W.fnOf "_law_more" "_law_more" (defArgs s__law_more) (defBody s__law_more) (defScope s__law_more) .none kV18 dc18 pm18 an18 cd18 ct18), sl18⟩) (c18 : PySem.W.codeIn K cd18 "_law_more" = true) (k18 : PySem.W.keepIn K (.ref f18) = true)
    (a19 : PySem.W.nsIn K mainGlobals "_law_take" = some (some (.ref f19))) (l19 : K.lookup f19 = some ⟨oc19, od19, .func (PySem.W.fnOf "_law_take" "_law_take" (defArgs s__law_take) (defBody s__law_take) (defScope s__law_take) .none kV19 dc19 pm19 an19 cd19 ct19), sl19⟩) (c19 : PySem.W.codeIn K cd19 "_law_take" = true) (k19 : PySem.W.keepIn K (.ref f19) = true)
    (a20 : PySem.W.nsIn K mainGlobals "_law_curve" = some (some (.ref f20))) (l20 : K.lookup f20 = some ⟨oc20, od20, .func (PySem.W.fnOf "_law_curve" "_law_curve" (defArgs s__law_curve) (defBody s__law_curve) (defScope s__law_curve) .none kV20 dc20 pm20 an20 cd20 ct20), sl20⟩) (c20 : PySem.W.codeIn K cd20 "_law_curve" = true) (k20 : PySem.W.keepIn K (.ref f20) = true)
    (a21 : PySem.W.nsIn K mainGlobals "_law_lots" = some (some (.ref f21))) (l21 : K.lookup f21 = some ⟨oc21, od21, .func (PySem.W.fnOf "_law_lots" "_law_lots" (defArgs s__law_lots) (defBody s__law_lots) (defScope s__law_lots) .none kV21 dc21 pm21 an21 cd21 ct21), sl21⟩) (c21 : PySem.W.codeIn K cd21 "_law_lots" = true) (k21 : PySem.W.keepIn K (.ref f21) = true)
    (a22 : PySem.W.nsIn K mainGlobals "_law_is_pane" = some (some (.ref f22))) (l22 : K.lookup f22 = some ⟨oc22, od22, .func (PySem.W.fnOf "_law_is_pane" "_law_is_pane" (defArgs s__law_is_pane) (defBody s__law_is_pane) (defScope s__law_is_pane) .none kV22 dc22 pm22 an22 cd22 ct22), sl22⟩) (c22 : PySem.W.codeIn K cd22 "_law_is_pane" = true) (k22 : PySem.W.keepIn K (.ref f22) = true)
    (a23 : PySem.W.nsIn K mainGlobals "_law_panes" = some (some (.ref f23))) (l23 : K.lookup f23 = some ⟨oc23, od23, .func (PySem.W.fnOf "_law_panes" "_law_panes" (defArgs s__law_panes) (defBody s__law_panes) (defScope s__law_panes) .none kV23 dc23 pm23 an23 cd23 ct23), sl23⟩) (c23 : PySem.W.codeIn K cd23 "_law_panes" = true) (k23 : PySem.W.keepIn K (.ref f23) = true)
    (a24 : PySem.W.nsIn K mainGlobals "_law_has" = some (some (.ref f24))) (l24 : K.lookup f24 = some ⟨oc24, od24, .func (PySem.W.fnOf "_law_has" "_law_has" (defArgs s__law_has) (defBody s__law_has) (defScope s__law_has) .none kV24 dc24 pm24 an24 cd24 ct24), sl24⟩) (c24 : PySem.W.codeIn K cd24 "_law_has" = true) (k24 : PySem.W.keepIn K (.ref f24) = true)
    (a25 : PySem.W.nsIn K mainGlobals "_law_lot" = some (some (.ref f25))) (l25 : K.lookup f25 = some ⟨oc25, od25, .func (PySem.W.fnOf "_law_lot" "_law_lot" (defArgs s__law_lot) (defBody s__law_lot) (defScope s__law_lot) .none kV25 dc25 pm25 an25 cd25 ct25), sl25⟩) (c25 : PySem.W.codeIn K cd25 "_law_lot" = true) (k25 : PySem.W.keepIn K (.ref f25) = true)
    (a26 : PySem.W.nsIn K mainGlobals "_law_is_lot" = some (some (.ref f26))) (l26 : K.lookup f26 = some ⟨oc26, od26, .func (PySem.W.fnOf "_law_is_lot" "_law_is_lot" (defArgs s__law_is_lot) (defBody s__law_is_lot) (defScope s__law_is_lot) .none kV26 dc26 pm26 an26 cd26 ct26), sl26⟩) (c26 : PySem.W.codeIn K cd26 "_law_is_lot" = true) (k26 : PySem.W.keepIn K (.ref f26) = true)
    (a27 : PySem.W.nsIn K mainGlobals "_law_right" = some (some (.ref f27))) (l27 : K.lookup f27 = some ⟨oc27, od27, .func (PySem.W.fnOf "_law_right" "_law_right" (defArgs s__law_right) (defBody s__law_right) (defScope s__law_right) .none kV27 dc27 pm27 an27 cd27 ct27), sl27⟩) (c27 : PySem.W.codeIn K cd27 "_law_right" = true) (k27 : PySem.W.keepIn K (.ref f27) = true)
    (a28 : PySem.W.nsIn K mainGlobals "law" = some (some (.ref f28))) (l28 : K.lookup f28 = some ⟨oc28, od28, .func (PySem.W.fnOf "law" "law" (defArgs s_law) (defBody s_law) (defScope s_law) .none kV28 dc28 pm28 an28 cd28 ct28), sl28⟩) (c28 : PySem.W.codeIn K cd28 "law" = true) (k28 : PySem.W.keepIn K (.ref f28) = true)
    (z_isinstance : PySem.W.nsIn K mainGlobals "isinstance" = some none)    (z_int : PySem.W.nsIn K mainGlobals "int" = some none)    (z_bool : PySem.W.nsIn K mainGlobals "bool" = some none)    (z_tuple : PySem.W.nsIn K mainGlobals "tuple" = some none)    (z_len : PySem.W.nsIn K mainGlobals "len" = some none)    (z_enumerate : PySem.W.nsIn K mainGlobals "enumerate" = some none)    (z_range : PySem.W.nsIn K mainGlobals "range" = some none)    (z_abs : PySem.W.nsIn K mainGlobals "abs" = some none)    (z_divmod : PySem.W.nsIn K mainGlobals "divmod" = some none)    (z_list : PySem.W.nsIn K mainGlobals "list" = some none)    (z_sorted : PySem.W.nsIn K mainGlobals "sorted" = some none)    (z_set : PySem.W.nsIn K mainGlobals "set" = some none)    (z_repr : PySem.W.nsIn K mainGlobals "repr" = some none)    (z_max : PySem.W.nsIn K mainGlobals "max" = some none)    (z_min : PySem.W.nsIn K mainGlobals "min" = some none)    (z_str : PySem.W.nsIn K mainGlobals "str" = some none)    (y_MOST_DEEP : PySem.W.nsIn K mainGlobals "MOST_DEEP" = some (some (.int 6 tk_MOST_DEEP)))    (y_MOST_CORNERS : PySem.W.nsIn K mainGlobals "MOST_CORNERS" = some (some (.int 9 tk_MOST_CORNERS)))

 :
    LawG l w K 9 "_law_script" mg fa h := by
  have e := hfa.symm.trans (PySem.W.mg_of X G a28)
  cases e
  have F4 := fun_mk (st := s_is_whole) l4 c4 k4
  have b4 := F4.binds (ps := ["thing"]) fun _ _ _ _ _ _ us hl => match us, hl with | [_], _ => rfl
  have D_is_whole : Df K mg "is_whole" s_is_whole ["thing"] _ _ := ⟨F4, PySem.W.mg_of X G a4, b4⟩
  have F5 := fun_mk (st := s_is_lot_of) l5 c5 k5
  have b5 := F5.binds (ps := ["thing", "many"]) fun _ _ _ _ _ _ us hl => match us, hl with | [_, _], _ => rfl
  have D_is_lot_of : Df K mg "is_lot_of" s_is_lot_of ["thing", "many"] _ _ := ⟨F5, PySem.W.mg_of X G a5, b5⟩
  have F6 := fun_mk (st := s_odd_blocks) l6 c6 k6
  have b6 := F6.binds (ps := ["many", "lot"]) fun _ _ _ _ _ _ us hl => match us, hl with | [_, _], _ => rfl
  have D_odd_blocks : Df K mg "odd_blocks" s_odd_blocks ["many", "lot"] _ _ := ⟨F6, PySem.W.mg_of X G a6, b6⟩
  have F7 := fun_mk (st := s_has_pane) l7 c7 k7
  have b7 := F7.binds (ps := ["many", "deep", "lot"]) fun _ _ _ _ _ _ us hl => match us, hl with | [_, _, _], _ => rfl
  have D_has_pane : Df K mg "has_pane" s_has_pane ["many", "deep", "lot"] _ _ := ⟨F7, PySem.W.mg_of X G a7, b7⟩
  have F11 := fun_mk (st := s_is_curve) l11 c11 k11
  have b11 := F11.binds (ps := ["thing"]) fun _ _ _ _ _ _ us hl => match us, hl with | [_], _ => rfl
  have D_is_curve : Df K mg "is_curve" s_is_curve ["thing"] _ _ := ⟨F11, PySem.W.mg_of X G a11, b11⟩
  have F12 := fun_mk (st := s_need_curve) l12 c12 k12
  have b12 := F12.binds (ps := ["curve"]) fun _ _ _ _ _ _ us hl => match us, hl with | [_], _ => rfl
  have D_need_curve : Df K mg "need_curve" s_need_curve ["curve"] _ _ := ⟨F12, PySem.W.mg_of X G a12, b12⟩
  have F13 := fun_mk (st := s_is_lot) l13 c13 k13
  have b13 := F13.binds (ps := ["thing", "curve"]) fun _ _ _ _ _ _ us hl => match us, hl with | [_, _], _ => rfl
  have D_is_lot : Df K mg "is_lot" s_is_lot ["thing", "curve"] _ _ := ⟨F13, PySem.W.mg_of X G a13, b13⟩
  have F14 := fun_mk (st := s_is_pane) l14 c14 k14
  have b14 := F14.binds (ps := ["thing", "curve"]) fun _ _ _ _ _ _ us hl => match us, hl with | [_, _], _ => rfl
  have D_is_pane : Df K mg "is_pane" s_is_pane ["thing", "curve"] _ _ := ⟨F14, PySem.W.mg_of X G a14, b14⟩
  have F15 := fun_mk (st := s_is_face) l15 c15 k15
  have b15 := F15.binds (ps := ["thing", "curve"]) fun _ _ _ _ _ _ us hl => match us, hl with | [_, _], _ => rfl
  have D_is_face : Df K mg "is_face" s_is_face ["thing", "curve"] _ _ := ⟨F15, PySem.W.mg_of X G a15, b15⟩
  have F17 := fun_mk (st := s__law_box) l17 c17 k17
  have b17 := F17.binds (ps := ["_law_script", "_law_k"]) fun _ _ _ _ _ _ us hl => match us, hl with | [_, _], _ => rfl
  have D__law_box : Df K mg "_law_box" s__law_box ["_law_script", "_law_k"] _ _ := ⟨F17, PySem.W.mg_of X G a17, b17⟩
  have F18 := fun_mk (st := s__law_more) l18 c18 k18
  have b18 := F18.binds (ps := ["_law_box_here"]) fun _ _ _ _ _ _ us hl => match us, hl with | [_], _ => rfl
  have D__law_more : Df K mg "_law_more" s__law_more ["_law_box_here"] _ _ := ⟨F18, PySem.W.mg_of X G a18, b18⟩
  have F19 := fun_mk (st := s__law_take) l19 c19 k19
  have b19 := F19.binds (ps := ["_law_box_here", "_law_wide"]) fun _ _ _ _ _ _ us hl => match us, hl with | [_, _], _ => rfl
  have D__law_take : Df K mg "_law_take" s__law_take ["_law_box_here", "_law_wide"] _ _ := ⟨F19, PySem.W.mg_of X G a19, b19⟩
  have F20 := fun_mk (st := s__law_curve) l20 c20 k20
  have b20 := F20.binds (ps := ["_law_box_here"]) fun _ _ _ _ _ _ us hl => match us, hl with | [_], _ => rfl
  have D__law_curve : Df K mg "_law_curve" s__law_curve ["_law_box_here"] _ _ := ⟨F20, PySem.W.mg_of X G a20, b20⟩
  have F21 := fun_mk (st := s__law_lots) l21 c21 k21
  have b21 := F21.binds (ps := ["_law_many", "_law_size"]) fun _ _ _ _ _ _ us hl => match us, hl with | [_, _], _ => rfl
  have D__law_lots : Df K mg "_law_lots" s__law_lots ["_law_many", "_law_size"] _ _ := ⟨F21, PySem.W.mg_of X G a21, b21⟩
  have F22 := fun_mk (st := s__law_is_pane) l22 c22 k22
  have b22 := F22.binds (ps := ["_law_curve_here", "_law_lot_here"]) fun _ _ _ _ _ _ us hl => match us, hl with | [_, _], _ => rfl
  have D__law_is_pane : Df K mg "_law_is_pane" s__law_is_pane ["_law_curve_here", "_law_lot_here"] _ _ := ⟨F22, PySem.W.mg_of X G a22, b22⟩
  have F23 := fun_mk (st := s__law_panes) l23 c23 k23
  have b23 := F23.binds (ps := ["_law_curve_here"]) fun _ _ _ _ _ _ us hl => match us, hl with | [_], _ => rfl
  have D__law_panes : Df K mg "_law_panes" s__law_panes ["_law_curve_here"] _ _ := ⟨F23, PySem.W.mg_of X G a23, b23⟩
  have F24 := fun_mk (st := s__law_has) l24 c24 k24
  have b24 := F24.binds (ps := ["_law_pane", "_law_lot_here"]) fun _ _ _ _ _ _ us hl => match us, hl with | [_, _], _ => rfl
  have D__law_has : Df K mg "_law_has" s__law_has ["_law_pane", "_law_lot_here"] _ _ := ⟨F24, PySem.W.mg_of X G a24, b24⟩
  have F25 := fun_mk (st := s__law_lot) l25 c25 k25
  have b25 := F25.binds (ps := ["_law_box_here", "_law_many"]) fun _ _ _ _ _ _ us hl => match us, hl with | [_, _], _ => rfl
  have D__law_lot : Df K mg "_law_lot" s__law_lot ["_law_box_here", "_law_many"] _ _ := ⟨F25, PySem.W.mg_of X G a25, b25⟩
  have F26 := fun_mk (st := s__law_is_lot) l26 c26 k26
  have b26 := F26.binds (ps := ["_law_thing", "_law_many"]) fun _ _ _ _ _ _ us hl => match us, hl with | [_, _], _ => rfl
  have D__law_is_lot : Df K mg "_law_is_lot" s__law_is_lot ["_law_thing", "_law_many"] _ _ := ⟨F26, PySem.W.mg_of X G a26, b26⟩
  have F27 := fun_mk (st := s__law_right) l27 c27 k27
  have b27 := F27.binds (ps := ["_law_thing", "_law_curve_here", "_law_rows"]) fun _ _ _ _ _ _ us hl => match us, hl with | [_, _, _], _ => rfl
  have D__law_right : Df K mg "_law_right" s__law_right ["_law_thing", "_law_curve_here", "_law_rows"] _ _ := ⟨F27, PySem.W.mg_of X G a27, b27⟩
  have F28 := fun_mk (st := s_law) l28 c28 k28
  have b28 := F28.binds (ps := ["_law_script"]) fun _ _ _ _ _ _ us hl => match us, hl with | [_], _ => rfl
  have D_law : Df K mg "law" s_law ["_law_script"] _ _ := ⟨F28, PySem.W.mg_of X G a28, b28⟩
  have B : Bt mg := ⟨PySem.W.mg_none_of X G z_isinstance, PySem.W.mg_none_of X G z_int, PySem.W.mg_none_of X G z_bool, PySem.W.mg_none_of X G z_tuple, PySem.W.mg_none_of X G z_len, PySem.W.mg_none_of X G z_enumerate, PySem.W.mg_none_of X G z_range, PySem.W.mg_none_of X G z_abs, PySem.W.mg_none_of X G z_divmod, PySem.W.mg_none_of X G z_list, PySem.W.mg_none_of X G z_sorted, PySem.W.mg_none_of X G z_set, PySem.W.mg_none_of X G z_repr, PySem.W.mg_none_of X G z_max, PySem.W.mg_none_of X G z_min, PySem.W.mg_none_of X G z_str⟩
  have c_MOST_DEEP := PySem.W.mg_of X G y_MOST_DEEP
  have c_MOST_CORNERS := PySem.W.mg_of X G y_MOST_CORNERS
  refine ⟨PySem.W.fnOf "law" "law" (defArgs s_law) (defBody s_law) (defScope s_law) .none kV28 dc28 pm28 an28 cd28 ct28, [], [], fun p hp => (nomatch hp), fun p hp => (nomatch hp), fun p hp => (nomatch hp), fun s v => .of_eq rfl, fun base _ _ TB => ?_⟩
  exact ok_law ⟨B, _, _, D_is_whole, _, _, D_is_lot_of, _, _, D_odd_blocks, _, _, D_has_pane, _, _, D_is_curve, _, _, D_need_curve, _, _, D_is_lot, _, _, D_is_pane, _, _, D_is_face, _, _, D__law_box, _, _, D__law_more, _, _, D__law_take, _, _, D__law_curve, _, _, D__law_lots, _, _, D__law_is_pane, _, _, D__law_panes, _, _, D__law_has, _, _, D__law_lot, _, _, D__law_is_lot, _, _, D__law_right, _, c_MOST_DEEP, _, c_MOST_CORNERS⟩ D_law
end CF
open PySem PySem.W PyProof.Rows
set_option maxHeartbeats 0 in
theorem PySem.Challenge.cw_curvefaces_k02_lots_panes_faces_known_holds : PySem.Challenge.rw_curvefaces_k02_lots_panes_faces_known.Holds := by
  w_on; o_law; k_head; (case hw => w_witness2)
  k_fill
  refine CF.walk_G (l := PySem.Challenge.rw_curvefaces_k02_lots_panes_faces_known) (k := 9) (x := "_law_script") [] rfl rfl ⟨rfl, by decide, by decide⟩ (by decide +kernel) (fun w h Y => by first | exact PySem.W.km_in_of Y | exact PySem.W.kIn_of Y) ?F
  case F =>
    intro w mg fa h KX G hmg O
    refine' CF.all_mk KX G hmg O ?a4 ?l4 ?c4 ?k4 ?a5 ?l5 ?c5 ?k5 ?a6 ?l6 ?c6 ?k6 ?a7 ?l7 ?c7 ?k7 ?a11 ?l11 ?c11 ?k11 ?a12 ?l12 ?c12 ?k12 ?a13 ?l13 ?c13 ?k13 ?a14 ?l14 ?c14 ?k14 ?a15 ?l15 ?c15 ?k15 ?a17 ?l17 ?c17 ?k17 ?a18 ?l18 ?c18 ?k18 ?a19 ?l19 ?c19 ?k19 ?a20 ?l20 ?c20 ?k20 ?a21 ?l21 ?c21 ?k21 ?a22 ?l22 ?c22 ?k22 ?a23 ?l23 ?c23 ?k23 ?a24 ?l24 ?c24 ?k24 ?a25 ?l25 ?c25 ?k25 ?a26 ?l26 ?c26 ?k26 ?a27 ?l27 ?c27 ?k27 ?a28 ?l28 ?c28 ?k28 ?z_isinstance ?z_int ?z_bool ?z_tuple ?z_len ?z_enumerate ?z_range ?z_abs ?z_divmod ?z_list ?z_sorted ?z_set ?z_repr ?z_max ?z_min ?z_str ?y_MOST_DEEP ?y_MOST_CORNERS
    (case a4 => k_is)
    (case l4 => k_is)
    (case c4 => k_is)
    (case k4 => k_is)
    (case a5 => k_is)
    (case l5 => k_is)
    (case c5 => k_is)
    (case k5 => k_is)
    (case a6 => k_is)
    (case l6 => k_is)
    (case c6 => k_is)
    (case k6 => k_is)
    (case a7 => k_is)
    (case l7 => k_is)
    (case c7 => k_is)
    (case k7 => k_is)
    (case a11 => k_is)
    (case l11 => k_is)
    (case c11 => k_is)
    (case k11 => k_is)
    (case a12 => k_is)
    (case l12 => k_is)
    (case c12 => k_is)
    (case k12 => k_is)
    (case a13 => k_is)
    (case l13 => k_is)
    (case c13 => k_is)
    (case k13 => k_is)
    (case a14 => k_is)
    (case l14 => k_is)
    (case c14 => k_is)
    (case k14 => k_is)
    (case a15 => k_is)
    (case l15 => k_is)
    (case c15 => k_is)
    (case k15 => k_is)
    (case a17 => k_is)
    (case l17 => k_is)
    (case c17 => k_is)
    (case k17 => k_is)
    (case a18 => k_is)
    (case l18 => k_is)
    (case c18 => k_is)
    (case k18 => k_is)
    (case a19 => k_is)
    (case l19 => k_is)
    (case c19 => k_is)
    (case k19 => k_is)
    (case a20 => k_is)
    (case l20 => k_is)
    (case c20 => k_is)
    (case k20 => k_is)
    (case a21 => k_is)
    (case l21 => k_is)
    (case c21 => k_is)
    (case k21 => k_is)
    (case a22 => k_is)
    (case l22 => k_is)
    (case c22 => k_is)
    (case k22 => k_is)
    (case a23 => k_is)
    (case l23 => k_is)
    (case c23 => k_is)
    (case k23 => k_is)
    (case a24 => k_is)
    (case l24 => k_is)
    (case c24 => k_is)
    (case k24 => k_is)
    (case a25 => k_is)
    (case l25 => k_is)
    (case c25 => k_is)
    (case k25 => k_is)
    (case a26 => k_is)
    (case l26 => k_is)
    (case c26 => k_is)
    (case k26 => k_is)
    (case a27 => k_is)
    (case l27 => k_is)
    (case c27 => k_is)
    (case k27 => k_is)
    (case a28 => k_is)
    (case l28 => k_is)
    (case c28 => k_is)
    (case k28 => k_is)
    (case z_isinstance => k_is)
    (case z_int => k_is)
    (case z_bool => k_is)
    (case z_tuple => k_is)
    (case z_len => k_is)
    (case z_enumerate => k_is)
    (case z_range => k_is)
    (case z_abs => k_is)
    (case z_divmod => k_is)
    (case z_list => k_is)
    (case z_sorted => k_is)
    (case z_set => k_is)
    (case z_repr => k_is)
    (case z_max => k_is)
    (case z_min => k_is)
    (case z_str => k_is)
    (case y_MOST_DEEP => k_is)
    (case y_MOST_CORNERS => k_is)
