import PyProof.Rows.All
import Wide.All
import OpenK.AllK
import Wide.FinOn
import PySem.Challenge.RW_curvefaces_k44_lowest_and_highest_covers
import HandS.ForMost
import HandS.TupAny
import HandS.Flow
import HandS.IsInst
import HandS.Evl
import HandS.Deep
import HandS.Walk
import HandS.EndOwn
import HandS.Nested
import HandS.Zip0
import HandS.Zip
import HandS.EndTab
import HandS.AnyAll
import KE.GoesZip
import KE.GoesEnum
import KE.GoesMore
import HandS.SetFor
import PyProof.GenCompD
import PyProof.GenCompT
import HandS.Conv
import HandS.Dict
import HandS.RaiseMore
import HandS.TupSets
import HandS.CallLocal
import HandS.NoneIn
import HandS.Lambda
import HandS.Hot
import HandS.HotCalls
import HandS.ExcCtx
import HandS.ExcIs
import HandS.Lambda
import HandS.Iter
set_option Elab.async false
set_option linter.all false
set_option maxRecDepth 100000
set_option maxHeartbeats 1000000
namespace CF
open PySem PySem.Spec PyProof.Rows L2 Evl
/-! ### data without lists: none, bools, ints, texts, tuples; it stays whatever is done to lists -/
mutual
inductive Dt (K : PySem.W.Frag) (H : Hp) : V → PyData → Prop
  | non : Dt K H .non .none
  | bl (b : Bool) : Dt K H (.bl b) (.bool b)
  | int (i : Int) : Dt K H (.int i) (.int i)
  | str (x : Str) : Dt K H (.str x) (.str x)
  | tup {a : Addr} {xs : List V} {ds : List PyData} : SqT K H a xs → DtAll K H xs ds → Dt K H (.ref a) (.tuple ds)
inductive DtAll (K : PySem.W.Frag) (H : Hp) : List V → List PyData → Prop
  | nil : DtAll K H [] []
  | cons {v : V} {vs : List V} {d : PyData} {ds : List PyData} : Dt K H v d → DtAll K H vs ds → DtAll K H (v :: vs) (d :: ds)
end
/-- what is a tuple (or locked) stays -/
def Tx (H H' : Hp) : Prop := ∀ a u, Rd H a (.tup u) → Rd H' a (.tup u)
theorem Tx.refl (H : Hp) : Tx H H := fun _ _ h => h
theorem Tx.trans {H H1 H2 : Hp} (a : Tx H H1) (b : Tx H1 H2) : Tx H H2 := fun c u h => b c u (a c u h)
theorem tx_of {H H' : Hp} (e : Ex H H') : Tx H H' := fun _ _ h => ex_rd e h
/-- a store at a list -/
theorem tx_lst {H : Hp} {D : Addr} {o : HO} {xs : List V} (h : H D = some (.lst xs)) : Tx H (upd H D o) := fun a u r => by
  have n : a ≠ D := fun z => by
    subst z
    rcases r with r | ⟨o, r⟩ <;> (rw [h] at r; cases r)
  rcases r with r | ⟨o, r⟩
  · exact .inl (by rw [upd_ne n]; exact r)
  · exact .inr ⟨o, by rw [upd_ne n]; exact r⟩
theorem tx_sq {K : PySem.W.Frag} {H H' : Hp} {a : Addr} {xs : List V} (e : Tx H H') (h : SqT K H a xs) : SqT K H' a xs := by
  rcases h with h | h
  · exact .inl (e _ _ h)
  · exact .inr h
mutual
theorem dt_tx {K : PySem.W.Frag} {H H' : Hp} (e : Tx H H') : ∀ {v : V} {d : PyData}, Dt K H v d → Dt K H' v d
  | _, _, .non => .non
  | _, _, .bl b => .bl b
  | _, _, .int i => .int i
  | _, _, .str x => .str x
  | _, _, .tup h a => .tup (tx_sq e h) (dta_tx e a)
theorem dta_tx {K : PySem.W.Frag} {H H' : Hp} (e : Tx H H') : ∀ {vs : List V} {ds : List PyData}, DtAll K H vs ds → DtAll K H' vs ds
  | _, _, .nil => .nil
  | _, _, .cons h t => .cons (dt_tx e h) (dta_tx e t)
end
theorem dt_ex {K : PySem.W.Frag} {H H' : Hp} (e : Ex H H') {v : V} {d : PyData} (h : Dt K H v d) : Dt K H' v d := dt_tx (tx_of e) h
theorem dta_ex {K : PySem.W.Frag} {H H' : Hp} (e : Ex H H') {vs : List V} {ds : List PyData} (h : DtAll K H vs ds) : DtAll K H' vs ds := dta_tx (tx_of e) h
mutual
theorem dt_dp {K : PySem.W.Frag} {H : Hp} : ∀ {v : V} {d : PyData}, Dt K H v d → Dp K H v d
  | _, _, .non => .non
  | _, _, .bl b => .bl b
  | _, _, .int i => .int i
  | _, _, .str x => .str x
  | _, _, .tup h a => .tup h (dta_dp a)
theorem dta_dp {K : PySem.W.Frag} {H : Hp} : ∀ {vs : List V} {ds : List PyData}, DtAll K H vs ds → DpAll K H vs ds
  | _, _, .nil => .nil
  | _, _, .cons h t => .cons (dt_dp h) (dta_dp t)
end
section
variable {K : PySem.W.Frag} {H : Hp}
theorem dta_len : ∀ {vs : List V} {ds : List PyData}, DtAll K H vs ds → vs.length = ds.length
  | _, _, .nil => rfl
  | _, _, .cons _ t => by rw [List.length_cons, List.length_cons, dta_len t]
theorem dta_get : ∀ {vs : List V} {ds : List PyData} {i : Nat} {v : V}, DtAll K H vs ds → vs[i]? = some v → ∃ d, ds[i]? = some d ∧ Dt K H v d
  | _, _, _, _, .nil, e => by simp at e
  | _, _, 0, _, .cons h _, e => by simp at e; subst e; exact ⟨_, rfl, h⟩
  | _, _, i + 1, v, .cons _ t, e => by
    obtain ⟨d, h1, h2⟩ := dta_get (i := i) (v := v) t (by simpa using e)
    exact ⟨d, by simpa using h1, h2⟩
theorem dta_get' : ∀ {vs : List V} {ds : List PyData} {i : Nat} {d : PyData}, DtAll K H vs ds → ds[i]? = some d → ∃ v, vs[i]? = some v ∧ Dt K H v d
  | _, _, _, _, .nil, e => by simp at e
  | _, _, 0, _, .cons h _, e => by simp at e; subst e; exact ⟨_, rfl, h⟩
  | _, _, i + 1, d, .cons _ t, e => by
    obtain ⟨v, h1, h2⟩ := dta_get' (i := i) (d := d) t (by simpa using e)
    exact ⟨v, by simpa using h1, h2⟩
theorem dta_app : ∀ {vs ws : List V} {ds es : List PyData}, DtAll K H vs ds → DtAll K H ws es → DtAll K H (vs ++ ws) (ds ++ es)
  | _, _, _, _, .nil, s => s
  | _, _, _, _, .cons h t, s => .cons h (dta_app t s)
theorem dta_one {v : V} {d : PyData} (h : Dt K H v d) : DtAll K H [v] [d] := .cons h .nil
theorem dta_take : ∀ {vs : List V} {ds : List PyData} (n : Nat), DtAll K H vs ds → DtAll K H (vs.take n) (ds.take n)
  | _, _, 0, _ => .nil
  | _, _, _ + 1, .nil => .nil
  | _, _, n + 1, .cons h t => .cons h (dta_take n t)
theorem dta_drop : ∀ {vs : List V} {ds : List PyData} (n : Nat), DtAll K H vs ds → DtAll K H (vs.drop n) (ds.drop n)
  | _, _, 0, r => r
  | _, _, _ + 1, .nil => .nil
  | _, _, n + 1, .cons _ t => dta_drop n t
theorem dta_ints : ∀ (l : List Int), DtAll K H (l.map V.int) (l.map PyData.int)
  | [] => .nil
  | i :: l => .cons (.int i) (dta_ints l)
theorem dta_ints_inv : ∀ {vs : List V} {l : List Int}, DtAll K H vs (l.map PyData.int) → vs = l.map V.int
  | _, [], .nil => rfl
  | _, i :: l, .cons h t => by
    cases h
    rw [dta_ints_inv t]
    rfl
end

/-! ### a new address apart -/
theorem ne_free {H : Hp} {p q : Addr} {o : HO} (h : H q = some o) (n : H p = none) : p ≠ q := fun e => by
  subst e; rw [n] at h; cases h

/-! ### what evaluates to which data -/
def EvD (K : PySem.W.Frag) (te : TE) (σ : L2.St) (H : Hp) (d : PyData) : Prop := ∀ H1, Ex H H1 → ∀ Q : VK, (∀ v H2, Ex H1 H2 → Dt K H2 v d → Q v H2) → te σ H1 Q
/-- a new list of data -/
def EvF (K : PySem.W.Frag) (te : TE) (σ : L2.St) (H : Hp) (ds : List PyData) : Prop := ∀ H1, Ex H H1 → ∀ Q : VK, (∀ p xs H2, H1 p = none → Ex H1 H2 → H2 p = some (.lst xs) → DtAll K H2 xs ds → Q (.ref p) H2) → te σ H1 Q
def EvB (K : PySem.W.Frag) (ta : TA) (σ : L2.St) (H : Hp) (ds : List PyData) : Prop := ∀ H1, Ex H H1 → ∀ Q : List V → Hp → Prop, (∀ vs H2, Ex H1 H2 → DtAll K H2 vs ds → Q vs H2) → ta σ H1 Q
section
variable {K : PySem.W.Frag} {σ : L2.St} {H H' : Hp} {ta tb te tx : TE} {t u : TT} {x y z v : V} {r : R2} {d : PyData} {ds es : List PyData}
theorem EvD.mono (e : Ex H H') (h : EvD K te σ H d) : EvD K te σ H' d := fun H1 a Q q => h H1 (e.trans a) Q q
theorem EvF.mono (e : Ex H H') (h : EvF K te σ H ds) : EvF K te σ H' ds := fun H1 a Q q => h H1 (e.trans a) Q q
theorem ed_var {i : Nat} (h : σ[i]? = some (some v)) (hd : Dt K H v d) : EvD K (tVar i) σ H d := fun H1 e _ q => ⟨v, h, q v H1 (Ex.refl H1) (dt_ex e hd)⟩
theorem ed_ev (h : Ev te σ H v) (hd : Dt K H v d) : EvD K te σ H d := fun H1 e Q q => h H1 e Q fun H2 e2 => q v H2 e2 (dt_ex (e.trans e2) hd)
theorem ev_int {i : Int} (h : EvD K te σ H (.int i)) : Ev te σ H (.int i) := fun H1 e Q q => h H1 e Q fun v H2 e2 hd => by
  cases hd
  exact q H2 e2
theorem ev_bl {b : Bool} (h : EvD K te σ H (.bool b)) : Ev te σ H (.bl b) := fun H1 e Q q => h H1 e Q fun v H2 e2 hd => by
  cases hd
  exact q H2 e2
theorem ev_str {s : Str} (h : EvD K te σ H (.str s)) : Ev te σ H (.str s) := fun H1 e Q q => h H1 e Q fun v H2 e2 hd => by
  cases hd
  exact q H2 e2
theorem ed_int {i : Int} (h : Ev te σ H (.int i)) : EvD K te σ H (.int i) := ed_ev h (.int i)
theorem ed_bl {b : Bool} (h : Ev te σ H (.bl b)) : EvD K te σ H (.bool b) := ed_ev h (.bl b)
theorem ed_is {e : PyData} (h : EvD K te σ H d) (q : d = e) : EvD K te σ H e := q ▸ h
theorem ef_is (h : EvF K te σ H ds) (q : ds = es) : EvF K te σ H es := q ▸ h
theorem eb_nil : EvB K tNil σ H [] := fun H1 _ _ q => q [] H1 (Ex.refl H1) .nil
theorem eb_cons {tr : TA} (h : EvD K ta σ H d) (hr : EvB K tr σ H ds) : EvB K (tCons ta tr) σ H (d :: ds) := fun H1 e _ q =>
  h H1 e _ fun v H2 e2 hd => hr H2 (e.trans e2) _ fun vs H3 e3 ha => q (v :: vs) H3 (e2.trans e3) (.cons (dt_ex e3 hd) ha)
theorem ed_tup {ta : TA} (h : EvB K ta σ H ds) (hl : ds.length ≤ 100000) : EvD K (tTup ta) σ H (.tuple ds) := fun H1 e _ q =>
  h H1 e _ fun vs H2 e2 ha => ⟨sz_of (by rw [dta_len ha]; exact hl), fun p hp => q _ _ (e2.trans (Ex.new hp)) (.tup (.inl (.inl upd_same)) (dta_ex (Ex.new hp) ha))⟩
theorem ef_lst {ta : TA} (h : EvB K ta σ H ds) (hl : ds.length ≤ 100000) : EvF K (tLst ta) σ H ds := fun H1 e _ q =>
  h H1 e _ fun vs H2 e2 ha => ⟨sz_of (by rw [dta_len ha]; exact hl), fun p hp => q p vs _ (fresh_back e2 hp) (e2.trans (Ex.new hp)) upd_same (dta_ex (Ex.new hp) ha)⟩
/-- t + u -/
theorem ed_cat {xs ys : List PyData} (ha : EvD K ta σ H (.tuple xs)) (hb : EvD K tb σ H (.tuple ys)) (hl : xs.length + ys.length ≤ 100000) : EvD K (tOp (rCatA K) ta tb) σ H (.tuple (xs ++ ys)) := fun H1 e Q q =>
  ha H1 e _ fun v H2 e2 hv => hb H2 (e.trans e2) _ fun w H3 e3 hw => by
    have hv := dt_ex e3 hv
    cases hv with
    | tup hs hx =>
      cases hw with
      | tup ht hy =>
        rename_i a vs b ws
        refine ⟨_, _, _, _, rfl, rfl, hs, ht, sz_of (by rw [dta_len hx, dta_len hy]; exact hl), fun z => ?_, fun _ z => ?_, fun _ _ p hp => ?_⟩
        · subst z
          cases hx
          exact q _ _ (e2.trans e3) (.tup ht hy)
        · subst z
          cases hy
          rw [List.append_nil] at q
          exact q _ _ (e2.trans e3) (.tup hs hx)
        · exact q _ _ ((e2.trans e3).trans (Ex.new hp)) (.tup (.inl (.inl upd_same)) (dta_ex (Ex.new hp) (dta_app hx hy)))
theorem atI_dta {vs : List V} {i : Int} (h : DtAll K H vs ds) (e : atI ds i = some d) : ∃ v, atI vs i = some v ∧ Dt K H v d := by
  unfold atI at e ⊢
  rw [dta_len h]
  cases q : ixN ds.length i with
  | none => rw [q] at e; cases e
  | some j =>
    rw [q] at e
    exact dta_get' h e
theorem ed_ixT {i : Int} (ha : EvD K ta σ H (.tuple ds)) (hb : Ev tb σ H (.int i)) (h : atI ds i = some d) : EvD K (tOp (rIxT K) ta tb) σ H d := fun H1 e Q q =>
  ha H1 e _ fun v H2 e2 hv => hb H2 (e.trans e2) _ fun H3 e3 => by
    have hv := dt_ex e3 hv
    cases hv with
    | tup hs hx =>
      obtain ⟨w, hw, hd⟩ := atI_dta hx h
      exact ⟨_, _, i, w, rfl, rfl, hs, hw, q w H3 (e2.trans e3) hd⟩
/-- xs[i] of a list that stands -/
theorem ed_ixL {i : Int} {a : Addr} {xs : List V} (ha : Ev ta σ H (.ref a)) (hs : SqL K H a xs) (hx : DtAll K H xs ds) (hb : Ev tb σ H (.int i)) (h : atI ds i = some d) : EvD K (tOp (rIxL K) ta tb) σ H d := fun H1 e Q q =>
  ha H1 e _ fun H2 e2 => hb H2 (e.trans e2) _ fun H3 e3 => by
    obtain ⟨w, hw, hd⟩ := atI_dta (dta_ex ((e.trans e2).trans e3) hx) h
    exact ⟨_, _, i, w, rfl, rfl, ex_l ((e.trans e2).trans e3) hs, hw, q w H3 (e2.trans e3) hd⟩
/-- [..][i]: of a list made on the way -/
theorem ed_ixF {i : Int} (ha : EvF K ta σ H ds) (hb : Ev tb σ H (.int i)) (h : atI ds i = some d) : EvD K (tOp (rIxL K) ta tb) σ H d := fun H1 e Q q =>
  ha H1 e _ fun p xs H2 _ e2 hp hx => hb H2 (e.trans e2) _ fun H3 e3 => by
    obtain ⟨w, hw, hd⟩ := atI_dta (dta_ex e3 hx) h
    exact ⟨_, _, i, w, rfl, rfl, sq_of (e3 p _ hp), hw, q w H3 (e2.trans e3) hd⟩
theorem ev_lenT (ha : EvD K ta σ H (.tuple ds)) : Ev (tCB (rLenS K) (tCons ta tNil)) σ H (.int (ds.length : Int)) := fun H1 e Q q =>
  ha H1 e _ fun v H2 e2 hv => by
    cases hv with
    | tup hs hx =>
      refine ⟨_, _, rfl, .inr hs, ?_⟩
      rw [dta_len hx]
      exact q H2 e2
theorem ev_lenF (ha : EvF K ta σ H ds) : Ev (tCB (rLenS K) (tCons ta tNil)) σ H (.int (ds.length : Int)) := fun H1 e Q q =>
  ha H1 e _ fun p xs H2 _ e2 hp hx => ⟨p, xs, rfl, .inl (sq_of hp), by rw [dta_len hx]; exact q H2 e2⟩
theorem ev_lenD {a : Addr} {xs : List V} (ha : Ev ta σ H (.ref a)) (hs : SqL K H a xs) (hx : DtAll K H xs ds) : Ev (tCB (rLenS K) (tCons ta tNil)) σ H (.int (ds.length : Int)) := by
  rw [← dta_len hx]
  exact ev_len ha hs
/-- xs + ys -/
theorem ef_catLF {p : Addr} {xs : List V} (ha : Ev ta σ H (.ref p)) (hp : H p = some (.lst xs)) (hx : DtAll K H xs ds) (hb : EvF K tb σ H es) (hl : ds.length + es.length ≤ 100000) : EvF K (tOp rCat ta tb) σ H (ds ++ es) := fun H1 e Q q =>
  ha H1 e _ fun H2 e2 => hb H2 (e.trans e2) _ fun b ys H3 _ e3 hb' hy =>
    ⟨_, _, _, _, rfl, rfl, ((e.trans e2).trans e3) p _ hp, hb', sz_of (by rw [dta_len hx, dta_len hy]; exact hl), fun n hn =>
      q n _ _ (fresh_back (e2.trans e3) hn) ((e2.trans e3).trans (Ex.new hn)) upd_same (dta_ex (Ex.new hn) (dta_app (dta_ex ((e.trans e2).trans e3) hx) hy))⟩
theorem ef_catFF (ha : EvF K ta σ H ds) (hb : EvF K tb σ H es) (hl : ds.length + es.length ≤ 100000) : EvF K (tOp rCat ta tb) σ H (ds ++ es) := fun H1 e Q q =>
  ha H1 e _ fun p xs H2 np e2 hp hx => hb H2 (e.trans e2) _ fun b ys H3 _ e3 hb' hy =>
    ⟨_, _, _, _, rfl, rfl, e3 p _ hp, hb', sz_of (by rw [dta_len hx, dta_len hy]; exact hl), fun n hn =>
      q n _ _ (fresh_back (e2.trans e3) hn) ((e2.trans e3).trans (Ex.new hn)) upd_same (dta_ex (Ex.new hn) (dta_app (dta_ex e3 hx) hy))⟩
/-! calls of defs that hand on data -/
def spD (K : PySem.W.Frag) (pre : List PyData → Prop) (f : List PyData → PyData) : Sp := fun vs H Q _ => ∃ ds, DtAll K H vs ds ∧ pre ds ∧ ∀ v H2, Ex H H2 → Dt K H2 v (f ds) → Q v H2
def spF (K : PySem.W.Frag) (pre : List PyData → Prop) (f : List PyData → List PyData) : Sp := fun vs H Q _ => ∃ ds, DtAll K H vs ds ∧ pre ds ∧ ∀ p xs H2, H p = none → Ex H H2 → H2 p = some (.lst xs) → DtAll K H2 xs (f ds) → Q (.ref p) H2
theorem ed_call {pre : List PyData → Prop} {f : List PyData → PyData} {E : XK} {ta : TA} (h : EvB K ta σ H ds) (hp : pre ds) : EvD K (tCall (spD K pre f) [] E ta) σ H (f ds) := fun H1 e Q q =>
  h H1 e _ fun vs H2 e2 ha => by
    show spD K pre f (vs ++ []) H2 Q E
    rw [List.append_nil]
    exact ⟨ds, ha, hp, fun v H3 e3 hd => q v H3 (e2.trans e3) hd⟩
theorem ef_call {pre : List PyData → Prop} {f : List PyData → List PyData} {E : XK} {ta : TA} (h : EvB K ta σ H ds) (hp : pre ds) : EvF K (tCall (spF K pre f) [] E ta) σ H (f ds) := fun H1 e Q q =>
  h H1 e _ fun vs H2 e2 ha => by
    show spF K pre f (vs ++ []) H2 Q E
    rw [List.append_nil]
    exact ⟨ds, ha, hp, fun p xs H3 np e3 hx hd => q p xs H3 (fresh_back e2 np) (e2.trans e3) hx hd⟩
/-! == and != -/
theorem ev_eqDD {d e : PyData} (ha : EvD K ta σ H d) (hb : EvD K tb σ H e) (sd : SeqAt.shaped d = true) (se : SeqAt.shaped e = true) : Ev (tOp (rEqD K) ta tb) σ H (.bl (PyData.eqv d e)) := fun H1 e1 Q q =>
  ha H1 e1 _ fun v H2 e2 hv => hb H2 (e1.trans e2) _ fun w H3 e3 hw => ⟨d, e, dt_dp (dt_ex e3 hv), dt_dp hw, sd, se, q H3 (e2.trans e3)⟩
theorem ev_neDD {d e : PyData} (ha : EvD K ta σ H d) (hb : EvD K tb σ H e) (sd : SeqAt.shaped d = true) (se : SeqAt.shaped e = true) : Ev (tOp (rNeD K) ta tb) σ H (.bl (!PyData.eqv d e)) := fun H1 e1 Q q =>
  ha H1 e1 _ fun v H2 e2 hv => hb H2 (e1.trans e2) _ fun w H3 e3 hw => ⟨d, e, dt_dp (dt_ex e3 hv), dt_dp hw, sd, se, q H3 (e2.trans e3)⟩
theorem ev_neFF (ha : EvF K ta σ H ds) (hb : EvF K tb σ H es) (sd : SeqAt.shaped (.list ds) = true) (se : SeqAt.shaped (.list es) = true) : Ev (tOp (rNeD K) ta tb) σ H (.bl (!PyData.eqv (.list ds) (.list es))) := fun H1 e1 Q q =>
  ha H1 e1 _ fun p xs H2 _ e2 hp hx => hb H2 (e1.trans e2) _ fun r ys H3 _ e3 hr hy => ⟨_, _, .lst (sq_of (e3 p _ hp)) (dta_dp (dta_ex e3 hx)), .lst (sq_of hr) (dta_dp hy), sd, se, q H3 (e2.trans e3)⟩
theorem ev_eqFF (ha : EvF K ta σ H ds) (hb : EvF K tb σ H es) (sd : SeqAt.shaped (.list ds) = true) (se : SeqAt.shaped (.list es) = true) : Ev (tOp (rEqD K) ta tb) σ H (.bl (PyData.eqv (.list ds) (.list es))) := fun H1 e1 Q q =>
  ha H1 e1 _ fun p xs H2 _ e2 hp hx => hb H2 (e1.trans e2) _ fun r ys H3 _ e3 hr hy => ⟨_, _, .lst (sq_of (e3 p _ hp)) (dta_dp (dta_ex e3 hx)), .lst (sq_of hr) (dta_dp hy), sd, se, q H3 (e2.trans e3)⟩
/-- lists that stand -/
theorem rv_neL {a b : Addr} {xs ys : List V} (h1 : SqL K H a xs) (hx : DtAll K H xs ds) (h2 : SqL K H b ys) (hy : DtAll K H ys es) (sd : SeqAt.shaped (.list ds) = true) (se : SeqAt.shaped (.list es) = true) : RV (rNeD K) (.ref a) (.ref b) H (.bl (!PyData.eqv (.list ds) (.list es))) := fun H1 e Q q =>
  ⟨_, _, .lst (ex_l e h1) (dta_dp (dta_ex e hx)), .lst (ex_l e h2) (dta_dp (dta_ex e hy)), sd, se, q H1 (Ex.refl H1)⟩
/-! comprehensions -/
def Cd (K : PySem.W.Frag) (H : Hp) (Dl : Addr) (ds : List PyData) (H' : Hp) : Prop := H Dl = none ∧ Ex H H' ∧ ∃ acc, H' Dl = some (.lst acc) ∧ DtAll K H' acc ds
theorem cd_turn {H H' : Hp} {Dl : Addr} {ds : List PyData} {b : Bool} {d : PyData} {σ2 : L2.St} (p : Cd K H Dl ds H') (hi : ds.length < 50000) (ht : EvT t σ2 H' b) (he : b = true → EvD K te σ2 H' d) :
    t σ2 H' fun b H3 => if b = true then te σ2 H3 fun y H4 => ∃ acc, H4 Dl = some (.lst acc) ∧ acc.length < sizeLine ∧ Cd K H Dl (ds ++ [d]) (upd H4 Dl (.lst (acc ++ [y]))) else Cd K H Dl ds H3 := by
  obtain ⟨p1, p2, acc, p3, p4⟩ := p
  refine ht H' (Ex.refl H') _ fun H3 e3 => ?_
  cases b with
  | true =>
    show te σ2 H3 fun y H4 => _
    refine (he rfl) H3 e3 _ fun y H4 e4 hd => ⟨acc, e4 Dl _ (e3 Dl _ p3), sz_lt (by rw [dta_len p4]; omega), p1, Ex.mut ((p2.trans e3).trans e4) p1, _, upd_same, ?_⟩
    exact dta_tx (tx_lst (e4 Dl _ (e3 Dl _ p3))) (dta_app (dta_ex (e3.trans e4) p4) (dta_one hd))
  | false => exact ⟨p1, p2.trans e3, acc, e3 Dl _ p3, dta_ex e3 p4⟩
theorem filter_take_succ {α : Type} {f : α → Bool} {l : List α} {i : Nat} {a : α} (h : l[i]? = some a) : (l.take (i + 1)).filter f = (l.take i).filter f ++ (if f a = true then [a] else []) := by
  rw [List.take_add_one, h, List.filter_append]
  show _ ++ List.filter f [a] = _
  rw [List.filter_cons]
  cases f a <;> rfl
/-- the turn of a comprehension over things as .. filtered by f, told by g -/
theorem cd_step {α : Type} {f : α → Bool} {g : α → PyData} {l : List α} {H H' : Hp} {Dl : Addr} {i : Nat} {a : α} {σ2 : L2.St} (p : Cd K H Dl (((l.take i).filter f).map g) H') (hl : l.length < 50000) (ha : l[i]? = some a) (ht : EvT t σ2 H' (f a)) (he : f a = true → EvD K te σ2 H' (g a)) :
    t σ2 H' fun b H3 => if b = true then te σ2 H3 fun y H4 => ∃ acc, H4 Dl = some (.lst acc) ∧ acc.length < sizeLine ∧ Cd K H Dl (((l.take (i + 1)).filter f).map g) (upd H4 Dl (.lst (acc ++ [y]))) else Cd K H Dl (((l.take (i + 1)).filter f).map g) H3 := by
  have hz : (((l.take i).filter f).map g).length < 50000 := by
    rw [List.length_map]
    have h1 := List.length_filter_le f (l.take i)
    have h2 : (l.take i).length ≤ l.length := by rw [List.length_take]; exact Nat.min_le_right _ _
    omega
  obtain ⟨p1, p2, acc, p3, p4⟩ := p
  refine ht H' (Ex.refl H') _ fun H3 e3 => ?_
  have e1 := filter_take_succ (f := f) ha
  cases hb : f a with
  | true =>
    rw [hb, if_pos rfl] at e1
    refine iteT ?_
    refine he hb H3 e3 _ fun y H4 e4 hd => ⟨acc, e4 Dl _ (e3 Dl _ p3), sz_lt (by rw [dta_len p4]; omega), p1, Ex.mut ((p2.trans e3).trans e4) p1, _, upd_same, ?_⟩
    rw [e1, List.map_append]
    exact dta_tx (tx_lst (e4 Dl _ (e3 Dl _ p3))) (dta_app (dta_ex (e3.trans e4) p4) (dta_one hd))
  | false =>
    rw [hb, if_neg Bool.false_ne_true, List.append_nil] at e1
    refine iteF ?_
    rw [e1]
    exact ⟨p1, p2.trans e3, acc, e3 Dl _ p3, dta_ex e3 p4⟩
/-- over a list that stands -/
theorem ef_lcL {a : Addr} {xs : List V} {tl : TE} {j : Nat} {vs : List Nat} (f : PyData → Bool) (g : PyData → PyData) (h : Ev tl σ H (.ref a)) (hx : SqL K H a xs) (hd : DtAll K H xs ds) (hz : ds.length < 50000) (hw : ∀ x, wipe ((wipe σ vs).set j (some x)) vs = wipe σ vs)
    (ht : ∀ (d : PyData) (x : V) H1, Ex H H1 → d ∈ ds → Dt K H1 x d → EvT t ((wipe σ vs).set j (some x)) H1 (f d)) (he : ∀ (d : PyData) (x : V) H1, Ex H H1 → d ∈ ds → Dt K H1 x d → f d = true → EvD K te ((wipe σ vs).set j (some x)) H1 (g d)) :
    EvF K (tLc (iList K tl) (gName j) t te vs) σ H ((ds.filter f).map g) := fun H0 e Q q => h H0 e _ fun H1 e1 => ⟨a, rfl, ⟨xs, ex_l (e.trans e1) hx⟩, fun Dl hD =>
  lc_list (xs := xs) (fun i H' => Cd K H1 Dl (((ds.take i).filter f).map g) H') ⟨hD, Ex.new hD, [], upd_same, .nil⟩ (fun i H' _ p => ex_l ((e.trans e1).trans p.2.1) hx) (fun i x H' hi p => by
      obtain ⟨d, h1, h2⟩ := dta_get (dta_ex ((e.trans e1).trans p.2.1) hd) hi
      have hm := List.mem_of_getElem? h1
      have e3 := (e.trans e1).trans p.2.1
      exact ⟨hw x, cd_step p hz h1 (ht d x H' e3 hm h2) (fun hf => he d x H' e3 hm h2 hf)⟩)
    (fun H' p => by
      obtain ⟨p1, p2, acc, p3, p4⟩ := p
      have e5 : ds.take xs.length = ds := List.take_of_length_le (by rw [dta_len hd]; exact Nat.le_refl _)
      rw [e5] at p4
      exact q Dl acc H' (fresh_back e1 p1) (e1.trans p2) p3 p4)⟩
/-- over a tuple -/
theorem ef_lcT {tl : TE} {j : Nat} {vs : List Nat} (f : PyData → Bool) (g : PyData → PyData) (h : EvD K tl σ H (.tuple ds)) (hz : ds.length < 50000) (hw : ∀ x, wipe ((wipe σ vs).set j (some x)) vs = wipe σ vs)
    (ht : ∀ (d : PyData) (x : V) H1, Ex H H1 → d ∈ ds → Dt K H1 x d → EvT t ((wipe σ vs).set j (some x)) H1 (f d)) (he : ∀ (d : PyData) (x : V) H1, Ex H H1 → d ∈ ds → Dt K H1 x d → f d = true → EvD K te ((wipe σ vs).set j (some x)) H1 (g d)) :
    EvF K (tLc (iTup K tl) (gName j) t te vs) σ H ((ds.filter f).map g) := fun H0 e Q q => h H0 e _ fun v H1 e1 hv => by
  cases hv with
  | tup hx hd =>
    rename_i a xs
    exact ⟨a, rfl, ⟨xs, hx⟩, fun Dl hD =>
      lc_tup (xs := xs) (fun i H' => Cd K H1 Dl (((ds.take i).filter f).map g) H') ⟨hD, Ex.new hD, [], upd_same, .nil⟩ (fun i H' _ p => ex_t p.2.1 hx) (fun i x H' hi p => by
          obtain ⟨d, h1, h2⟩ := dta_get (dta_ex p.2.1 hd) hi
          have hm := List.mem_of_getElem? h1
          have e3 := (e.trans e1).trans p.2.1
          exact ⟨hw x, cd_step p hz h1 (ht d x H' e3 hm h2) (fun hf => he d x H' e3 hm h2 hf)⟩)
        (fun H' p => by
          obtain ⟨p1, p2, acc, p3, p4⟩ := p
          have e5 : ds.take xs.length = ds := List.take_of_length_le (by rw [dta_len hd]; exact Nat.le_refl _)
          rw [e5] at p4
          exact q Dl acc H' (fresh_back e1 p1) (e1.trans p2) p3 p4)⟩
/-- over a list made on the way -/
theorem ef_lcF {tl : TE} {j : Nat} {vs : List Nat} (f : PyData → Bool) (g : PyData → PyData) (h : EvF K tl σ H ds) (hz : ds.length < 50000) (hw : ∀ x, wipe ((wipe σ vs).set j (some x)) vs = wipe σ vs)
    (ht : ∀ (d : PyData) (x : V) H1, Ex H H1 → d ∈ ds → Dt K H1 x d → EvT t ((wipe σ vs).set j (some x)) H1 (f d)) (he : ∀ (d : PyData) (x : V) H1, Ex H H1 → d ∈ ds → Dt K H1 x d → f d = true → EvD K te ((wipe σ vs).set j (some x)) H1 (g d)) :
    EvF K (tLc (iList K tl) (gName j) t te vs) σ H ((ds.filter f).map g) := fun H0 e Q q => h H0 e _ fun a xs H1 ha e1 hx hd => ⟨a, rfl, ⟨xs, sq_of hx⟩, fun Dl hD =>
  lc_list (xs := xs) (fun i H' => Cd K H1 Dl (((ds.take i).filter f).map g) H') ⟨hD, Ex.new hD, [], upd_same, .nil⟩ (fun i H' _ p => sq_of (p.2.1 a _ hx)) (fun i x H' hi p => by
      obtain ⟨d, h1, h2⟩ := dta_get (dta_ex p.2.1 hd) hi
      have hm := List.mem_of_getElem? h1
      have e3 := (e.trans e1).trans p.2.1
      exact ⟨hw x, cd_step p hz h1 (ht d x H' e3 hm h2) (fun hf => he d x H' e3 hm h2 hf)⟩)
    (fun H' p => by
      obtain ⟨p1, p2, acc, p3, p4⟩ := p
      have e5 : ds.take xs.length = ds := List.take_of_length_le (by rw [dta_len hd]; exact Nat.le_refl _)
      rw [e5] at p4
      exact q Dl acc H' (fresh_back e1 p1) (e1.trans p2) p3 p4)⟩
/-- the ints lo, lo + 1, .. below hi -/
def upTo (lo hi : Int) : List Int := (List.range (hi - lo).toNat).map fun (i : Nat) => lo + (i : Int)
theorem upTo_get {lo hi : Int} {i : Nat} (h : i < (hi - lo).toNat) : (upTo lo hi)[i]? = some (lo + (i : Int)) := by
  unfold upTo
  rw [List.getElem?_map, List.getElem?_range h]
  rfl
theorem upTo_len (lo hi : Int) : (upTo lo hi).length = (hi - lo).toNat := by
  unfold upTo
  rw [List.length_map, List.length_range]
theorem ef_lcR2 {ta : TA} {j : Nat} {vs : List Nat} {lo hi : Int} (f : Int → Bool) (g : Int → PyData) (h : EvA ta σ H [.int lo, .int hi]) (hn : -10000 ≤ lo ∧ lo ≤ 10000 ∧ -10000 ≤ hi ∧ hi ≤ 10000) (hw : ∀ x, wipe ((wipe σ vs).set j (some x)) vs = wipe σ vs)
    (ht : ∀ (i : Int) H1, Ex H H1 → lo ≤ i → i < hi → EvT t ((wipe σ vs).set j (some (.int i))) H1 (f i)) (he : ∀ (i : Int) H1, Ex H H1 → lo ≤ i → i < hi → f i = true → EvD K te ((wipe σ vs).set j (some (.int i))) H1 (g i)) :
    EvF K (tLc (iRng2 ta) (gName j) t te vs) σ H (((upTo lo hi).filter f).map g) := fun H0 e Q q => h H0 e _ fun H1 e1 => ⟨lo, hi, rfl, ⟨by omega, by omega, by omega, by omega⟩, fun Dl hD =>
  lc_range (lo := lo) (n := (hi - lo).toNat) (fun i H' => Cd K H1 Dl ((((upTo lo hi).take i).filter f).map g) H') ⟨hD, Ex.new hD, [], upd_same, .nil⟩ (fun i H' hi p => by
      have e3 := (e.trans e1).trans p.2.1
      exact ⟨hw _, cd_step p (by rw [upTo_len]; omega) (upTo_get hi) (ht _ H' e3 (by omega) (by omega)) (fun hf => he _ H' e3 (by omega) (by omega) hf)⟩)
    (fun H' p => by
      obtain ⟨p1, p2, acc, p3, p4⟩ := p
      have e5 : (upTo lo hi).take (hi - lo).toNat = upTo lo hi := List.take_of_length_le (by rw [upTo_len]; exact Nat.le_refl _)
      rw [e5] at p4
      exact q Dl acc H' (fresh_back e1 p1) (e1.trans p2) p3 p4)⟩
theorem ef_lcR1 {ta : TA} {j : Nat} {vs : List Nat} {hi : Int} (f : Int → Bool) (g : Int → PyData) (h : EvA ta σ H [.int hi]) (hn : -10000 ≤ hi ∧ hi ≤ 10000) (hw : ∀ x, wipe ((wipe σ vs).set j (some x)) vs = wipe σ vs)
    (ht : ∀ (i : Int) H1, Ex H H1 → 0 ≤ i → i < hi → EvT t ((wipe σ vs).set j (some (.int i))) H1 (f i)) (he : ∀ (i : Int) H1, Ex H H1 → 0 ≤ i → i < hi → f i = true → EvD K te ((wipe σ vs).set j (some (.int i))) H1 (g i)) :
    EvF K (tLc (iRng1 ta) (gName j) t te vs) σ H (((upTo 0 hi).filter f).map g) := fun H0 e Q q => h H0 e _ fun H1 e1 => ⟨hi, rfl, by omega, by omega, fun Dl hD =>
  lc_range (lo := 0) (n := hi.toNat) (fun i H' => Cd K H1 Dl ((((upTo 0 hi).take i).filter f).map g) H') ⟨hD, Ex.new hD, [], upd_same, .nil⟩ (fun i H' hi p => by
      have e3 := (e.trans e1).trans p.2.1
      exact ⟨hw _, cd_step p (by rw [upTo_len]; omega) (upTo_get (by omega)) (ht _ H' e3 (by omega) (by omega)) (fun hf => he _ H' e3 (by omega) (by omega) hf)⟩)
    (fun H' p => by
      obtain ⟨p1, p2, acc, p3, p4⟩ := p
      have e5 : (upTo 0 hi).take hi.toNat = upTo 0 hi := List.take_of_length_le (by rw [upTo_len]; omega)
      rw [e5] at p4
      exact q Dl acc H' (fresh_back e1 p1) (e1.trans p2) p3 p4)⟩
theorem et_yes : EvT tYes σ H true := fun H1 _ _ q => q H1 (Ex.refl H1)
theorem ev_chain {r r' : R2} {tc : TE} {a b : Bool} (ha : Ev ta σ H x) (hb : Ev tb σ H y) (hc : Ev tc σ H z) (h1 : RV r x y H (.bl a)) (h2 : RV r' y z H (.bl b)) : Ev (tChain r r' ta tb tc) σ H (.bl (a && b)) := fun H1 e Q q =>
  ha H1 e _ fun H2 e2 => hb H2 (e.trans e2) _ fun H3 e3 => h1 H3 ((e.trans e2).trans e3) _ fun H4 e4 => ⟨a, rfl, by
    cases a with
    | true => exact iteT (hc H4 (((e.trans e2).trans e3).trans e4) _ fun H5 e5 => h2 H5 ((((e.trans e2).trans e3).trans e4).trans e5) Q fun H6 e6 => q H6 ((((e2.trans e3).trans e4).trans e5).trans e6))
    | false => exact iteF (q H4 ((e2.trans e3).trans e4))⟩
/-- x or y, x a tuple -/
theorem ed_orT (ha : EvD K ta σ H (.tuple ds)) (hb : ds = [] → EvD K tb σ H d) (hd : ds ≠ [] → d = .tuple ds) : EvD K (tOrT K ta tb) σ H d := fun H1 e Q q =>
  ha H1 e _ fun v H2 e2 hv => by
    cases hv with
    | tup hs hx =>
      rename_i a xs
      refine ⟨!xs.isEmpty, .inr (.inl ⟨xs, hs, rfl⟩), ?_⟩
      cases xs with
      | nil =>
        cases hx
        exact iteF (hb rfl H2 (e.trans e2) Q fun w H3 e3 hw => q w H3 (e2.trans e3) hw)
      | cons x xs =>
        refine iteT ?_
        have hne : ds ≠ [] := fun z => by
          subst z
          cases hx
        refine q _ H2 e2 ?_
        rw [hd hne]
        exact .tup hs hx
theorem ev_isi {ty c : String} {b : Bool} (ha : Ev ta σ H v) (hb : Ev tb σ H (.ty c)) (ht : ∀ H1, Ex H H1 → TyX K H1 v (.type ty)) (hk : kitB ty c = some b) : Ev (tCB (rIsi K) (tCons ta (tCons tb tNil))) σ H (.bl b) := fun H1 e Q q =>
  ha H1 e _ fun H2 e2 => hb H2 (e.trans e2) _ fun H3 e3 => ⟨v, .ty c, .type ty, .type c, b, rfl, .ty c, ht H3 ((e.trans e2).trans e3), kit_ty hk, q H3 (e2.trans e3)⟩
theorem ty_int {i : Int} : ∀ H1, Ex H H1 → TyX K H1 (.int i) (.type "int") := fun _ _ => .base (.int i)
theorem ev_min2 {i j : Int} (ha : Ev ta σ H (.int i)) (hb : Ev tb σ H (.int j)) : Ev (tCB (fun xs H Q => ∃ i j, xs = [.int i, .int j] ∧ Q (.int (if j < i then j else i)) H) (tCons ta (tCons tb tNil))) σ H (.int (if j < i then j else i)) := fun H1 e Q q =>
  ha H1 e _ fun H2 e2 => hb H2 (e.trans e2) _ fun H3 e3 => ⟨i, j, rfl, q H3 (e2.trans e3)⟩
/-- a def that hands back a value and leaves the heap -/
def spV (pre : List V → Hp → Prop) (f : List V → V) : Sp := fun vs H Q _ => pre vs H ∧ ∀ H2, Ex H H2 → Q (f vs) H2
theorem ev_spv {pre : List V → Hp → Prop} {f : List V → V} {E : XK} {ta : TA} {vs : List V} (h : EvA ta σ H vs) (hp : ∀ H1, Ex H H1 → pre vs H1) : Ev (tCall (spV pre f) [] E ta) σ H (f vs) := fun H1 e Q q =>
  h H1 e _ fun H2 e2 => by
    show spV pre f (vs ++ []) H2 Q E
    rw [List.append_nil]
    exact ⟨hp H2 (e.trans e2), fun H3 e3 => q H3 (e2.trans e3)⟩
end
section
variable {K : PySem.W.Frag} {σ : L2.St} {H H' : Hp} {te : TE} {d : PyData} {ds : List PyData} {D : Ends} {tz tu : TS} {i : Nat}
theorem s_asgF (h : EvF K te σ H ds) (k : ∀ p xs H1, H p = none → Ex H H1 → H1 p = some (.lst xs) → DtAll K H1 xs ds → D.nx (σ.set i (some (.ref p))) H1) : tAsg te (gName i) D σ H := h H (Ex.refl H) _ k
theorem q_asgF (h : EvF K te σ H ds) (k : ∀ p xs H1, H p = none → Ex H H1 → H1 p = some (.lst xs) → DtAll K H1 xs ds → tz D (σ.set i (some (.ref p))) H1) : tSeq (tAsg te (gName i)) tz D σ H := h H (Ex.refl H) _ k
theorem s_asgD (h : EvD K te σ H d) (k : ∀ v H1, Ex H H1 → Dt K H1 v d → D.nx (σ.set i (some v)) H1) : tAsg te (gName i) D σ H := h H (Ex.refl H) _ k
theorem q_asgD (h : EvD K te σ H d) (k : ∀ v H1, Ex H H1 → Dt K H1 v d → tz D (σ.set i (some v)) H1) : tSeq (tAsg te (gName i)) tz D σ H := h H (Ex.refl H) _ k
theorem s_retF (h : EvF K te σ H ds) (k : ∀ p xs H1, H p = none → Ex H H1 → H1 p = some (.lst xs) → DtAll K H1 xs ds → D.rt (.ref p) H1) : tRet te D σ H := h H (Ex.refl H) _ k
theorem s_retD (h : EvD K te σ H d) (k : ∀ v H1, Ex H H1 → Dt K H1 v d → D.rt v H1) : tRet te D σ H := h H (Ex.refl H) _ k
end
/-! ### lots as lists of ints -/
def lotD (l : List Int) : PyData := .tuple (l.map PyData.int)
theorem lotD_ix {l : List Int} {i : Int} {x : Int} (h : atI l i = some x) : atI (l.map PyData.int) i = some (.int x) := by
  unfold atI at h ⊢
  rw [List.length_map]
  cases q : ixN l.length i with
  | none => rw [q] at h; cases h
  | some j =>
    rw [q] at h
    show (l.map PyData.int)[j]? = _
    rw [List.getElem?_map, show l[j]? = some x from h]
    rfl
theorem dt_lot {K : PySem.W.Frag} {H : Hp} {v : V} {l : List Int} (h : Dt K H v (lotD l)) : ∃ a, v = .ref a ∧ SqT K H a (l.map V.int) := by
  unfold lotD at h
  cases h with
  | tup hs hx =>
    rw [dta_ints_inv hx] at hs
    exact ⟨_, rfl, hs⟩
theorem lot_dt {K : PySem.W.Frag} {H : Hp} {a : Addr} {l : List Int} (h : SqT K H a (l.map V.int)) : Dt K H (.ref a) (lotD l) := .tup h (dta_ints l)
theorem inV_ints (x : Int) : ∀ l : List Int, inV (.int x) (l.map V.int) = l.contains x := by
  intro l
  induction l with
  | nil => rfl
  | cons y r ih =>
    have e : inV (.int x) ((y :: r).map V.int) = (eqV (.int y) (.int x) || inV (.int x) (r.map V.int)) := rfl
    rw [e, ih, List.contains_cons]
    have e2 : eqV (.int y) (.int x) = (x == y) := by
      show (y == x) = (x == y)
      exact Bool.beq_comm
    rw [e2]
theorem flat_ints : ∀ l : List Int, (l.map V.int).all flatV = true
  | [] => rfl
  | x :: r => by
    show (true && (r.map V.int).all flatV) = true
    rw [flat_ints r]
    rfl
theorem lastD (l : List Int) (hne : l ≠ []) : atI l (-1) = some (l.getLast hne) := by
  have e : l = l.dropLast ++ [l.getLast hne] := (List.dropLast_concat_getLast hne).symm
  have := atI_last l.dropLast (l.getLast hne)
  rw [← e] at this
  exact this
theorem units1 {k : Nat} {A : Around} (r : Room k A) : A.units + 65 < cLine := by
  have := r.un
  omega
def topS (i : Nat) : Stmt := PySem.Challenge.pw_curvefaces_k44_lowest_and_highest_covers.main.body.getD i (.Pass ⟨0, 0, 0, 0⟩)
abbrev s_is_whole : Stmt := topS 18
abbrev N_is_whole : List Str := ["thing"]
theorem sc_is_whole : FnScope N_is_whole ["thing"] (defScope s_is_whole) := ⟨rfl, rfl, rfl, by decide +kernel, rfl, by decide +kernel, by decide +kernel⟩
abbrev s_next_number : Stmt := topS 19
abbrev N_next_number : List Str := ["some"]
theorem sc_next_number : FnScope N_next_number ["some"] (defScope s_next_number) := ⟨rfl, rfl, rfl, by decide +kernel, rfl, by decide +kernel, by decide +kernel⟩
abbrev s_choices : Stmt := topS 20
abbrev N_choices : List Str := ["many", "size", "chosen", "left", "some", "k"]
theorem sc_choices : FnScope N_choices ["many", "size"] (defScope s_choices) := ⟨rfl, rfl, rfl, by decide +kernel, rfl, by decide +kernel, by decide +kernel⟩
abbrev s_paired : Stmt := topS 21
abbrev N_paired : List Str := ["chosen", "first", "corners", "at", "k"]
theorem sc_paired : FnScope N_paired ["chosen", "first"] (defScope s_paired) := ⟨rfl, rfl, rfl, by decide +kernel, rfl, by decide +kernel, by decide +kernel⟩
abbrev s_ended : Stmt := topS 22
abbrev N_ended : List Str := ["many", "deep", "head", "tail", "pairs", "room", "chosen"]
theorem sc_ended : FnScope N_ended ["many", "deep", "head", "tail"] (defScope s_ended) := ⟨rfl, rfl, rfl, by decide +kernel, rfl, by decide +kernel, by decide +kernel⟩
abbrev s_low_lots : Stmt := topS 23
abbrev N_low_lots : List Str := ["many", "deep"]
theorem sc_low_lots : FnScope N_low_lots ["many", "deep"] (defScope s_low_lots) := ⟨rfl, rfl, rfl, by decide +kernel, rfl, by decide +kernel, by decide +kernel⟩
abbrev s_high_lots : Stmt := topS 24
abbrev N_high_lots : List Str := ["many", "deep"]
theorem sc_high_lots : FnScope N_high_lots ["many", "deep"] (defScope s_high_lots) := ⟨rfl, rfl, rfl, by decide +kernel, rfl, by decide +kernel, by decide +kernel⟩
abbrev s_is_curve : Stmt := topS 28
abbrev N_is_curve : List Str := ["thing", "many", "deep"]
theorem sc_is_curve : FnScope N_is_curve ["thing"] (defScope s_is_curve) := ⟨rfl, rfl, rfl, by decide +kernel, rfl, by decide +kernel, by decide +kernel⟩
abbrev s_need_curve : Stmt := topS 29
abbrev N_need_curve : List Str := ["curve"]
theorem sc_need_curve : FnScope N_need_curve ["curve"] (defScope s_need_curve) := ⟨rfl, rfl, rfl, by decide +kernel, rfl, by decide +kernel, by decide +kernel⟩
abbrev s_need_covered : Stmt := topS 33
abbrev N_need_covered : List Str := ["curve", "many", "deep"]
theorem sc_need_covered : FnScope N_need_covered ["curve"] (defScope s_need_covered) := ⟨rfl, rfl, rfl, by decide +kernel, rfl, by decide +kernel, by decide +kernel⟩
abbrev s_lowest : Stmt := topS 34
abbrev N_lowest : List Str := ["curve", "many", "deep"]
theorem sc_lowest : FnScope N_lowest ["curve"] (defScope s_lowest) := ⟨rfl, rfl, rfl, by decide +kernel, rfl, by decide +kernel, by decide +kernel⟩
abbrev s_highest : Stmt := topS 35
abbrev N_highest : List Str := ["curve", "many", "deep"]
theorem sc_highest : FnScope N_highest ["curve"] (defScope s_highest) := ⟨rfl, rfl, rfl, by decide +kernel, rfl, by decide +kernel, by decide +kernel⟩
abbrev s__law_box : Stmt := topS 37
abbrev N__law_box : List Str := ["_law_script", "_law_k", "_law_here", "_law_primes", "_law_number", "_law_j", "_law_first", "_law_part"]
theorem sc__law_box : FnScope N__law_box ["_law_script", "_law_k"] (defScope s__law_box) := ⟨rfl, rfl, rfl, by decide +kernel, rfl, by decide +kernel, by decide +kernel⟩
abbrev s__law_take : Stmt := topS 38
abbrev N__law_take : List Str := ["_law_box_here", "_law_many", "_law_left", "_law_digit"]
theorem sc__law_take : FnScope N__law_take ["_law_box_here", "_law_many"] (defScope s__law_take) := ⟨rfl, rfl, rfl, by decide +kernel, rfl, by decide +kernel, by decide +kernel⟩
abbrev s__law_classes : Stmt := topS 39
abbrev N__law_classes : List Str := ["_law_e", "_law_found"]
theorem sc__law_classes : FnScope N__law_classes ["_law_e"] (defScope s__law_classes) := ⟨rfl, rfl, rfl, by decide +kernel, rfl, by decide +kernel, by decide +kernel⟩
abbrev s__law_told : Stmt := topS 40
abbrev N__law_told : List Str := ["_law_call", "_law_e", "_law_found", "_law_place", "_law_mark"]
theorem sc__law_told : FnScope N__law_told ["_law_call"] (defScope s__law_told) := ⟨rfl, rfl, rfl, by decide +kernel, rfl, by decide +kernel, by decide +kernel⟩
abbrev s__law_lots : Stmt := topS 41
abbrev N__law_lots : List Str := ["_law_many", "_law_size", "_law_found", "_law_lap", "_law_later", "_law_lot", "_law_least", "_law_corner"]
theorem sc__law_lots : FnScope N__law_lots ["_law_many", "_law_size"] (defScope s__law_lots) := ⟨rfl, rfl, rfl, by decide +kernel, rfl, by decide +kernel, by decide +kernel⟩
abbrev s__law_even : Stmt := topS 42
abbrev N__law_even : List Str := ["_law_many", "_law_lot", "_law_out", "_law_corner", "_law_at"]
theorem sc__law_even : FnScope N__law_even ["_law_many", "_law_lot"] (defScope s__law_even) := ⟨rfl, rfl, rfl, by decide +kernel, rfl, by decide +kernel, by decide +kernel⟩
abbrev s__law_gapped : Stmt := topS 43
abbrev N__law_gapped : List Str := ["_law_many", "_law_deep", "_law_lot"]
theorem sc__law_gapped : FnScope N__law_gapped ["_law_many", "_law_deep"] (defScope s__law_gapped) := ⟨rfl, rfl, rfl, by decide +kernel, rfl, by decide +kernel, by decide +kernel⟩
abbrev s__law_curve : Stmt := topS 44
abbrev N__law_curve : List Str := ["_law_box_here", "_law_deep"]
theorem sc__law_curve : FnScope N__law_curve ["_law_box_here"] (defScope s__law_curve) := ⟨rfl, rfl, rfl, by decide +kernel, rfl, by decide +kernel, by decide +kernel⟩
abbrev s__law_end : Stmt := topS 45
abbrev N__law_end : List Str := ["_law_curve_here", "_law_side", "_law_many", "_law_deep", "_law_found", "_law_lot", "_law_behind"]
theorem sc__law_end : FnScope N__law_end ["_law_curve_here", "_law_side"] (defScope s__law_end) := ⟨rfl, rfl, rfl, by decide +kernel, rfl, by decide +kernel, by decide +kernel⟩
abbrev s__law_parts : Stmt := topS 46
abbrev N__law_parts : List Str := ["_law_knot", "_law_rows", "_law_at"]
theorem sc__law_parts : FnScope N__law_parts ["_law_knot"] (defScope s__law_parts) := ⟨rfl, rfl, rfl, by decide +kernel, rfl, by decide +kernel, by decide +kernel⟩
abbrev s__law_exchanged : Stmt := topS 47
abbrev N__law_exchanged : List Str := ["_law_cover", "_law_gone", "_law_come", "_law_cell"]
theorem sc__law_exchanged : FnScope N__law_exchanged ["_law_cover", "_law_gone", "_law_come"] (defScope s__law_exchanged) := ⟨rfl, rfl, rfl, by decide +kernel, rfl, by decide +kernel, by decide +kernel⟩
abbrev s__law_nexts : Stmt := topS 48
abbrev N__law_nexts : List Str := ["_law_curve_here", "_law_cover", "_law_side", "_law_found", "_law_knot", "_law_both", "_law_later"]
theorem sc__law_nexts : FnScope N__law_nexts ["_law_curve_here", "_law_cover", "_law_side"] (defScope s__law_nexts) := ⟨rfl, rfl, rfl, by decide +kernel, rfl, by decide +kernel, by decide +kernel⟩
abbrev s__law_drawn : Stmt := topS 49
abbrev N__law_drawn : List Str := ["_law_box_here", "_law_curve_here", "_law_cover", "_law_lap", "_law_some"]
theorem sc__law_drawn : FnScope N__law_drawn ["_law_box_here", "_law_curve_here"] (defScope s__law_drawn) := ⟨rfl, rfl, rfl, by decide +kernel, rfl, by decide +kernel, by decide +kernel⟩
abbrev s__law_bad_curve : Stmt := topS 50
abbrev N__law_bad_curve : List Str := ["_law_box_here", "_law_some", "_law_greats"]
theorem sc__law_bad_curve : FnScope N__law_bad_curve ["_law_box_here"] (defScope s__law_bad_curve) := ⟨rfl, rfl, rfl, by decide +kernel, rfl, by decide +kernel, by decide +kernel⟩
abbrev s__law_spoilt : Stmt := topS 51
abbrev N__law_spoilt : List Str := ["_law_box_here", "_law_lot", "_law_most", "_law_at", "_law_odd", "_law_things", "_law_found"]
theorem sc__law_spoilt : FnScope N__law_spoilt ["_law_box_here", "_law_lot", "_law_most"] (defScope s__law_spoilt) := ⟨rfl, rfl, rfl, by decide +kernel, rfl, by decide +kernel, by decide +kernel⟩
abbrev s_law : Stmt := topS 52
abbrev N_law : List Str := ["_law_script", "_law_k", "_law_box_here", "_law_odd", "_law_due", "_law_deep", "_law_curve_here", "_law_found"]
theorem sc_law : FnScope N_law ["_law_script"] (defScope s_law) := ⟨rfl, rfl, rfl, by decide +kernel, rfl, by decide +kernel, by decide +kernel⟩
/-- the built-ins that the text uses are the built-ins -/
structure Bt (mg : Str → Option Value) : Prop where
  isinstance_ : mg "isinstance" = none
  int_ : mg "int" = none
  bool_ : mg "bool" = none
  range_ : mg "range" = none
  enumerate_ : mg "enumerate" = none
  len_ : mg "len" = none
  tuple_ : mg "tuple" = none
  divmod_ : mg "divmod" = none
  ValueError_ : mg "ValueError" = none
  sorted_ : mg "sorted" = none
  list_ : mg "list" = none
  repr_ : mg "repr" = none
  max_ : mg "max" = none
  min_ : mg "min" = none
/-- a def of the text: where it stands, its name, how its arguments bind -/
structure Df (K : PySem.W.Frag) (mg : Str → Option Value) (x : Str) (st : Stmt) (ps : List Str) (f : Addr) (fd : FuncData) : Prop where
  F : Fun K x x st f fd
  g : mg x = some (.ref f)
  b : Binds K fd ps []
/-! ### all(.. for .. in ..): the def's table of code objects stands in the heap as a thing that stays a table -/
def tabIs (P : Addr) : Heap → Prop := fun h => ∃ ps : Array Value, h.get? P = some { cls := .none, data := .fields ps } ∧ TriplesOk ps.toList
abbrev TabO (P : Addr) : HO := .ext (tabIs P)
theorem tabIs_at {P : Addr} {h h' : Heap} (x : tabIs P h) (k : ∀ o, h.get? P = some o → h'.get? P = some o) : tabIs P h' := by
  obtain ⟨ps, e, t⟩ := x
  exact ⟨ps, k _ e, t⟩
theorem tab_obj {pr : Program} {w : World} {H : Hp} {h : Heap} {P : Addr} (x : tabIs P h) : ObjOk pr w H h P (TabO P) := by
  refine ⟨x, ?_, fun h1 h2 y k => tabIs_at y k⟩
  obtain ⟨ps, e, _⟩ := x
  exact ⟨_, e⟩
section
variable {X : Cx} {pins : List (Addr × Obj)} {σ : L2.St} {H : Hp} {s : Shared}
/-- the table may have grown: nothing else has changed -/
theorem inv_tabX {P : Addr} {h' : Heap} {g' : Array GenState} {d' : Drawn} {t' : Nat} (I : Inv X pins σ H s) (hP : H P = some (TabO P)) (k : ∀ b o, b ≠ P → s.heap.get? b = some o → h'.get? b = some o) (ht : tabIs P h') (hg : AllBare g') :
    Inv X pins σ H { s with heap := h', gens := g', drawn := d', toks := t' } := by
  have nf : ∀ b, H b = none → b ≠ P := fun b e z => by
    subst z
    rw [hP] at e
    cases e
  refine I.step (ch := []) (fun b hb => nomatch hb) (fun b o _ _ _ e n => k b o (nf b n) e) (fun b o _ _ _ e n => ⟨o.slots, k b o (nf b n) e⟩) (fun b o _ _ n => n) (fun b o _ e => ?_) (fun b u e => e) (fun b o u e => e) (fun b qs e => ⟨#[], by rw [e]; simp⟩) (fun m hn => ?_) (fun b u e => ?_) hg
  · by_cases hb : b = P
    · subst hb
      obtain ⟨ps, e2, _⟩ := ht
      exact ⟨_, e2⟩
    · exact ⟨o, k b o hb e⟩
  · obtain ⟨ob, es, ep, ho, r⟩ := hn
    exact ⟨ob, es, ep, k _ ob (nf _ I.free) ho, r⟩
  · by_cases hb : b = P
    · subst hb
      rw [hP] at e
      cases e
      exact tab_obj ht
    · refine (I.hok b u e).stay (fun d v hd q => k d v (fun z => ?_) q) (fun d q => q) fun d xs q => q
      subst z
      rcases hd with z | z
      · exact hb z.symm
      · rw [hP] at z
        cases z
/-- what an element of a generator expression gives, in whatever frame it is asked -/
def EltOk (X : Cx) (scope : Scope) (x : Str) (elt : Expr) (P : Addr) (σ : L2.St) (H : Hp) (xs : List V) (pb : Nat → Bool) : Prop :=
  ∀ (pins : List (Addr × Obj)) (s : Shared), Inv X pins σ H s → ∀ its : List Value, Vals xs its → ∀ cenv : Env, cenv.scope = scope → cenv.globals = X.env.globals → cenv.cells = cloFrom X.env.cells scope.names [] →
    ∀ (A' : Around) (E' : Value → Shared → Prop) (i : Nat) (v : Value) (s2 : Shared) (m2 : Str → Option Value), A'.handled = none → A'.depth ≤ X.A.depth + 1 → A'.units ≤ X.A.units + 8 → its[i]? = some v → s2.heap.Ns cenv.locals m2 → m2 x = some v →
      (∀ b o, b ≠ P → s.heap.get? b = some o → s2.heap.get? b = some o) → wpAny (model X.prog X.w) A' (eval elt cenv) (fun y s3 => y = .bool (pb i) ∧ Keeps s2 s3) E' s2
/-- a generator that stands ready, its n elements' truths pb -/
def RdyG (X : Cx) (pins : List (Addr × Obj)) (σ : L2.St) (H : Hp) (n : Nat) (pb : Nat → Bool) (g : Addr) (s5 : Shared) : Prop :=
  ∃ (fp wr : List Addr) (G : Array GenState → Array GenState → Prop) (F : Nat → Value → Prop) (St : Nat → Shared → Prop),
    WalksS X.prog X.w X.A.in1 g fp wr G n F St ∧ St 0 s5 ∧ TruthOf X.prog X.w X.A.in1 F pb ∧ ∀ s', Moved wr G s5 s' → Inv X pins σ H s'
theorem gen_tup {c P : Addr} {elt iter : Expr} {x : Str} {px gpos : Pos} {scope : Scope} {te : TE} {k : Nat} {Q' : Value → Shared → Prop} {R : List V → (Nat → Bool) → Hp → Prop} (hr : Room k X.A) (TB : GxR.TabB X.base X.mg c P) (hcode : X.env.code = .ref c) (S : GxR.GenS X.env scope x) (hi : PE X iter te)
    (hs : ∀ v, genFold iter X.env v = pure v) (I : Inv X pins σ H s) (h : te σ H fun v H1 => ∃ (a : Addr) (xs : List V) (pb : Nat → Bool), v = .ref a ∧ SqT X.K H1 a xs ∧ H1 P = some (TabO P) ∧ EltOk X scope x elt P σ H1 xs pb ∧ R xs pb H1)
    (hQ : ∀ xs pb H1 g s5, R xs pb H1 → RdyG X pins σ H1 xs.length pb g s5 → Q' (.ref g) s5) :
    wpAny (model X.prog X.w) X.A (eval (.GeneratorExp elt [⟨.Name x px, iter, [], 0⟩] scope gpos) X.env) Q' X.xe s := by
  have hdep : X.A.depth < recursionLimit := Nat.lt_of_le_of_lt (by omega) hr.dp
  refine wpAny_GeneratorExp_walksQD hr.hd S.co (closure_ok S.free) S.cell S.dot S.loc S.kind hdep (thn (hi.run pins s σ H _ I h) fun xv s1 hx1 => ?_) hs
  obtain ⟨v, H1, I1, r1, a, xs, pb, rfl, hsq, hP, hel, hR⟩ := hx1
  obtain rfl : xv = Value.ref a := r1
  obtain ⟨its, rv, htp, hsz⟩ := I1.tuple hsq
  have hlen : its.toArray.size = xs.length := by rw [List.size_toArray]; exact (Vals.length rv).symm
  refine wpAny_pyIter_tuple htp ?_
  obtain ⟨ps, hPs, htr⟩ := (show ObjOk X.prog X.w H1 s1.heap P (TabO P) from I1.hok P _ hP).1
  have hPlt : P < s1.heap.objs.size := Heap.lt_size hPs
  have halt : a < s1.heap.objs.size := htp.lt
  generalize hob : ({ cls := .type "tuple_iterator", data := .fields #[.ref a, .int 0 0] } : Obj) = ob
  have kpush : ∀ b u, s1.heap.get? b = some u → (s1.heap.push ob).get? b = some u := fun b u e => Heap.get?_push_of_some _ e
  have hit0 : (s1.heap.push ob).IsTupleIter s1.heap.objs.size a 0 := ⟨_, Heap.get?_push_size _ (by rw [← hob]; rfl), by rw [← hob], by rw [← hob]; rfl⟩
  have htp0 : (s1.heap.push ob).IsTuple a its.toArray := Heap.IsTuple.at htp fun o e => kpush a o e
  have hszp : (s1.heap.push ob).objs.size = s1.heap.objs.size + 1 := Heap.size_push ..
  have hPp : (s1.heap.push ob).get? P = some { cls := .none, data := .fields ps } := kpush P _ hPs
  have cd : PySem.W.CodeHd (s1.heap.push ob) c P := TB.code.keeps fun b u e => kpush b u (I1.bk b u e)
  have hlimp : (s1.heap.push ob).NoLimit := I1.nolimit.push ob
  have hcP : cStatics ≠ P := fun e => by
    obtain ⟨_, hns, _⟩ := I1.nolimit
    obtain ⟨o', es, ep, ho, hd, _⟩ := hns
    rw [e, hPs] at ho
    cases ho
    cases hd
  have hcl : cStatics < s1.heap.objs.size := let ⟨_, hns, _⟩ := I1.nolimit; hns.lt
  -- behind the code object: the table as it is then
  have fin : ∀ (code : Value) (h3 : Heap) (tk : Nat), Heap.ExtBut P (s1.heap.push ob) h3 → (s1.heap.push ob).objs.size ≤ h3.objs.size → tabIs P h3 →
      wpAny (model X.prog X.w) X.A (builtinsFor X.env.globals X.env.builtins) (fun bi s4 =>
        ∃ Ia fp wr n0 Pf St0 pz F, Value.ref s1.heap.objs.size = .ref Ia ∧ (∀ A' : Around, A'.handled = none → Walks X.prog X.w A' Ia fp wr n0 Pf St0) ∧ St0 0 s4.heap ∧ (∀ b ∈ fp, b < s4.heap.objs.size) ∧ s4.heap.NoLimit ∧ cStatics ∉ wr ∧
          (∀ href : Heap, (∀ b o, s4.heap.get? b = some o → href.get? b = some o) →
            QuietGenD X.prog X.w (genEnv scope (cloFrom X.env.cells scope.names []) s4.heap.objs.size code bi X.env) x [] elt (List.range s4.heap.objs.size) wr Pf pz F href (X.A.depth + 1) (X.A.units + 8)) ∧
          (∀ a h5 tk gs, gs.bare = true → s4.heap.objs.size < a → h5.objs.size = a + 1 → (∀ b o, s4.heap.get? b = some o → h5.get? b = some o) →
            WalksS X.prog X.w X.A.in4 a (a :: s4.heap.objs.size :: List.range s4.heap.objs.size) (s4.heap.objs.size :: wr) (GenOnlyQ s4.gens.size) (passing pz n0 0).length
              (fun j y => ∃ i, (passing pz n0 0)[j]? = some i ∧ F i y) (GenAt X.prog X.w X.A.in4 a s4.gens.size s4.heap.objs.size (List.range s4.heap.objs.size) wr pz n0 F) →
            GenAt X.prog X.w X.A.in4 a s4.gens.size s4.heap.objs.size (List.range s4.heap.objs.size) wr pz n0 F 0 { s4 with gens := s4.gens.push gs, toks := tk, heap := h5 } →
            Q' (.ref a) { s4 with gens := s4.gens.push gs, toks := tk, heap := h5 })) X.xe { s1 with heap := h3, toks := tk } := by
    intro code h3 tk hx hge ht3
    have keep3 : ∀ b u, b ≠ P → s1.heap.get? b = some u → h3.get? b = some u := fun b u hb e => hx b u hb (kpush b u e)
    obtain ⟨bm, ob2, e1, e2, e3, e4, e5, e6, e7, e8⟩ := TB.bm
    refine wpAny_builtinsFor (m := X.mg) (by rw [I1.ok.glob]; exact ((I1.mod.glob.keeps I1.bk).push ob).extBut hx TB.gP) e1 e2 (keep3 _ _ e4 (I1.bk _ _ e5)) e6 e7 e8 ?_
    have hs3 : s1.heap.objs.size + 1 ≤ h3.objs.size := by rw [← hszp]; exact hge
    have old3 : ∀ b u, s1.heap.get? b = some u → b < h3.objs.size := fun b u e => Nat.lt_of_lt_of_le (Nat.lt_of_lt_of_le (Heap.lt_size e) (Nat.le_succ _)) hs3
    have itP : s1.heap.objs.size ≠ P := (Nat.ne_of_lt hPlt).symm
    have aP : a ≠ P := fun z => by
      obtain ⟨o, ho, hc, _⟩ := htp
      rw [z, hPs] at ho
      cases ho
      cases hc
    refine ⟨s1.heap.objs.size, [s1.heap.objs.size, a], [s1.heap.objs.size], its.toArray.size, fun i v => its.toArray[i]? = some v, fun i h => h.IsTupleIter s1.heap.objs.size a i ∧ h.IsTuple a its.toArray, fun _ => true, fun i y => i < xs.length ∧ y = .bool (pb i), rfl, fun A' hA => Walks.tuple hA _ _ (Nat.ne_of_lt halt) _, ?_, ?_, hlimp.extBut hx hcP, ?_, ?_, ?_⟩
    · exact ⟨hit0.at fun o e => hx _ o itP e, htp0.at fun o e => hx _ o aP e⟩
    · intro b hb
      show b < h3.objs.size
      have hb2 : b = s1.heap.objs.size ∨ b = a := by simpa using hb
      rcases hb2 with z | z
      · rw [z]
        exact Nat.lt_of_lt_of_le (Nat.lt_succ_self _) hs3
      · rw [z]
        exact Nat.lt_of_lt_of_le (Nat.lt_of_lt_of_le halt (Nat.le_succ _)) hs3
    · intro z
      have z2 : cStatics = s1.heap.objs.size := by simpa using z
      exact Nat.ne_of_lt hcl z2
    · intro href hhref
      refine ⟨fun A' E' i v s2 m2 hA _ _ hPv hn hm hk => ?_, fun A' E' i v s2 m2 hA hD hU hPv _ hn hm hk => ?_⟩
      · simp only [List.forIn_nil]
        exact wpAny_pure ⟨rfl, GxR.keeps_refl _⟩
      · have hPv2 : its[i]? = some v := by simpa using hPv
        have hilt : i < xs.length := by
          have := (List.getElem?_eq_some_iff.mp hPv2).1
          rw [List.size_toArray] at hlen
          omega
        refine wpAny_mono (hel pins s1 I1 its rv (genEnv scope (cloFrom X.env.cells scope.names []) h3.objs.size code builtinsNs X.env) rfl rfl rfl A' E' i v s2 m2 hA hD hU hPv2 hn hm (fun b o hb e => ?_)) (fun y s3 q => ⟨⟨hilt, q.1⟩, q.2⟩) fun _ _ q => q
        have hblt := Heap.lt_size e
        refine hk b (List.mem_range.mpr ?_) (fun z => ?_) o (hhref b o (keep3 b o hb e))
        · exact old3 b o e
        · have z2 : b = s1.heap.objs.size := by simpa using z
          exact Nat.ne_of_lt hblt z2
    · intro g h5 tk5 gs hgb hag hsz5 hk5 W5 hat
      simp only [GxR.passing_true, List.length_range] at W5
      refine hQ xs pb H1 g _ hR ?_
      rw [← hlen]
      refine ⟨_, _, _, _, _, W5.in4_1, hat, ?_, fun s' hm => ?_⟩
      · intro j y sj Qj Ej hy hQj
        obtain ⟨i, hij, hlt, rfl⟩ := hy
        obtain ⟨hj, ej⟩ := List.getElem?_eq_some_iff.mp hij
        have ej2 : i = j := by simpa [GxR.passing_true] using ej.symm
        subst ej2
        exact wpAny_truthy_bool hQj
      · have nwr : ∀ b u, s1.heap.get? b = some u → b ∉ h3.objs.size :: [s1.heap.objs.size] := fun b u e hb => by
          have hl := Heap.lt_size e
          have hb2 : b = h3.objs.size ∨ b = s1.heap.objs.size := by simpa using hb
          rcases hb2 with z | z
          · exact Nat.ne_of_lt (old3 b u e) z
          · exact Nat.ne_of_lt hl z
        have J := inv_tabX (h' := s'.heap) (g' := s'.gens) (d' := s'.drawn) (t' := s'.toks) I1 hP (fun b u hb e => hm.heap b u (nwr b u e) (hk5 b u (keep3 b u hb e))) (tabIs_at ht3 fun o e => hm.heap P o (nwr P _ hPs) (hk5 P o e)) (AllBare.movedS (I1.bare.push hgb) hm)
        rw [GxR.sh_eta s1 s' hm.os] at J
        exact J
  refine ⟨hlimp, ?_⟩
  cases hf : codeAmong gpos ps.toList with
  | none =>
    refine wpAny_genexprCodeX hcode (cd.code hPp htr) (cd.tab hPp) hf fun c' h' tk hx hge hlt hco' _ htab' _ => ?_
    obtain ⟨o1, vs, f1, tf, fl, tg, inF, tx, tt, op, _, _, _, _, _, _, _, _, _, htr2, _⟩ := hco'
    exact fin _ h' tk hx (Nat.le_trans hge (Nat.le_of_lt hlt)) ⟨_, htab'.2, htr2⟩
  | some cv =>
    refine wpAny_genexprCode_hit hcode (cd.code hPp htr) hf ?_
    exact fin cv (s1.heap.push ob) s1.toks (Heap.ExtBut.refl _ _) (Nat.le_refl _) ⟨ps, hPp, htr⟩
end
/-- a def whose code object stands at c -/
structure Dc (K : PySem.W.Frag) (mg : Str → Option Value) (x : Str) (st : Stmt) (ps : List Str) (f : Addr) (fd : FuncData) (c : Addr) : Prop where
  F : Fun K x x st f fd
  g : mg x = some (.ref f)
  b : Binds K fd ps []
  cd : ∃ (oc : Value) (od : Option Addr) (kV doc pm : Value) (an : Option Addr) (ct : Value) (osl : Array (Option Value)), fd = PySem.W.fnOf x x (defArgs st) (defBody st) (defScope st) .none kV doc pm an (.ref c) ct ∧ K.lookup f = some ⟨oc, od, .func fd, osl⟩ ∧ PySem.W.codeIn K (.ref c) x = true
theorem Dc.ok {P : Program} {w : World} {K : PySem.W.Frag} {mg : Str → Option Value} {base : Heap} {x : Str} {st : Stmt} {f c : Addr} {fd : FuncData} {N ps : List Str} {k : Nat} {sp : Sp} (D : Dc K mg x st ps f fd c) (S : FnScope N ps (defScope st)) (len : ∀ vs H Q E, sp vs H Q E → vs.length = ps.length)
    (hbody : ∀ (A : Around) (outer : List Env) (s : Shared) (H : Hp) (vs : List V) (Q : VK) (E : XK), Room k (A.deeper (envOfC x (defScope st) s.heap.objs.size f (.ref c))) → sp vs H Q E →
      ∃ t, PSs (cxOf CX0 P w K mg base N x (defScope st) f (.ref c) A outer s H E).nox (defBody st) t ∧ t { nx := fun _ H' => Q .non H', rt := Q } (start N vs) H) : FnOk P w K mg base CX0 (k + 1) f fd ps sp := by
  obtain ⟨oc, od, kV, doc, pm, an, ct, osl, rfl, lk, hcd⟩ := D.cd
  refine fn_of lk hcd S len fun A outer s H vs Q E hr hsp => ?_
  obtain ⟨t, h, q⟩ := hbody A outer s H vs Q E hr hsp
  exact ⟨t, h.nox, q⟩
/-! ### defs that raise: what is raised where nothing is handled -/
structure RzD (K : PySem.W.Frag) (mg : Str → Option Value) (nm : Str) (D : Addr) : Prop where
  g : mg nm = some (.ref D)
  x : PySem.W.excIn K D [.type "ValueError", .type "Exception", .type "BaseException", .type "object"] "ValueError.__new__" = true
  kp : PySem.W.keepIn K (.ref D) = true
  b : PySem.W.subIn K (.ref D) (.type "BaseException") = some true
  t : PySem.W.typeIn K (.ref D) = some (.type "type")
theorem fun_okN {P : Program} {w : World} {K : PySem.W.Frag} {mg : Str → Option Value} {base : Heap} {x : Str} {st : Stmt} {f : Addr} {fd : FuncData} {N ps : List Str} {k : Nat} {sp : Sp} (F : Fun K x x st f fd) (S : FnScope N ps (defScope st)) (ln : ∀ vs H Q E, sp vs H Q E → vs.length = ps.length)
    (bd : ∀ (cdv : Value) (A : Around) (outer : List Env) (s : Shared) (H : Hp) (vs : List V) (Q : VK) (E : XK), Room k (A.deeper (envOfC x (defScope st) s.heap.objs.size f cdv)) → sp vs H Q E → ∃ t, PSs (cxOf (L2N.CX P w) P w K mg base N x (defScope st) f cdv A outer s H E) (defBody st) t ∧ t { nx := fun _ H' => Q .non H', rt := Q } (start N vs) H) :
    FnOk P w K mg base (L2N.CX P w) (k + 1) f fd ps sp := by
  obtain ⟨oc, od, kV, doc, pm, an, cdv, ct, osl, rfl, lk, hcd⟩ := F.ex
  exact fn_of lk hcd S ln fun A outer s H vs Q E hr h => bd cdv A outer s H vs Q E hr h
theorem PS.nox {X : Cx} {st : Stmt} {t : TS} (h : PS X.nox st t) : PS X st t := ⟨fun pins s σ H D I hw =>
  wpAny_mono (h.run pins s σ H D (I.wish _) hw) (fun _ _ q => q.unwish) fun _ _ z => False.elim z⟩
structure All (K : PySem.W.Frag) (mg : Str → Option Value) where
  B : Bt mg
  f_is_whole : Addr
  fd_is_whole : FuncData
  D_is_whole : Df K mg "is_whole" s_is_whole ["thing"] f_is_whole fd_is_whole
  f_next_number : Addr
  fd_next_number : FuncData
  D_next_number : Df K mg "next_number" s_next_number ["some"] f_next_number fd_next_number
  f_choices : Addr
  fd_choices : FuncData
  D_choices : Df K mg "choices" s_choices ["many", "size"] f_choices fd_choices
  f_paired : Addr
  fd_paired : FuncData
  D_paired : Df K mg "paired" s_paired ["chosen", "first"] f_paired fd_paired
  f_ended : Addr
  fd_ended : FuncData
  D_ended : Df K mg "ended" s_ended ["many", "deep", "head", "tail"] f_ended fd_ended
  f_low_lots : Addr
  fd_low_lots : FuncData
  D_low_lots : Df K mg "low_lots" s_low_lots ["many", "deep"] f_low_lots fd_low_lots
  f_high_lots : Addr
  fd_high_lots : FuncData
  D_high_lots : Df K mg "high_lots" s_high_lots ["many", "deep"] f_high_lots fd_high_lots
  f_is_curve : Addr
  fd_is_curve : FuncData
  D_is_curve : Df K mg "is_curve" s_is_curve ["thing"] f_is_curve fd_is_curve
  f_need_curve : Addr
  fd_need_curve : FuncData
  D_need_curve : Df K mg "need_curve" s_need_curve ["curve"] f_need_curve fd_need_curve
  f_need_covered : Addr
  fd_need_covered : FuncData
  D_need_covered : Df K mg "need_covered" s_need_covered ["curve"] f_need_covered fd_need_covered
  f_lowest : Addr
  fd_lowest : FuncData
  D_lowest : Df K mg "lowest" s_lowest ["curve"] f_lowest fd_lowest
  f_highest : Addr
  fd_highest : FuncData
  D_highest : Df K mg "highest" s_highest ["curve"] f_highest fd_highest
  f__law_box : Addr
  fd__law_box : FuncData
  D__law_box : Df K mg "_law_box" s__law_box ["_law_script", "_law_k"] f__law_box fd__law_box
  f__law_take : Addr
  fd__law_take : FuncData
  D__law_take : Df K mg "_law_take" s__law_take ["_law_box_here", "_law_many"] f__law_take fd__law_take
  f__law_classes : Addr
  fd__law_classes : FuncData
  D__law_classes : Df K mg "_law_classes" s__law_classes ["_law_e"] f__law_classes fd__law_classes
  f__law_told : Addr
  fd__law_told : FuncData
  D__law_told : Df K mg "_law_told" s__law_told ["_law_call"] f__law_told fd__law_told
  f__law_lots : Addr
  fd__law_lots : FuncData
  D__law_lots : Df K mg "_law_lots" s__law_lots ["_law_many", "_law_size"] f__law_lots fd__law_lots
  f__law_even : Addr
  fd__law_even : FuncData
  D__law_even : Df K mg "_law_even" s__law_even ["_law_many", "_law_lot"] f__law_even fd__law_even
  f__law_gapped : Addr
  fd__law_gapped : FuncData
  D__law_gapped : Df K mg "_law_gapped" s__law_gapped ["_law_many", "_law_deep"] f__law_gapped fd__law_gapped
  f__law_curve : Addr
  fd__law_curve : FuncData
  D__law_curve : Df K mg "_law_curve" s__law_curve ["_law_box_here"] f__law_curve fd__law_curve
  f__law_end : Addr
  fd__law_end : FuncData
  D__law_end : Df K mg "_law_end" s__law_end ["_law_curve_here", "_law_side"] f__law_end fd__law_end
  f__law_bad_curve : Addr
  fd__law_bad_curve : FuncData
  D__law_bad_curve : Df K mg "_law_bad_curve" s__law_bad_curve ["_law_box_here"] f__law_bad_curve fd__law_bad_curve
  t_MOST_DEEP : Tok
  c_MOST_DEEP : mg "MOST_DEEP" = some (.int 6 t_MOST_DEEP)
  t_MOST_CORNERS : Tok
  c_MOST_CORNERS : mg "MOST_CORNERS" = some (.int 9 t_MOST_CORNERS)
  t_MOST_COVERED : Tok
  c_MOST_COVERED : mg "MOST_COVERED" = some (.int 7 t_MOST_COVERED)
  t_MOST_DEEP_COVERED : Tok
  c_MOST_DEEP_COVERED : mg "MOST_DEEP_COVERED" = some (.int 4 t_MOST_DEEP_COVERED)
  C_NoCurve : Addr
  R_NoCurve : RzD K mg "NoCurve" C_NoCurve
  C_TooMany : Addr
  R_TooMany : RzD K mg "TooMany" C_TooMany
section
variable {P : Program} {w : World} {K : PySem.W.Frag} {mg : Str → Option Value} {base : Heap}
/-! ### the law's box -/
def BoxAt (H : Hp) (b : Addr) : Prop := ∃ (n : Int) (_ : Unit), H b = some (.lst [.int n])
/-- all that was tracked but b is as it was -/
def Bx (b : Addr) (H H' : Hp) : Prop := ∀ c o, c ≠ b → H c = some o → H' c = some o
theorem Bx.refl (b : Addr) (H : Hp) : Bx b H H := fun _ _ _ h => h
theorem Bx.trans {b : Addr} {H H1 H2 : Hp} (x : Bx b H H1) (y : Bx b H1 H2) : Bx b H H2 := fun c o n h => y c o n (x c o n h)
theorem bx_ex {b : Addr} {H H' : Hp} (e : Ex H H') : Bx b H H' := fun c o _ h => e c o h
theorem bx_set {b : Addr} {H H' : Hp} {o : HO} (e : Bx b H H') : Bx b H (upd H' b o) := fun c u n h => by
  rw [upd_ne n]
  exact e c u n h
theorem bx_tx {b : Addr} {H H' : Hp} {xs : List V} (e : Bx b H H') (h : H b = some (.lst xs)) : Tx H H' := fun a u r => by
  have n : a ≠ b := fun z => by
    subst z
    rcases r with r | ⟨o, r⟩ <;> (rw [h] at r; cases r)
  rcases r with r | ⟨o, r⟩
  · exact .inl (e a _ n r)
  · exact .inr ⟨o, e a _ n r⟩
theorem BoxAt.ex {H H' : Hp} {b : Addr} (e : Ex H H') (h : BoxAt H b) : BoxAt H' b := by
  obtain ⟨n, d, h⟩ := h
  exact ⟨n, d, e b _ h⟩
def spBox (K : PySem.W.Frag) : Sp := fun vs H Q _ => ∃ (a : Addr) (ns : List Int) (k : Int), vs = [.ref a, .int k] ∧ SqL K H a (ns.map V.int) ∧ 0 ≤ k ∧ k < 1000 ∧ ∀ p H2, H p = none → Ex H H2 → BoxAt H2 p → Q (.ref p) H2
theorem emod_in (x : Int) {m : Int} (h : 0 < m) : 0 ≤ x % m ∧ x % m < m := ⟨Int.emod_nonneg _ (by omega), Int.emod_lt_of_pos _ h⟩
theorem cm_r {i j : Int} (h1 : -(2 ^ 64) < j) (h2 : j < 2 ^ 64) : CMul i j := .inr ⟨h1, h2⟩
theorem cm_l {i j : Int} (h1 : -(2 ^ 64) < i) (h2 : i < 2 ^ 64) : CMul i j := .inl ⟨h1, h2⟩
theorem ev_abs {te : TE} {σ : L2.St} {H : Hp} {i : Int} (h : Ev te σ H (.int i)) : Ev (tCB (fun xs H Q => ∃ i, xs = [.int i] ∧ Q (.int (if i < 0 then -i else i)) H) (tCons te tNil)) σ H (.int (if i < 0 then -i else i)) := fun H1 e _ q =>
  h H1 e _ fun H2 e2 => ⟨i, rfl, q H2 e2⟩
def primesB : List Int := [2147483647, 2147483629, 2147483587, 2147483579, 2147483563, 2147483549, 2147483543, 2147483497]
theorem prime_at (i : Int) (h0 : 0 ≤ i) (h1 : i < 8) : ∃ p : Int, atI (primesB.map V.int) i = some (.int p) ∧ 2147483000 < p ∧ p < 2147483648 := by
  have h : i = 0 ∨ i = 1 ∨ i = 2 ∨ i = 3 ∨ i = 4 ∨ i = 5 ∨ i = 6 ∨ i = 7 := by omega
  rcases h with rfl | rfl | rfl | rfl | rfl | rfl | rfl | rfl <;> exact ⟨_, rfl, by decide, by decide⟩
theorem okk_box {f : Addr} {fd : FuncData} {k : Nat} (D : Df K mg "_law_box" s__law_box ["_law_script", "_law_k"] f fd) (B : Bt mg) : FnOk P w K mg base CX0 (k + 1) f fd ["_law_script", "_law_k"] (spBox K) := by
  refine D.F.ok sc__law_box (fun vs H Q E h => ?_) (fun cdv A outer s H vs Q E hr h => ?_)
  · obtain ⟨a, ns, k, rfl, _⟩ := h
    rfl
  · obtain ⟨a, ns, j, rfl, hS, k0, k1, q⟩ := h
    refine ⟨_, (pss_cons (ps_set (i := 2) sc__law_box.nd rfl (.inl rfl) (pe_op op_add (pe_op op_mul pe_int (pv 1)) pe_int))  (pss_cut (ps_if (pt_cmpR op_lt (pv 1) (pe_callB (show CallR _ _ (rLenS K) from call_len_seq) (by rfl) B.len_ (by decide +kernel) (pa_cons (pv 0) pa_nil)) (nomark _))   (pss_one (ps_set (i := 2) sc__law_box.nd rfl (.inl rfl) (pe_ix (show IxR _ (rIxL K) from ix_list) (pv 0) (pv 1) (fun _ _ => rfl))))   pss_nil)  (pss_cons (ps_if (pt_cmpR op_eq (pe_op op_mod (pv 2) pe_int) pe_int (nomark _))   (pss_one (ps_ret (pe_lst (pa_cons (pe_op op_fdiv (pv 2) pe_int) pa_nil))))   pss_nil)  (pss_cons (ps_set (i := 3) sc__law_box.nd rfl (.inl rfl) (pe_lst (pa_cons pe_int (pa_cons pe_int (pa_cons pe_int (pa_cons pe_int (pa_cons pe_int (pa_cons pe_int (pa_cons pe_int (pa_cons pe_int pa_nil))))))))))  (pss_cons (ps_set (i := 4) sc__law_box.nd rfl (.inl rfl) pe_int)  (pss_cons (ps_for PassesOwn.never rfl (pi_range1 (by rfl) B.range_ (pa_cons pe_int pa_nil)) (pg_name (i := 5) sc__law_box.nd rfl (.inl rfl))   (pss_cons (ps_set (i := 6) sc__law_box.nd rfl (.inl rfl) (pe_op op_mul (pe_op op_mod (pv 2) (pe_ix (show IxR _ (rIxL K) from ix_list) (pv 3) (pe_op op_mod (pv 5) pe_int) (fun _ _ => rfl))) (pe_op op_add pe_int (pe_op op_mul pe_int (pv 5)))))  (pss_cons (ps_set (i := 7) sc__law_box.nd rfl (.inl rfl) (pe_op op_mod (pe_op op_add (pe_op op_add (pv 6) (pe_op op_mul pe_int (pv 5))) pe_int) (pe_ix (show IxR _ (rIxL K) from ix_list) (pv 3) (pe_op op_mod (pe_op op_add (pv 5) pe_int) pe_int) (fun _ _ => rfl))))  (pss_cons (ps_set (i := 7) sc__law_box.nd rfl (.inl rfl) (pe_op op_mod (pe_op op_mul (pv 7) (pv 7)) (pe_ix (show IxR _ (rIxL K) from ix_list) (pv 3) (pe_op op_mod (pe_op op_add (pv 5) pe_int) pe_int) (fun _ _ => rfl))))  (pss_one (ps_set (i := 4) sc__law_box.nd rfl (.inl rfl) (pe_op op_add (pe_op op_mul (pv 4) pe_int) (pe_op op_mod (pe_op op_mul (pv 7) (pe_op op_add (pv 7) pe_int)) pe_int))))))))  (pss_one (ps_ret (pe_lst (pa_cons (pv 4) pa_nil)))))))))), ?_⟩
    refine q_asg (v := .int (7919 * j + 13)) (ev_op (ev_op ev_c (ev_var rfl) (rv_I (cm_l (by decide) (by decide)))) ev_c rv_I0) fun H1 e1 => ?_
    refine q_cut (M := fun σ' H' => ∃ h : Int, σ' = [some (.ref a), some (.int j), some (.int h), none, none, none, none, none] ∧ Ex H H') ?_ ?_
    · refine s_when (et_test (ev_op (ev_var rfl) (ev_len (ev_var rfl) (ex_l e1 hS)) rv_I0)) (fun hb H2 e2 => ?_) (fun hb H2 e2 => ⟨_, rfl, e1.trans e2⟩)
      have hlt : j < ((ns.map V.int).length : Int) := of_decide_eq_true hb
      obtain ⟨m, rfl⟩ : ∃ m : Nat, j = (m : Int) := ⟨j.toNat, by omega⟩
      have hm : m < ns.length := by rw [List.length_map] at hlt; omega
      refine s_asg (v := .int ns[m]) (ev_op (ev_var rfl) (ev_var rfl) (rv_ixL (ex_l (e1.trans e2) hS) (atI_nat ?_))) fun H3 e3 => ⟨_, rfl, (e1.trans e2).trans e3⟩
      rw [List.getElem?_map, List.getElem?_eq_getElem hm]
      rfl
    · rintro σ' H2 ⟨x, rfl, e2⟩
      refine q_when (et_test (ev_op (ev_op (ev_var rfl) ev_c (rv_I (by show (0 : Int) < 2; decide))) ev_c (rv_eq rfl))) (fun _ H3 e3 => ?_) (fun _ H3 e3 => ?_)
      · refine s_retL (el_lst (ea_cons (ev_op (ev_var rfl) ev_c (rv_I ⟨by decide, by decide⟩)) ea_nil) (by show 1 ≤ 100000; decide)) fun p H4 np e4 hp => ?_
        exact q p H4 (fresh_back (e2.trans e3) np) ((e2.trans e3).trans e4) ⟨_, (), hp⟩
      · refine q_asgL (xs := primesB.map V.int) (el_lst (ea_cons ev_c (ea_cons ev_c (ea_cons ev_c (ea_cons ev_c (ea_cons ev_c (ea_cons ev_c (ea_cons ev_c (ea_cons ev_c ea_nil)))))))) (by show 8 ≤ 100000; decide)) fun pp H4 npp e4 hpp => ?_
        refine q_asg (v := .int 0) ev_c fun H5 e5 => ?_
        refine q_forR1 (n := 24) (ea_cons ev_c ea_nil) (by decide) (fun _ σ' H' => ∃ (n : Int) (y5 y6 y7 : Option V), σ' = [some (.ref a), some (.int j), some (.int x), some (.ref pp), some (.int n), y5, y6, y7] ∧ Ex H H' ∧ H' pp = some (.lst (primesB.map V.int)))
          (fun H6 e6 => ⟨_, _, _, _, rfl, (((e2.trans e3).trans e4).trans e5).trans e6, e6 _ _ (e5 _ _ hpp)⟩) ?_ ?_
        · rintro i σ' H' hi ⟨n, y5, y6, y7, rfl, e6, hp6⟩
          obtain ⟨p1, g1, l1, u1⟩ := prime_at ((i : Int) % 8) (by omega) (by omega)
          obtain ⟨p2, g2, l2, u2⟩ := prime_at (((i : Int) + 3) % 8) (by omega) (by omega)
          obtain ⟨p3, g3, l3, u3⟩ := prime_at (((i : Int) + 5) % 8) (by omega) (by omega)
          refine q_asg (v := .int (x % p1 * (48281 + 2 * (i : Int)))) (ev_op (ev_op (ev_var rfl) (ev_op (ev_var rfl) (ev_op (ev_var rfl) ev_c (rv_I (by show (0 : Int) < 8; decide))) (rv_ixL (K := K) (sq_of hp6) g1)) (rv_I (by show (0 : Int) < p1; omega))) (ev_op ev_c (ev_op ev_c (ev_var rfl) (rv_I (cm_l (by decide) (by decide)))) rv_I0) (rv_I (cm_r (by omega) (by omega)))) fun H7 e7 => ?_
          generalize x % p1 * (48281 + 2 * (i : Int)) = y
          have m1 := emod_in (y + 7919 * (i : Int) + 1) (m := p2) (by omega)
          refine q_asg (v := .int ((y + 7919 * (i : Int) + 1) % p2)) (ev_op (ev_op (ev_op (ev_var rfl) (ev_op ev_c (ev_var rfl) (rv_I (cm_l (by decide) (by decide)))) rv_I0) ev_c rv_I0) (ev_op (ev_var rfl) (ev_op (ev_op (ev_var rfl) ev_c rv_I0) ev_c (rv_I (by show (0 : Int) < 8; decide))) (rv_ixL (K := K) (sq_of (e7 _ _ hp6)) g2)) (rv_I (by show (0 : Int) < p2; omega))) fun H8 e8 => ?_
          generalize (y + 7919 * (i : Int) + 1) % p2 = z at m1 ⊢
          have m2 := emod_in (z * z) (m := p3) (by omega)
          refine q_asg (v := .int (z * z % p3)) (ev_op (ev_op (ev_var rfl) (ev_var rfl) (rv_I (cm_l (by omega) (by omega)))) (ev_op (ev_var rfl) (ev_op (ev_op (ev_var rfl) ev_c rv_I0) ev_c (rv_I (by show (0 : Int) < 8; decide))) (rv_ixL (K := K) (sq_of (e8 _ _ (e7 _ _ hp6))) g3)) (rv_I (by show (0 : Int) < p3; omega))) fun H9 e9 => ?_
          generalize z * z % p3 = t at m2 ⊢
          refine s_asg (v := .int (n * 2147483647 + t * (t + 13) % 2147483629)) (ev_op (ev_op (ev_var rfl) ev_c (rv_I (cm_r (by decide) (by decide)))) (ev_op (ev_op (ev_var rfl) (ev_op (ev_var rfl) ev_c rv_I0) (rv_I (cm_l (by omega) (by omega)))) ev_c (rv_I (by show (0 : Int) < 2147483629; decide))) rv_I0) fun H10 e10 => ?_
          exact ⟨_, _, _, _, rfl, (((e6.trans e7).trans e8).trans e9).trans e10, e10 _ _ (e9 _ _ (e8 _ _ (e7 _ _ hp6)))⟩
        · rintro σ' H' ⟨n, y5, y6, y7, rfl, e6, hp6⟩
          refine s_retL (el_lst (ea_cons (ev_var rfl) ea_nil) (by show 1 ≤ 100000; decide)) fun p H7 np e7 hp => ?_
          exact q p H7 (fresh_back e6 np) (e6.trans e7) ⟨_, (), hp⟩
def spTake : Sp := fun vs H Q _ => ∃ (b : Addr) (wd : Int), vs = [.ref b, .int wd] ∧ BoxAt H b ∧ 0 < wd ∧ wd < 1073741824 ∧ ∀ r H2, 0 ≤ r → r < wd → BoxAt H2 b → Bx b H H2 → Q (.int r) H2
theorem okk_take {f : Addr} {fd : FuncData} {k : Nat} (D : Df K mg "_law_take" s__law_take ["_law_box_here", "_law_many"] f fd) (B : Bt mg) : FnOk P w K mg base CX0 (k + 1) f fd ["_law_box_here", "_law_many"] spTake := by
  refine D.F.ok sc__law_take (fun vs H Q E h => ?_) (fun cdv A outer s H vs Q E hr h => ?_)
  · obtain ⟨b, n, rfl, _⟩ := h
    rfl
  · obtain ⟨b, wd, rfl, ⟨n, _, hb'⟩, w0, w1, q⟩ := h
    refine ⟨_, (pss_cons (ps_asg (pe_callB call_divmod (by rfl) B.divmod_ (by decide +kernel) (pa_cons (pe_ix (show IxR _ (rIxL K) from ix_list) (pv 0) pe_int (fun _ _ => rfl)) (pa_cons (pv 1) pa_nil))) (pg_tup (by rfl) (pgs_cons (pg_name (i := 2) sc__law_take.nd rfl (.inl rfl)) (pgs_cons (pg_name (i := 3) sc__law_take.nd rfl (.inl rfl)) pgs_nil))))  (pss_cons (ps_asg (pv 2) (pg_sub (pv 0) pe_int set_list))  (pss_one (ps_ret (pv 3))))), ?_⟩
    refine ⟨_, rfl, b, _, 0, .int n, rfl, rfl, sq_of hb', rfl, _, rfl, n, wd, rfl, ⟨w0, w1⟩, fun p hp => ?_⟩
    have nb : b ≠ p := ne_of_none hb' hp
    refine ⟨p, _, rfl, st_of upd_same, rfl, _, _, rfl, _, _, rfl, rfl, ?_⟩
    refine ⟨_, rfl, _, rfl, b, _, 0, 0, rfl, rfl, (by rw [upd_ne nb]; exact hb'), rfl, ?_⟩
    refine ⟨_, rfl, ?_⟩
    have m1 := emod_in n w0
    exact q _ _ m1.1 m1.2 ⟨_, (), upd_same⟩ (bx_set (bx_ex (Ex.new hp)))
end
/-! ### what changes the box alone -/
structure Bk (b : Addr) (H H' : Hp) : Prop where
  bx : Bx b H H'
  tx : Tx H H'
theorem Bk.trans {b : Addr} {H H1 H2 : Hp} (x : Bk b H H1) (y : Bk b H1 H2) : Bk b H H2 := ⟨x.bx.trans y.bx, x.tx.trans y.tx⟩
theorem bk_ex {b : Addr} {H H' : Hp} (e : Ex H H') : Bk b H H' := ⟨bx_ex e, tx_of e⟩
theorem Bk.refl (b : Addr) (H : Hp) : Bk b H H := bk_ex (Ex.refl H)
theorem bk_of {b : Addr} {H H' : Hp} (h : BoxAt H b) (x : Bx b H H') : Bk b H H' := by
  obtain ⟨_, _, h⟩ := h
  exact ⟨x, bx_tx x h⟩
theorem ex_bx {b : Addr} {Hs H H' : Hp} (e : Ex Hs H) (x : Bk b H H') (n : Hs b = none) : Ex Hs H' := fun c o h => x.bx c o (ne_of_none h n) (e c o h)
theorem box_ne {H : Hp} {p b : Addr} (hb : BoxAt H b) (n : H p = none) : p ≠ b := by
  obtain ⟨_, _, hb⟩ := hb
  exact ne_free hb n
def EvK (K : PySem.W.Frag) (b : Addr) (te : TE) (σ : L2.St) (H : Hp) (p : PyData → Prop) : Prop := ∀ Q : VK, (∀ v d H2, p d → Dt K H2 v d → BoxAt H2 b → Bk b H H2 → Q v H2) → te σ H Q
section
variable {K : PySem.W.Frag} {b : Addr} {σ : L2.St} {H H' : Hp} {ta tb te tl : TE} {p p' : PyData → Prop} {d : PyData} {ds : List PyData} {D : Ends} {tz tu : TS} {i : Nat}
theorem ek_of (h : EvD K te σ H d) (hb : BoxAt H b) : EvK K b te σ H (fun e => e = d) := fun Q q => h H (Ex.refl H) Q fun v H2 e2 hv => q v d H2 rfl hv (hb.ex e2) (bk_ex e2)
theorem ek_mono (h : EvK K b te σ H p) (hp : ∀ d, p d → p' d) : EvK K b te σ H p' := fun Q q => h Q fun v d H2 h1 => q v d H2 (hp d h1)
theorem ek_take {j : Nat} {wd : Int} {E : XK} (hj : σ[j]? = some (some (.ref b))) (hb : BoxAt H b) (hw : Ev ta σ H (.int wd)) (w0 : 0 < wd) (w1 : wd < 1073741824) : EvK K b (tCall spTake [] E (tCons (tVar j) (tCons ta tNil))) σ H (fun d => ∃ r, d = .int r ∧ 0 ≤ r ∧ r < wd) := fun Q q =>
  ⟨_, hj, hw H (Ex.refl H) _ fun H2 e2 => ⟨b, wd, rfl, hb.ex e2, w0, w1, fun r H3 r0 r1 hb3 x3 => q _ (.int r) H3 ⟨r, rfl, r0, r1⟩ (.int r) hb3 ((bk_ex e2).trans (bk_of (hb.ex e2) x3))⟩⟩
/-- [..][take] -/
theorem ek_menu (hl : EvF K tl σ H ds) (hb : BoxAt H b) (hi : ∀ H', Ex H H' → BoxAt H' b → EvK K b ta σ H' (fun d => ∃ r : Int, d = .int r ∧ 0 ≤ r ∧ r < (ds.length : Int))) : EvK K b (tOp (rIxL K) tl ta) σ H (fun d => d ∈ ds) := fun Q q =>
  hl H (Ex.refl H) _ fun p xs H1 np e1 hp hx => hi H1 e1 (hb.ex e1) _ fun v d H2 hr hv hb2 x2 => by
    obtain ⟨r, rfl, r0, r1⟩ := hr
    cases hv
    obtain ⟨m, rfl⟩ : ∃ m : Nat, r = (m : Int) := ⟨r.toNat, by omega⟩
    have hm : m < ds.length := by omega
    obtain ⟨w, hw, hd⟩ := dta_get' (dta_tx x2.tx hx) (List.getElem?_eq_getElem hm)
    exact ⟨p, xs, (m : Int), w, rfl, rfl, sq_of (x2.bx p _ (box_ne hb np) hp), atI_nat hw, q w _ H2 (List.getElem_mem hm) hd hb2 ((bk_ex e1).trans x2)⟩
/-- i op take -/
theorem ek_opI {f : Int → Int → Int} {x : Int} {pr : Int → Prop} (ha : Ev ta σ H (.int x)) (hb : ∀ H', Ex H H' → EvK K b tb σ H' (fun d => ∃ r, d = .int r ∧ pr r)) : EvK K b (tOp (rI0 fun i j => .int (f i j)) ta tb) σ H (fun d => ∃ r, d = .int (f x r) ∧ pr r) := fun Q q =>
  ha H (Ex.refl H) _ fun H2 e2 => hb H2 e2 _ fun v d H3 hr hv hb3 x3 => by
    obtain ⟨r, rfl, hr⟩ := hr
    cases hv
    exact ⟨x, r, rfl, rfl, q _ _ H3 ⟨r, rfl, hr⟩ (.int _) hb3 ((bk_ex e2).trans x3)⟩
theorem q_asgK (h : EvK K b te σ H p) (k : ∀ v d H2, p d → Dt K H2 v d → BoxAt H2 b → Bk b H H2 → tz D (σ.set i (some v)) H2) : tSeq (tAsg te (gName i)) tz D σ H := h _ k
theorem s_asgK (h : EvK K b te σ H p) (k : ∀ v d H2, p d → Dt K H2 v d → BoxAt H2 b → Bk b H H2 → D.nx (σ.set i (some v)) H2) : tAsg te (gName i) D σ H := h _ k
/-- a box made -/
theorem q_box {a : Addr} {ns : List Int} {x : Int} {E : XK} (ha : Ev ta σ H (.ref a)) (hS : SqL K H a (ns.map V.int)) (hk : Ev tb σ H (.int x)) (x0 : 0 ≤ x) (x1 : x < 1000) (h : ∀ p H2, H p = none → Ex H H2 → BoxAt H2 p → tz D (σ.set i (some (.ref p))) H2) : tSeq (tAsg (tCall (spBox K) [] E (tCons ta (tCons tb tNil))) (gName i)) tz D σ H :=
  ha H (Ex.refl H) _ fun H1 e1 => hk H1 e1 _ fun H2 e2 => ⟨a, ns, x, rfl, ex_l (e1.trans e2) hS, x0, x1, fun p H3 np e3 hb => h p H3 (fresh_back (e1.trans e2) np) ((e1.trans e2).trans e3) hb⟩
/-! loops over a list made on the way -/
/-- nothing changes but new things -/
theorem s_forF {g : TG} (h : EvF K tl σ H ds) (Pv : Nat → L2.St → Hp → Prop) (h0 : ∀ H1, Ex H H1 → Pv 0 σ H1)
    (hs : ∀ H1 i x d σ' H', Ex H H1 → Ex H1 H' → ds[i]? = some d → Dt K H' x d → Pv i σ' H' → g x σ' H' fun σ2 H2 => tu { D with nx := fun σ3 H3 => Ex H1 H3 ∧ Pv (i + 1) σ3 H3, ct := fun σ3 H3 => Ex H1 H3 ∧ Pv (i + 1) σ3 H3, bk := D.nx } σ2 H2)
    (hd : ∀ σ' H', Ex H H' → Pv ds.length σ' H' → D.nx σ' H') : tFor (iList K tl) g tu D σ H :=
  h H (Ex.refl H) _ fun p xs H1 np e1 hp hx => ⟨p, rfl, ⟨xs, sq_of hp⟩, for_list (xs := xs) (fun i σ' H' => Ex H1 H' ∧ Pv i σ' H') ⟨Ex.refl _, h0 H1 e1⟩ (fun i σ' H' _ hw => sq_of (hw.1 p _ hp)) (fun i x σ' H' hi hw => by
      obtain ⟨d, h1, h2⟩ := dta_get (dta_ex hw.1 hx) hi
      exact hs H1 i x d σ' H' e1 hw.1 h1 h2 hw.2) (fun σ' H' hw => hd σ' H' (e1.trans hw.1) (by rw [← dta_len hx]; exact hw.2))⟩
theorem q_forF {g : TG} (h : EvF K tl σ H ds) (Pv : Nat → L2.St → Hp → Prop) (h0 : ∀ H1, Ex H H1 → Pv 0 σ H1)
    (hs : ∀ H1 i x d σ' H', Ex H H1 → Ex H1 H' → ds[i]? = some d → Dt K H' x d → Pv i σ' H' → g x σ' H' fun σ2 H2 => tu { D with nx := fun σ3 H3 => Ex H1 H3 ∧ Pv (i + 1) σ3 H3, ct := fun σ3 H3 => Ex H1 H3 ∧ Pv (i + 1) σ3 H3, bk := tz D } σ2 H2)
    (hd : ∀ σ' H', Ex H H' → Pv ds.length σ' H' → tz D σ' H') : tSeq (tFor (iList K tl) g tu) tz D σ H := s_forF (D := { D with nx := tz D }) h Pv h0 hs hd
/-- the box changes, too -/
theorem s_forFB {g : TG} (h : EvF K tl σ H ds) (hb : BoxAt H b) (Pv : Nat → L2.St → Hp → Prop) (h0 : ∀ H1, Ex H H1 → Pv 0 σ H1)
    (hs : ∀ H1 i x d σ' H', Ex H H1 → Bk b H1 H' → BoxAt H' b → ds[i]? = some d → Dt K H' x d → Pv i σ' H' → g x σ' H' fun σ2 H2 => tu { D with nx := fun σ3 H3 => Bk b H1 H3 ∧ BoxAt H3 b ∧ Pv (i + 1) σ3 H3, ct := fun σ3 H3 => Bk b H1 H3 ∧ BoxAt H3 b ∧ Pv (i + 1) σ3 H3, bk := D.nx } σ2 H2)
    (hd : ∀ σ' H', Bk b H H' → BoxAt H' b → Pv ds.length σ' H' → D.nx σ' H') : tFor (iList K tl) g tu D σ H :=
  h H (Ex.refl H) _ fun p xs H1 np e1 hp hx => ⟨p, rfl, ⟨xs, sq_of hp⟩, for_list (xs := xs) (fun i σ' H' => Bk b H1 H' ∧ BoxAt H' b ∧ Pv i σ' H') ⟨Bk.refl _ _, hb.ex e1, h0 H1 e1⟩ (fun i σ' H' _ hw => sq_of (hw.1.bx p _ (box_ne hb np) hp)) (fun i x σ' H' hi hw => by
      obtain ⟨d, h1, h2⟩ := dta_get (dta_tx hw.1.tx hx) hi
      exact hs H1 i x d σ' H' e1 hw.1 hw.2.1 h1 h2 hw.2.2) (fun σ' H' hw => hd σ' H' ((bk_ex e1).trans hw.1) hw.2.1 (by rw [← dta_len hx]; exact hw.2.2))⟩
theorem q_forFB {g : TG} (h : EvF K tl σ H ds) (hb : BoxAt H b) (Pv : Nat → L2.St → Hp → Prop) (h0 : ∀ H1, Ex H H1 → Pv 0 σ H1)
    (hs : ∀ H1 i x d σ' H', Ex H H1 → Bk b H1 H' → BoxAt H' b → ds[i]? = some d → Dt K H' x d → Pv i σ' H' → g x σ' H' fun σ2 H2 => tu { D with nx := fun σ3 H3 => Bk b H1 H3 ∧ BoxAt H3 b ∧ Pv (i + 1) σ3 H3, ct := fun σ3 H3 => Bk b H1 H3 ∧ BoxAt H3 b ∧ Pv (i + 1) σ3 H3, bk := tz D } σ2 H2)
    (hd : ∀ σ' H', Bk b H H' → BoxAt H' b → Pv ds.length σ' H' → tz D σ' H') : tSeq (tFor (iList K tl) g tu) tz D σ H := s_forFB (D := { D with nx := tz D }) h hb Pv h0 hs hd
/-- how many cells are read -/
theorem ev_cells {a : Addr} {ns : List Int} {c : Int} (h : Ev ta σ H (.ref a)) (hS : SqL K H a (ns.map V.int)) (c0 : 1 ≤ c) : ∃ n : Int, 1 ≤ n ∧ n ≤ c ∧ Ev (tCB rMax2 (tCons (tC (.int 1)) (tCons (tCB (fun xs H Q => ∃ i j, xs = [.int i, .int j] ∧ Q (.int (if j < i then j else i)) H) (tCons (tCB (rLenS K) (tCons ta tNil)) (tCons (tC (.int c)) tNil))) tNil))) σ H (.int n) := by
  refine ⟨_, ?_, ?_, ev_max2 ev_c (ev_min2 (ev_len h hS) ev_c)⟩
  · split <;> split <;> omega
  · split <;> split <;> omega
end
def spLaw (K : PySem.W.Frag) : Sp := fun vs H Q _ => ∃ (a : Addr) (ns : List Int), vs = [.ref a] ∧ SqL K H a (ns.map V.int) ∧ ns.length ≤ 63 ∧ ∀ H', Q (.bl true) H'
def curveD (m d : Int) : PyData := .tuple [.int m, .int d]
def unint : PyData → Int
  | .int i => i
  | _ => 0
def unlot : PyData → List Int
  | .tuple ds => ds.map unint
  | _ => []
theorem unlot_lot (l : List Int) : unlot (lotD l) = l := by
  show (l.map PyData.int).map unint = l
  rw [List.map_map]
  exact List.map_id' l
theorem dec_int (a b : Int) : decide (V.int a = V.int b) = decide (a = b) := by
  by_cases h : a = b
  · subst h
    simp
  · rw [decide_eq_false h, decide_eq_false (fun z => h (V.int.inj z))]
theorem cut_take (xs : List V) (i : Nat) (hi : i ≤ xs.length) : cutV xs none (some (i : Int)) = xs.take i := by
  unfold cutV
  rw [HT.sIx_none, show HT.sIx xs.length xs.length (some (i : Int)) = min i xs.length from HT.sIx_nat xs.length xs.length i, Nat.min_eq_left hi]
  rfl
theorem filt_len {l : List Int} {f : PyData → Bool} {g : Int → Bool} {h : PyData → PyData} (e : ∀ c, f (.int c) = g c) : (((l.map PyData.int).filter f).map h).length = (l.filter g).length := by
  rw [List.length_map, List.filter_map, List.length_map]
  have : (f ∘ PyData.int) = g := funext e
  rw [this]
theorem mem_ints {l : List Int} {d : PyData} (h : d ∈ l.map PyData.int) : ∃ c, c ∈ l ∧ d = .int c := by
  obtain ⟨c, h1, h2⟩ := List.mem_map.mp h
  exact ⟨c, h1, h2.symm⟩
theorem mem_lots {ls : List (List Int)} {d : PyData} (h : d ∈ ls.map lotD) : ∃ l, l ∈ ls ∧ d = lotD l := by
  obtain ⟨c, h1, h2⟩ := List.mem_map.mp h
  exact ⟨c, h1, h2.symm⟩
theorem filt_lots {ls : List (List Int)} {f : PyData → Bool} {g : List Int → Bool} (e : ∀ l, f (lotD l) = g l) : ((ls.map lotD).filter f).map (fun d => d) = (ls.filter g).map lotD := by
  rw [List.map_id', List.filter_map]
  have : (f ∘ lotD) = g := funext e
  rw [this]
theorem filt_ints {ls : List Int} {f : PyData → Bool} {g : Int → Bool} (e : ∀ l, f (.int l) = g l) : ((ls.map PyData.int).filter f).map (fun d => d) = (ls.filter g).map PyData.int := by
  rw [List.map_id', List.filter_map]
  have : (f ∘ PyData.int) = g := funext e
  rw [this]
/-! ### all lots of so many corners, and panes, as the law tells them -/
def lotsL (m : Int) : Nat → List (List Int)
  | 0 => [[]]
  | s + 1 => (lotsL m s).flatMap fun l => (upTo (l.getLast?.getD (-1) + 1) m).map fun c => l ++ [c]
def lotsGood : Bool := (List.range 10).all fun m => (List.range 10).all fun s => decide ((lotsL (m : Int) s).length ≤ 200) && (lotsL (m : Int) s).all fun l => l.all fun x => decide (0 ≤ x) && decide (x < 10)
theorem lots_good : lotsGood = true := by decide +kernel
theorem lots_len {m : Int} {s : Nat} (h0 : 0 ≤ m) (h1 : m < 10) (h2 : s < 10) : (lotsL m s).length ≤ 200 := by
  have h := lots_good
  unfold lotsGood at h
  rw [List.all_eq_true] at h
  have h := h m.toNat (List.mem_range.mpr (by omega))
  rw [List.all_eq_true] at h
  have h := h s (List.mem_range.mpr h2)
  rw [Bool.and_eq_true, Int.toNat_of_nonneg h0] at h
  exact of_decide_eq_true h.1
theorem lots_in {m : Int} {s : Nat} (h0 : 0 ≤ m) (h1 : m < 10) (h2 : s < 10) {l : List Int} (hl : l ∈ lotsL m s) {x : Int} (hx : x ∈ l) : 0 ≤ x ∧ x < 10 := by
  have h := lots_good
  unfold lotsGood at h
  rw [List.all_eq_true] at h
  have h := h m.toNat (List.mem_range.mpr (by omega))
  rw [List.all_eq_true] at h
  have h := h s (List.mem_range.mpr h2)
  rw [Bool.and_eq_true, Int.toNat_of_nonneg h0] at h
  have h := h.2
  rw [List.all_eq_true] at h
  have h := h l hl
  rw [List.all_eq_true] at h
  have h := h x hx
  rw [Bool.and_eq_true] at h
  exact ⟨of_decide_eq_true h.1, of_decide_eq_true h.2⟩
theorem flat_take {α β : Type} (f : α → List β) (l : List α) (i : Nat) : ((l.take i).flatMap f).length ≤ (l.flatMap f).length := by
  have e : l.flatMap f = (l.take i).flatMap f ++ (l.drop i).flatMap f := by
    rw [← List.flatMap_append, List.take_append_drop]
  rw [e, List.length_append]
  omega
theorem flat_succ {α β : Type} {f : α → List β} {l : List α} {i : Nat} {a : α} (h : l[i]? = some a) : (l.take (i + 1)).flatMap f = (l.take i).flatMap f ++ f a := by
  rw [List.take_add_one, h, List.flatMap_append]
  simp
theorem lots_sz {m : Int} : ∀ {s : Nat} {l : List Int}, l ∈ lotsL m s → l.length = s := by
  intro s
  induction s with
  | zero => intro l h; simp [lotsL] at h; rw [h]; rfl
  | succ s ih =>
    intro l h
    simp only [lotsL, List.mem_flatMap, List.mem_map] at h
    obtain ⟨a, ha, c, _, rfl⟩ := h
    rw [List.length_append, ih ha]; rfl
theorem ty_int_inv {K : PySem.W.Frag} {H : Hp} {x : V} {t : String} (ty : TyX K H x (.type t)) (h : t = "int") : ∃ i, x = .int i := by
  cases ty with
  | base b => cases b <;> first | exact ⟨_, rfl⟩ | exact absurd h (by decide)
  | _ => exact absurd h (by decide)
theorem ty_of_int {K : PySem.W.Frag} {H : Hp} {i : Int} {t : String} (ty : TyX K H (.int i) (.type t)) : t = "int" := by
  cases ty with
  | base b => cases b; rfl
def tyNames : List String := ["NoneType", "bool", "int", "str", "list", "tuple", "dict"]
def tyGood : Bool := tyNames.all fun t => match kitB t "int", kitB t "bool" with
  | some a, some b => (a && !b) == (t == "int")
  | _, _ => false
theorem ty_good : tyGood = true := by decide +kernel
theorem ty_ib {t : String} (h : t ∈ tyNames) : ∃ a b, kitB t "int" = some a ∧ kitB t "bool" = some b ∧ (a && !b) = (t == "int") := by
  have h2 := ty_good
  unfold tyGood at h2
  rw [List.all_eq_true] at h2
  have h3 := h2 t h
  cases h4 : kitB t "int" with
  | none => rw [h4] at h3; cases h3
  | some a =>
    cases h5 : kitB t "bool" with
    | none => rw [h4, h5] at h3; cases h3
    | some b =>
      rw [h4, h5] at h3
      exact ⟨a, b, rfl, rfl, eq_of_beq h3⟩
section
variable {P : Program} {w : World} {K : PySem.W.Frag} {mg : Str → Option Value} {base : Heap}
def spWhole (K : PySem.W.Frag) : Sp := fun vs H Q _ => ∃ (v : V) (t : String), vs = [v] ∧ t ∈ tyNames ∧ (∀ H1, Ex H H1 → TyX K H1 v (.type t)) ∧ ∀ H2, Ex H H2 → Q (.bl (t == "int")) H2
theorem ev_whole {σ : L2.St} {H : Hp} {te : TE} {v : V} {t : String} {E : XK} (h : Ev te σ H v) (ht : t ∈ tyNames) (hx : ∀ H1, Ex H H1 → TyX K H1 v (.type t)) : Ev (tCall (spWhole K) [] E (tCons te tNil)) σ H (.bl (t == "int")) := fun H1 e Q q =>
  h H1 e _ fun H2 e2 => ⟨v, t, rfl, ht, fun H3 e3 => hx H3 ((e.trans e2).trans e3), fun H3 e3 => q H3 (e2.trans e3)⟩
theorem okk_is_whole {f : Addr} {fd : FuncData} {k : Nat} (D : Df K mg "is_whole" s_is_whole ["thing"] f fd) (B : Bt mg) : FnOk P w K mg base CX0 (k + 1) f fd ["thing"] (spWhole K) := by
  refine D.F.ok sc_is_whole (fun vs H Q E h => ?_) (fun cdv A outer s H vs Q E hr h => ?_)
  · obtain ⟨v, t, rfl, _⟩ := h
    rfl
  · obtain ⟨v, t, rfl, ht, hx, q⟩ := h
    refine ⟨_, (pss_one (ps_ret (pe_and (pe_callB (show CallR _ _ (rIsi K) from call_isi) (by rfl) B.isinstance_ (by decide +kernel) (pa_cons (pv 0) (pa_cons (pe_bltn (v := .ty "int") (by rfl) B.int_ (by decide +kernel) rfl) pa_nil))) (pe_one (pe_not (pe_callB (show CallR _ _ (rIsi K) from call_isi) (by rfl) B.isinstance_ (by decide +kernel) (pa_cons (pv 0) (pa_cons (pe_bltn (v := .ty "bool") (by rfl) B.bool_ (by decide +kernel) rfl) pa_nil)))))))), ?_⟩
    obtain ⟨a, b, ha, hb, hab⟩ := ty_ib ht
    refine s_ret (ev_andV (ev_isi (ev_var rfl) ev_c hx ha) (fun _ => ev_notV (ev_isi (ev_var rfl) ev_c hx hb))) fun H1 e1 => ?_
    rw [hab]
    exact q H1 e1
theorem ev_wholeI {σ : L2.St} {H : Hp} {te : TE} {i : Int} {E : XK} (h : Ev te σ H (.int i)) : Ev (tCall (spWhole K) [] E (tCons te tNil)) σ H (.bl true) := ev_whole h (by decide) ty_int
end
theorem tyes_go' {σ : L2.St} {H : Hp} {F G : Hp → Prop} (h : F H) : tYes σ H fun b H3 => if b = true then F H3 else G H3 := by
  show (if true = true then F H else G H)
  exact iteT h
/-! ### enumerate(tuple) -/
set_option maxHeartbeats 1000000 in
theorem meets_enum_new1 {v : Value} {o : Obj} {H : Heap → Prop} (B : Begins v o H) :
    Meets (Builtin.«enumerate.__new__» ⟨[.type "enumerate", v], []⟩) (fun _ R s => H s.heap ∧
      R (.ok (.ret (.ref (s.heap.push o).objs.size))) { s with heap := (s.heap.push o).push { cls := .type "enumerate", data := .fields #[.none, .bool false, .ref s.heap.objs.size, rawInt 0, .none, .none] } }) :=
  .of_wp fun prog w A R s h => by
    obtain ⟨hp, g, d, tk, os⟩ := s; obtain ⟨h1, h⟩ := h
    have hsub := sub_enumerate
    have q1 : ∀ {A' : Around} {E : Value → Shared → Prop} {Q : Value → Shared → Prop}, Q (.ref hp.objs.size) ⟨hp.push o, g, d, tk, os⟩ → wpAny (model prog w) A' (pyIter v) Q E ⟨hp, g, d, tk, os⟩ :=
      fun q => B.iter prog w _ _ ⟨hp, g, d, tk, os⟩ _ h1 q
    wp_walk using q1
    refine wpAny_stack_any fun st => wpAny_pure ?_
    split
    · rename_i c _ _ _ _ _
      cases (c == Value.type "enumerate")
      · wp_walk using q1
        exact ⟨_, rfl, h⟩
      · wp_walk using q1
        exact ⟨_, rfl, h⟩
    · wp_walk using q1
      exact ⟨_, rfl, h⟩
theorem call_enum_tuple {prog : Program} {w : World} {A : Around} {E : Value → Shared → Prop} {s : Shared} {l : Addr} {items : Array Value} {Q : Value → Shared → Prop} (hL : s.heap.IsTuple l items)
    (h : ∀ h', IsEnum h' (s.heap.objs.size + 1) s.heap.objs.size 0 .none → h'.IsTupleIter s.heap.objs.size l 0 → h'.objs.size = s.heap.objs.size + 2 →
      (∀ b o, s.heap.get? b = some o → h'.get? b = some o) → Q (.ref (s.heap.objs.size + 1)) { s with heap := h' }) :
    wpAny (model prog w) A (call (.type "enumerate") [.ref l]) Q E s := by
  refine callType_new F.called_enumerate (by decide) (F.typeCall_enumerate_1 _) (F.newCall_enumerate_1 _) (fun obj => F.args_object_init_2 obj _) F.entry_enumerate_new
    (meets_enum_new1 (begins_tuple l items)) ⟨hL, ?_⟩
  have hz : (s.heap.push { cls := .type "tuple_iterator", data := .fields #[.ref l, .int 0 0] }).objs.size = s.heap.objs.size + 1 := Heap.size_push ..
  show _ ∧ _
  rw [hz]
  have he : IsEnum ((s.heap.push { cls := .type "tuple_iterator", data := .fields #[.ref l, .int 0 0] }).push
      { cls := .type "enumerate", data := .fields #[.none, .bool false, .ref s.heap.objs.size, rawInt 0, .none, .none] }) (s.heap.objs.size + 1) s.heap.objs.size 0 .none := by
    have := Heap.get?_push_size (s.heap.push { cls := .type "tuple_iterator", data := .fields #[.ref l, .int 0 0] })
      (o := { cls := .type "enumerate", data := .fields #[.none, .bool false, .ref s.heap.objs.size, rawInt 0, .none, .none] }) rfl
    rw [hz] at this; exact this
  refine ⟨⟨_, he, rfl⟩, h _ he ⟨_, Heap.get?_push_of_some _ (Heap.get?_push_size _ rfl), rfl, rfl⟩ (by rw [Heap.size_push, hz]) fun b o x => Heap.get?_push_of_some _ (Heap.get?_push_of_some _ x)⟩
def ItU (K : PySem.W.Frag) (a : Addr) : It :=
  ⟨fun i H => ∃ (xs : List V) (x : V), SqT K H a xs ∧ xs[i]? = some x, fun i H v H' => ∃ T x, v = .ref T ∧ H T = none ∧ H' = upd H T (.tup [.int (i : Nat), x]) ∧ ∀ xs, SqT K H a xs → xs[i]? = some x, fun i H => ∃ xs : List V, SqT K H a xs ∧ xs.length ≤ i⟩
theorem turn_enumT {P : Program} {w : World} {K : PySem.W.Frag} {elts : List Expr} {kk : Nat} {tpos : Pos} (a e it : Addr) :
    Turn P w K (.Tuple elts kk tpos) (ItU K a) [e, it] e (fun i h => (∃ old, IsEnum h e it ((i : Nat) : Int) old) ∧ h.IsTupleIter it a i ∧ e ≠ it) where
  mem := by simp
  obj := fun i h st b hb => by
    obtain ⟨⟨old, he⟩, ⟨o, ho, hc, hd⟩, _⟩ := st
    have e' : b = e ∨ b = it := by simpa using hb
    rcases e' with z | z
    · rw [z]; exact ⟨_, he, fun v q => nomatch q⟩
    · rw [z]; exact ⟨o, ho, fun v q => by rw [hd] at q; cases q⟩
  keep := fun i h h' st k => let ⟨⟨old, he⟩, hi, hne⟩ := st; ⟨⟨old, k e (by simp) _ he⟩, hi.at fun o q => k it (by simp) o q, hne⟩
  item := by
    intro X hP hw hK hc i pins s σ H E I hf st hg
    subst hP hw hK
    obtain ⟨⟨old, he⟩, hit, hne⟩ := st
    obtain ⟨xs, x, hq, hx⟩ := hg
    obtain ⟨its, rv, p, hz⟩ := I.tuple hq
    obtain ⟨u, hu, ru⟩ := rv.get hx
    have hel : e < s.heap.objs.size := Heap.lt_size he
    have hil : it < s.heap.objs.size := by obtain ⟨_, q, _⟩ := hit; exact Heap.lt_size q
    have hai : a ≠ it := fun z => by
      subst z
      obtain ⟨_, q, c1, _⟩ := hit
      obtain ⟨_, q2, c2, _⟩ := p
      rw [q] at q2
      cases q2
      rw [c1] at c2
      exact absurd (Value.type.inj c2) (by decide)
    have hae : a ≠ e := fun z => by
      subst z
      obtain ⟨_, q2, c2, _⟩ := p
      have he' := he
      unfold IsEnum at he'
      rw [he'] at q2
      cases q2
      exact absurd (Value.type.inj c2) (by decide)
    have hlt : i < its.toArray.size := by
      have h1 : its[i]? = some u := hu
      have := (List.getElem?_eq_some_iff.mp h1).1
      simpa using this
    have hd0 : X.A.in1.handled = none := I.ok.hd hc
    refine wpAny_pyNext_enum_itemD (Draws.tuple hd0 it a hai its.toArray) he ⟨hit, p⟩ hlt hne (by simp [hne, Ne.symm hae]) fun u' h' tk hp' ho hst' hT hsz hk => ?_
    have eu : u' = u := by
      have h1 : its[i]? = some u := hu
      have h2 : its.toArray[i]? = some u' := hp'
      rw [List.getElem?_toArray, h1] at h2
      exact (Option.some.inj h2).symm
    subst eu
    refine ⟨_, rfl, wpAny_letOwnedTupleGo_enum (s := { s with heap := h', toks := tk + 1 }) ho fun h'' he' sb => ?_⟩
    have hT2 : h''.get? s.heap.objs.size = some { cls := .type "tuple", data := .seq #[.int i tk, u'] } := (sb.2 _ (Nat.ne_of_gt hel)).trans hT
    have new : ObjOk X.prog X.w (upd H s.heap.objs.size (.tup [.int (i : Nat), x])) h'' s.heap.objs.size (.tup [.int (i : Nat), x]) :=
      ⟨by show 2 ≤ sizeLine; decide, [.int i tk, u'], .cons ⟨_, rfl⟩ (.cons ru .nil), ⟨_, hT2, rfl, _, rfl⟩⟩
    have I1 : Inv X pins σ (upd H s.heap.objs.size (.tup [.int (i : Nat), x])) { s with heap := h'', toks := tk + 1 } :=
      I.turnedNew (ch := [e, it]) (fun b ob hb q => (sb.2 b (fun z => hb (by simp [z]))).trans (hk b ob (fun z => hb (by simp [z])) (fun z => hb (by simp [z])) q)) hf (Nat.le_refl _) new
    refine ⟨.ref s.heap.objs.size, _, I1, rfl, ⟨_, x, rfl, I.hok.fresh (Nat.le_refl _), rfl, fun ys hy => by rw [I.tuple_inj hy hq]; exact hx⟩, ⟨⟨u', ?_⟩, hst'.1.at fun o q => (sb.2 it (Ne.symm hne)).trans q, hne⟩, fun b hb => ?_⟩
    · have e1 : ((i + 1 : Nat) : Int) = (i : Int) + 1 := by omega
      rw [e1]; exact he'
    · have hb' : b < s.heap.objs.size := by
        have e' : b = e ∨ b = it := by simpa using hb
        rcases e' with z | z
        · rw [z]; exact hel
        · rw [z]; exact hil
      rw [upd_ne (Nat.ne_of_lt hb')]
      exact (hf b hb).1
  done := by
    intro X hP hw hK hc i pins s σ H E I hf st hg
    subst hP hw hK
    obtain ⟨⟨old, he⟩, hit, hne⟩ := st
    obtain ⟨xs, hq, hx⟩ := hg
    obtain ⟨its, rv, p, hz⟩ := I.tuple hq
    obtain ⟨f0, f1, f2, f3, f4, f5⟩ := hf it (by simp)
    have hl := rv.length
    have hd0 : X.A.in1.handled = none := I.ok.hd hc
    have hT : s.TypeIs (.ref e) "enumerate" := ⟨_, he, rfl⟩
    unfold pyNext
    refine wpAny_bind (wpAny_attempt (wpAny_callSpecial?_slot (name := Str.ofString "__next__") hT F.slot_enumerate_next
      (wpAny_call_entry F.slot_enumerate_next hT F.entry_enumerate_next ?_ (F.args_enumerate_next_1 _))))
    show wpAny _ _ (field (.ref e) 2 >>= _) _ _ _
    refine wpAny_bind (wpAny_field he rfl (x := .ref it) rfl ?_)
    refine wpAny_bind (wpAny_nextOf_tuple_end hd0 hit p (by simp; omega) fun h' x he' hx' => ?_)
    obtain ⟨o, ho, hc⟩ := hx'
    refine wpAny_bind (wpAny_isInstance (T := "StopIteration") (b := true) ⟨o, ho, hc⟩ isSubtype_stop ?_)
    exact wpAny_pure ⟨rfl, I.turned (t' := s.toks) (fun b o hb q => he' b o hb q) f0 f1 f3 f4 f5⟩
  self := fun A i s Q E st h => let ⟨⟨_, he⟩, _⟩ := st; wpAny_pyIter_enum he h
def iEnumT (K : PySem.W.Frag) (ta : TA) : TI := fun σ H R => ta σ H fun vs H1 => ∃ a xs, vs = [.ref a] ∧ SqT K H1 a xs ∧ R (ItU K a) H1
theorem pi_enumT {X : Cx} {e : Expr} {ta : TA} {p pos tpos : Pos} {elts : List Expr} {kk : Nat} (hg : Gl X "enumerate") (hm : X.mg "enumerate" = none) (ha : PA X [e] ta) (hs : starEach [e] X.env = [(false, eval e X.env)] := by rfl) :
    PI X (.Tuple elts kk tpos) (.Call (.Name "enumerate" p) [e] [] pos) (iEnumT X.K ta) := by
  refine ⟨fun pins s σ H R I h => ?_⟩
  refine Call_ (ld_blt I hg hm boot_enumerate (PyProof.Rows.callWith_type1 (thn (ha.run pos pins s σ H _ I h) fun us s1 ⟨vs, H1, I1, r1, q1⟩ => ?_) hs rfl))
  obtain ⟨a, xs, ex, hq, q⟩ := q1
  subst ex
  cases r1 with
  | cons r rr =>
    cases rr
    cases r
    obtain ⟨its, rv, p', hz⟩ := I1.tuple hq
    refine call_enum_tuple p' fun h' he hit hsz hk => wpAny_pyIter_enum he ?_
    have I2 : Inv X pins σ H1 { s1 with heap := h' } := I1.kept (t' := s1.toks) hk
    refine ⟨s1.heap.objs.size + 1, [s1.heap.objs.size + 1, s1.heap.objs.size], _, _, H1, rfl, I2, turn_enumT a (s1.heap.objs.size + 1) s1.heap.objs.size, ⟨⟨.none, he⟩, hit, Nat.succ_ne_self _⟩, fun b hb => ?_, q⟩
    have e' : b = s1.heap.objs.size + 1 ∨ b = s1.heap.objs.size := by simpa using hb
    have hle : s1.heap.objs.size ≤ b := by
      rcases e' with z | z
      · rw [z]; exact Nat.le_add_right _ _
      · rw [z]; exact Nat.le_refl _
    exact I1.fpOk hle (I1.hok.fresh hle)
theorem walk_enumT {K : PySem.W.Frag} {a : Addr} {xs : List V} : Walk (ItU K a) xs.length (fun H => SqT K H a xs) (YPair (fun i => some (.int (i : Nat))) (fun i => xs[i]?)) := by
  refine ⟨fun i _ hi q => ⟨xs, xs[i], q, by simp [hi]⟩, fun _ q => ⟨xs, q, Nat.le_refl _⟩, fun i H v H' _ q y => ?_⟩
  obtain ⟨T, x, h1, h2, h3, h4⟩ := y
  exact ⟨T, .int (i : Nat), x, h1, h2, h3, rfl, h4 xs q⟩
/-! ### small words -/
section
variable {K : PySem.W.Frag} {σ : L2.St} {H H' : Hp} {ta tb te tl : TE} {vs : List V} {v : V} {d0 d1 d2 d3 d4 : PyData}
theorem dt_int {i : Int} (h : Dt K H v (.int i)) : v = .int i := by cases h; rfl
theorem dt_bool {b : Bool} (h : Dt K H v (.bool b)) : v = .bl b := by cases h; rfl
theorem dta0 (h : DtAll K H vs []) : vs = [] := by cases h; rfl
theorem dta1 (h : DtAll K H vs [d0]) : ∃ v0, vs = [v0] ∧ Dt K H v0 d0 := by
  cases h with
  | cons h0 h => rw [dta0 h]; exact ⟨_, rfl, h0⟩
theorem dta2 (h : DtAll K H vs [d0, d1]) : ∃ v0 v1, vs = [v0, v1] ∧ Dt K H v0 d0 ∧ Dt K H v1 d1 := by
  cases h with
  | cons h0 h => obtain ⟨v1, rfl, h1⟩ := dta1 h; exact ⟨_, _, rfl, h0, h1⟩
theorem dta3 (h : DtAll K H vs [d0, d1, d2]) : ∃ v0 v1 v2, vs = [v0, v1, v2] ∧ Dt K H v0 d0 ∧ Dt K H v1 d1 ∧ Dt K H v2 d2 := by
  cases h with
  | cons h0 h => obtain ⟨v1, v2, rfl, h1⟩ := dta2 h; exact ⟨_, _, _, rfl, h0, h1⟩
theorem dta4 (h : DtAll K H vs [d0, d1, d2, d3]) : ∃ v0 v1 v2 v3, vs = [v0, v1, v2, v3] ∧ Dt K H v0 d0 ∧ Dt K H v1 d1 ∧ Dt K H v2 d2 ∧ Dt K H v3 d3 := by
  cases h with
  | cons h0 h => obtain ⟨v1, v2, v3, rfl, h1⟩ := dta3 h; exact ⟨_, _, _, _, rfl, h0, h1⟩
theorem rv_eqI {i j : Int} : RV rEq (.int i) (.int j) H (.bl (decide (i = j))) := by rw [← dec_int]; exact rv_eq rfl
theorem rv_neI {i j : Int} : RV rNe (.int i) (.int j) H (.bl (!decide (i = j))) := by rw [← dec_int]; exact rv_ne rfl
theorem dec_bl (a b : Bool) : decide (V.bl a = V.bl b) = (a == b) := by
  cases a <;> cases b <;> rfl
theorem rv_eqB {a b : Bool} : RV rEq (.bl a) (.bl b) H (.bl (a == b)) := by rw [← dec_bl]; exact rv_eq rfl
theorem rv_neB {a b : Bool} : RV rNe (.bl a) (.bl b) H (.bl (!(a == b))) := by rw [← dec_bl]; exact rv_ne rfl
theorem ev_inI {x : Int} {l : List Int} (ha : Ev ta σ H (.int x)) (hb : EvD K tb σ H (lotD l)) : Ev (tOp (rIn K false) ta tb) σ H (.bl (l.contains x)) := fun H1 e Q q =>
  ha H1 e _ fun H2 e2 => hb H2 (e.trans e2) _ fun w H3 e3 hw => by
    obtain ⟨a, rfl, hs⟩ := dt_lot hw
    rw [← inV_ints] at q
    exact rv_isT hs rfl (flat_ints l) H3 (Ex.refl _) Q fun H4 e4 => q H4 ((e2.trans e3).trans e4)
theorem ev_niI {x : Int} {l : List Int} (ha : Ev ta σ H (.int x)) (hb : EvD K tb σ H (lotD l)) : Ev (tOp (rIn K true) ta tb) σ H (.bl (!l.contains x)) := fun H1 e Q q =>
  ha H1 e _ fun H2 e2 => hb H2 (e.trans e2) _ fun w H3 e3 hw => by
    obtain ⟨a, rfl, hs⟩ := dt_lot hw
    rw [← inV_ints] at q
    exact rv_niT hs rfl (flat_ints l) H3 (Ex.refl _) Q fun H4 e4 => q H4 ((e2.trans e3).trans e4)
theorem ed_if {t : TT} {b : Bool} {d : PyData} (h : EvT t σ H b) (h1 : b = true → EvD K ta σ H d) (h2 : b = false → EvD K tb σ H d) : EvD K (tIf t ta tb) σ H d := fun H1 e Q q => h H1 e _ fun H2 e2 => by
  cases b with
  | true => exact iteT (h1 rfl H2 (e.trans e2) Q fun v H3 e3 => q v H3 (e2.trans e3))
  | false => exact iteF (h2 rfl H2 (e.trans e2) Q fun v H3 e3 => q v H3 (e2.trans e3))
theorem ev_lenI {l : List Int} (ha : EvD K ta σ H (lotD l)) : Ev (tCB (rLenS K) (tCons ta tNil)) σ H (.int (l.length : Int)) := by
  have := ev_lenT (K := K) (ds := l.map PyData.int) ha
  rw [List.length_map] at this
  exact this
theorem ed_catI {l r : List Int} (ha : EvD K ta σ H (lotD l)) (hb : EvD K tb σ H (lotD r)) (hl : l.length + r.length ≤ 1000) : EvD K (tOp (rCatA K) ta tb) σ H (lotD (l ++ r)) := by
  refine ed_is (ed_cat ha hb ?_) ?_
  · rw [List.length_map, List.length_map]; omega
  · unfold lotD; rw [List.map_append]
theorem s_drop' {D : Ends} (h : Ev te σ H v) (k : ∀ H1, Ex H H1 → D.nx σ H1) : tDrop te D σ H := s_drop h k
/-- over enumerate(tuple) -/
theorem ef_lcET {ds : List PyData} {j0 j1 : Nat} {vs : List Nat} (g : Nat → PyData → PyData) (h : EvD K tl σ H (.tuple ds)) (hz : ds.length < 50000) (hw : ∀ x y, wipe (((wipe σ vs).set j0 (some x)).set j1 (some y)) vs = wipe σ vs)
    (he : ∀ (i : Nat) (d : PyData) (x : V) H1, Ex H H1 → ds[i]? = some d → Dt K H1 x d → EvD K te (((wipe σ vs).set j0 (some (.int (i : Int)))).set j1 (some x)) H1 (g i d)) :
    EvF K (tLc (iEnumT K (tCons tl tNil)) (gTup K 2 (gCons (gName j0) (gCons (gName j1) gNil))) tYes te vs) σ H (ds.mapIdx g) := fun H0 e Q q => h H0 e _ fun v H1 e1 hv => by
  cases hv with
  | tup hx hd =>
    rename_i a xs
    refine ⟨a, xs, rfl, hx, fun Dl hD => lc_it (walk_enumT (K := K) (a := a) (xs := xs)) (fun i H' => Cd K H1 Dl ((ds.mapIdx g).take i) H') ⟨hD, Ex.new hD, [], upd_same, .nil⟩ (fun i H' _ p => ex_t p.2.1 hx) (fun i x H' H'' hi p hy => ?_) (fun H' p => ?_)⟩
    · obtain ⟨T, x1, x2, rfl, nT, rfl, g1, g2⟩ := hy
      cases Option.some.inj g1
      obtain ⟨p1, p2, acc, p3, p4⟩ := p
      have eT : Ex H' (upd H' T (.tup [.int (i : Nat), x2])) := Ex.new nT
      obtain ⟨d, h1, h2⟩ := dta_get (dta_ex p2 hd) g2
      refine ⟨T, _, rfl, st_of upd_same, rfl, _, _, rfl, _, _, rfl, rfl, hw _ _, ?_⟩
      refine tyes_go' ?_
      refine he i d x2 _ (((e.trans e1).trans p2).trans eT) h1 (dt_ex eT h2) _ (Ex.refl _) _ fun y H4 e4 hy => ?_
      have p3' := e4 Dl _ (eT Dl _ p3)
      refine ⟨acc, p3', sz_lt ?_, p1, Ex.mut ((p2.trans eT).trans e4) p1, _, upd_same, ?_⟩
      · have := dta_len p4
        rw [List.length_take, List.length_mapIdx] at this
        omega
      · rw [List.take_add_one, List.getElem?_mapIdx, h1]
        exact dta_tx (tx_lst p3') (dta_app (dta_ex (eT.trans e4) p4) (dta_one hy))
    · obtain ⟨p1, p2, acc, p3, p4⟩ := p
      have e5 : (ds.mapIdx g).take xs.length = ds.mapIdx g := List.take_of_length_le (by rw [List.length_mapIdx, dta_len hd]; exact Nat.le_refl _)
      rw [e5] at p4
      exact q Dl acc H' (fresh_back e1 p1) (e1.trans p2) p3 p4
end
theorem pe_bmK {X : Cx} {K : PySem.W.Frag} {T id : String} {name : Str} {r : V → List V → Hp → VK → Prop} {o : Expr} {to : TE} {e : Expr} {es : List Expr} {t : TA} {apos cpos : Pos} (hK : X.K = K) (pa : PlainAttrs T) (slot : Slot T name id) (hty : typeOf (.builtin id) = pure (.type "method_descriptor")) (hm : MtR X id r) (ho : PE X o to) (ha : PA X (e :: es) t)
    (hbase : attributeBase o name X.env (eval o X.env) = eval o X.env := by rfl)
    (hfew : ((backTo cpos (starEach (e :: es) X.env)).all (fun x => !x.1) && (backToKw cpos (keywordEach [] X.env)).all (fun x => x.1.isSome)
      && decide ((e :: es).length + ([] : List Keyword).length + (if ([] : List Keyword).isEmpty then 0 else 1) < 30)) = true := by rfl)
    (hline : (apos.endLine == cpos.line) = true := by rfl) (hs : starEach (e :: es) X.env = (false, eval e X.env) :: starEach es X.env := by rfl) (hplain : (backTo cpos (starEach es X.env)).any (·.1) = false := by rfl) :
    PE X (.Call (.Attribute o name apos) (e :: es) [] cpos) (tBM K T r to t) := by
  subst hK
  exact pe_bm pa slot hty hm ho ha hbase hfew hline hs hplain
section
variable {K : PySem.W.Frag}
theorem et_truL {σ : L2.St} {H : Hp} {te : TE} {p : Addr} {xs : List V} (h : Ev te σ H (.ref p)) (hs : SqL K H p xs) : EvT (fun σ H Q => te σ H fun x H' => ∃ k, TruV K x H' k ∧ Q k H') σ H (!xs.isEmpty) := fun H1 e _ q =>
  h H1 e _ fun H2 e2 => ⟨_, .inl ⟨xs, ex_l (e.trans e2) hs, rfl⟩, q H2 e2⟩
theorem et_truT {σ : L2.St} {H : Hp} {te : TE} {ds : List PyData} (h : EvD K te σ H (.tuple ds)) : EvT (fun σ H Q => te σ H fun x H' => ∃ k, TruV K x H' k ∧ Q k H') σ H (!ds.isEmpty) := fun H1 e _ q =>
  h H1 e _ fun v H2 e2 hv => by
    cases hv with
    | tup hs hx =>
      refine ⟨_, .inr (.inl ⟨_, hs, rfl⟩), ?_⟩
      cases hx with
      | nil => exact q H2 e2
      | cons _ _ => exact q H2 e2
theorem s_appD {D : Ends} {σ : L2.St} {H : Hp} {ta te : TE} {l : Addr} {xs : List V} {d : PyData} (hl : H l = some (.lst xs)) (ha : Ev ta σ H (.ref l)) (h : EvD K te σ H d) (hz : xs.length < 100000) (k : ∀ v H1, Ex H H1 → Dt K H1 v d → D.nx σ (upd H1 l (.lst (xs ++ [v])))) :
    tDrop (tBM K "list" rAppend ta (tCons te tNil)) D σ H := ha H (Ex.refl H) _ fun H1 e1 =>
  ⟨Or.inl ⟨rfl, xs, sq_of (e1 l _ hl)⟩, h H1 e1 _ fun v H2 e2 hv => ⟨l, xs, v, rfl, rfl, e2 l _ (e1 l _ hl), sz_lt hz, k v H2 (e1.trans e2) hv⟩⟩
theorem q_appD {D : Ends} {σ : L2.St} {H : Hp} {ta te : TE} {tz : TS} {l : Addr} {xs : List V} {d : PyData} (hl : H l = some (.lst xs)) (ha : Ev ta σ H (.ref l)) (h : EvD K te σ H d) (hz : xs.length < 100000) (k : ∀ v H1, Ex H H1 → Dt K H1 v d → tz D σ (upd H1 l (.lst (xs ++ [v])))) :
    tSeq (tDrop (tBM K "list" rAppend ta (tCons te tNil))) tz D σ H := s_appD (D := { D with nx := tz D }) hl ha h hz k
end
section
variable {K : PySem.W.Frag} {σ : L2.St} {H : Hp} {ta tb : TE} {ds es : List PyData}
theorem ev_neFL {a : Addr} {ys : List V} (ha : EvF K ta σ H ds) (hb : Ev tb σ H (.ref a)) (hs : SqL K H a ys) (hy : DtAll K H ys es) (sd : SeqAt.shaped (.list ds) = true) (se : SeqAt.shaped (.list es) = true) : Ev (tOp (rNeD K) ta tb) σ H (.bl (!PyData.eqv (.list ds) (.list es))) := fun H1 e1 Q q =>
  ha H1 e1 _ fun p xs H2 _ e2 hp hx => hb H2 (e1.trans e2) _ fun H3 e3 => ⟨_, _, .lst (sq_of (e3 p _ hp)) (dta_dp (dta_ex e3 hx)), .lst (ex_l ((e1.trans e2).trans e3) hs) (dta_dp (dta_ex ((e1.trans e2).trans e3) hy)), sd, se, q H3 (e2.trans e3)⟩
theorem ev_eqFL {a : Addr} {ys : List V} (ha : EvF K ta σ H ds) (hb : Ev tb σ H (.ref a)) (hs : SqL K H a ys) (hy : DtAll K H ys es) (sd : SeqAt.shaped (.list ds) = true) (se : SeqAt.shaped (.list es) = true) : Ev (tOp (rEqD K) ta tb) σ H (.bl (PyData.eqv (.list ds) (.list es))) := fun H1 e1 Q q =>
  ha H1 e1 _ fun p xs H2 _ e2 hp hx => hb H2 (e1.trans e2) _ fun H3 e3 => ⟨_, _, .lst (sq_of (e3 p _ hp)) (dta_dp (dta_ex e3 hx)), .lst (ex_l ((e1.trans e2).trans e3) hs) (dta_dp (dta_ex ((e1.trans e2).trans e3) hy)), sd, se, q H3 (e2.trans e3)⟩
theorem ev_neLF {a : Addr} {xs : List V} (ha : Ev ta σ H (.ref a)) (hs : SqL K H a xs) (hx : DtAll K H xs ds) (hb : EvF K tb σ H es) (sd : SeqAt.shaped (.list ds) = true) (se : SeqAt.shaped (.list es) = true) : Ev (tOp (rNeD K) ta tb) σ H (.bl (!PyData.eqv (.list ds) (.list es))) := fun H1 e1 Q q =>
  ha H1 e1 _ fun H2 e2 => hb H2 (e1.trans e2) _ fun r ys H3 _ e3 hr hy => ⟨_, _, .lst (ex_l ((e1.trans e2).trans e3) hs) (dta_dp (dta_ex ((e1.trans e2).trans e3) hx)), .lst (sq_of hr) (dta_dp hy), sd, se, q H3 (e2.trans e3)⟩
end
section
variable {K : PySem.W.Frag}
theorem q_parFF {σ : L2.St} {H : Hp} {D : Ends} {tz : TS} {ta tb : TE} {i j : Nat} {ds es : List PyData} (h1 : EvF K ta σ H ds) (h2 : ∀ H1, Ex H H1 → EvF K tb σ H1 es) (k : ∀ p xs q ys H2, Ex H H2 → H2 p = some (.lst xs) → DtAll K H2 xs ds → H2 q = some (.lst ys) → DtAll K H2 ys es → tz D ((σ.set i (some (.ref p))).set j (some (.ref q))) H2) : tSeq (tPar i j (tCons ta (tCons tb tNil))) tz D σ H :=
  h1 H (Ex.refl H) _ fun p xs H1 np e1 hp hx => h2 H1 e1 H1 (Ex.refl H1) _ fun q ys H2 nq e2 hq hy => ⟨.ref p, .ref q, rfl, k p xs q ys H2 (e1.trans e2) (e2 p _ hp) (dta_ex e2 hx) hq hy⟩
theorem bools_shaped (a b : Bool) : SeqAt.shaped (.list [.bool a, .bool b]) = true := by cases a <;> cases b <;> decide +kernel
theorem ef_catLL {σ : L2.St} {H : Hp} {ta tb : TE} {p r : Addr} {xs ys : List V} {ds es : List PyData} (ha : Ev ta σ H (.ref p)) (hp : H p = some (.lst xs)) (hx : DtAll K H xs ds) (hb : Ev tb σ H (.ref r)) (hr : H r = some (.lst ys)) (hy : DtAll K H ys es) (hl : ds.length + es.length ≤ 100000) : EvF K (tOp rCat ta tb) σ H (ds ++ es) := fun H1 e Q q =>
  ha H1 e _ fun H2 e2 => hb H2 (e.trans e2) _ fun H3 e3 =>
    ⟨_, _, _, _, rfl, rfl, ((e.trans e2).trans e3) p _ hp, ((e.trans e2).trans e3) r _ hr, sz_of (by rw [dta_len hx, dta_len hy]; exact hl), fun n hn =>
      q n _ _ (fresh_back (e2.trans e3) hn) ((e2.trans e3).trans (Ex.new hn)) upd_same (dta_ex (Ex.new hn) (dta_app (dta_ex ((e.trans e2).trans e3) hx) (dta_ex ((e.trans e2).trans e3) hy)))⟩
theorem ev_intB {σ : L2.St} {H : Hp} {te : TE} {b : Bool} (h : Ev te σ H (.bl b)) : Ev (tCB (fun xs H Q => (∃ i, xs = [.int i] ∧ Q (.int i) H) ∨ ∃ k, xs = [.bl k] ∧ Q (.int (if k then 1 else 0)) H) (tCons te tNil)) σ H (.int (if b then 1 else 0)) := fun H1 e Q q => h H1 e _ fun H2 e2 => .inr ⟨b, rfl, q H2 e2⟩
end
section
variable {K : PySem.W.Frag}
theorem ev_sumF {σ : L2.St} {H : Hp} {ta : TE} {ns : List Int} (ha : EvF K ta σ H (ns.map PyData.int)) : Ev (tCB (rSum K) (tCons ta tNil)) σ H (.int ns.sum) := fun H1 e Q q =>
  ha H1 e _ fun p xs H2 _ e2 hp hx => ⟨p, ns, rfl, sq_of (by rw [dta_ints_inv hx] at hp; exact hp), q H2 e2⟩
end
/-! ### the program's curves and lots -/
theorem free_of {cells : List (Str × Addr)} {names : List (Str × NameKind)} (h : (names.all fun y => !(decide (y.2 = .free)) || (cells.lookup y.1).isSome) = true) : ∀ y ∈ names, y.2 = .free → ∃ c, cells.lookup y.1 = some c := fun y hy e => by
  have q := List.all_eq_true.mp h y hy
  rw [decide_eq_true e] at q
  exact Option.isSome_iff_exists.mp q
theorem tyx_ex {K : PySem.W.Frag} {H H' : Hp} {v : V} {t : String} (e : Ex H H') (ty : TyX K H v (.type t)) : TyX K H' v (.type t) := by
  cases ty with
  | base b =>
    cases b with
    | non => exact .base .non
    | bl x => exact .base (.bl x)
    | int i => exact .base (.int i)
    | str x => exact .base (.str x)
    | flt x => exact .base (.flt x)
    | lst h => exact .base (.lst (e _ _ h))
    | frz h => exact .base (.frz (e _ _ h))
    | tup h => exact .base (.tup (e _ _ h))
    | dK h => exact .base (.dK (e _ _ h))
    | dT h => exact .base (.dT (e _ _ h))
  | byt b => exact .byt b
  | set h => exact .set (e _ _ h)
  | kList h c => exact .kList h c
  | kTuple h c => exact .kTuple h c
  | kDict h c => exact .kDict h c
  | fTuple h => exact .fTuple (e _ _ h)
  | fDict h => exact .fDict (e _ _ h)
theorem ty_sqt {K : PySem.W.Frag} {H : Hp} {a : Addr} {xs : List V} (h : SqT K H a xs) : TyX K H (.ref a) (.type "tuple") := by
  rcases h with (h | ⟨o, h⟩) | ⟨o, its, n, hk, hc, _⟩
  · exact .base (.tup h)
  · exact .fTuple h
  · exact .kTuple hk hc
def risingL (ns : List Int) : Bool := (List.range (min ns.length (ns.drop 1).length)).all fun i => decide (ns.getD i 0 < (ns.drop 1).getD i 0)
def curve2 : V → V → Bool
  | .int m, .int d => decide (1 ≤ d) && decide (d ≤ 6) && (decide (d < m) && decide (m ≤ 9))
  | _, _ => false
def curveB : List V → Bool
  | [x, y] => curve2 x y
  | _ => false
def okC (m d : Int) : Prop := 1 ≤ d ∧ d ≤ 6 ∧ d < m ∧ m ≤ 9
theorem cut1 (xs : List V) : cutV xs (some 1) none = xs.drop 1 := by
  unfold cutV
  rw [show HT.sIx xs.length 0 (some 1) = min 1 xs.length from HT.sIx_nat xs.length 0 1, HT.sIx_none]
  cases xs with
  | nil => rfl
  | cons x r =>
    rw [show min 1 (x :: r).length = 1 by rw [List.length_cons]; omega]
    show List.take ((x :: r).length - 1) r = r
    rw [List.length_cons, Nat.add_sub_cancel, List.take_length]
section
variable {P : Program} {w : World} {K : PySem.W.Frag} {mg : Str → Option Value} {base : Heap}
/-- what a thing is handed in as: its type, its items' types where it is a tuple -/
def Typed (K : PySem.W.Frag) (H : Hp) (v : V) : Prop := ∃ t, t ∈ tyNames ∧ TyX K H v (.type t)
theorem Typed.ex {H H' : Hp} {v : V} (e : Ex H H') (h : Typed K H v) : Typed K H' v := by
  obtain ⟨t, ht, h⟩ := h
  exact ⟨t, ht, tyx_ex e h⟩
theorem typed_int {H : Hp} {i : Int} : Typed K H (.int i) := ⟨"int", by decide, .base (.int i)⟩
theorem ev_wholeT {σ : L2.St} {H : Hp} {te : TE} {v : V} {E : XK} (h : Ev te σ H v) (ht : Typed K H v) : ∃ b, (b = true ↔ ∃ i, v = .int i) ∧ Ev (tCall (spWhole K) [] E (tCons te tNil)) σ H (.bl b) := by
  obtain ⟨t, h1, h2⟩ := ht
  refine ⟨t == "int", ⟨fun e => ty_int_inv h2 (eq_of_beq e), fun e => ?_⟩, ev_whole h h1 fun H1 e => tyx_ex e h2⟩
  obtain ⟨i, rfl⟩ := e
  rw [ty_of_int h2]
  rfl
end
section
variable {P : Program} {w : World} {K : PySem.W.Frag} {mg : Str → Option Value} {base : Heap}
/-! is_curve -/
def ThC (K : PySem.W.Frag) (H : Hp) (v : V) (b : Bool) : Prop := (∃ t, t ∈ tyNames ∧ t ≠ "tuple" ∧ TyX K H v (.type t) ∧ b = false) ∨ ∃ a xs, v = .ref a ∧ SqT K H a xs ∧ (∀ y ∈ xs, Typed K H y) ∧ b = curveB xs
def spIsC (K : PySem.W.Frag) : Sp := fun vs H Q _ => ∃ (v : V) (b : Bool), vs = [v] ∧ ThC K H v b ∧ ∀ H2, Ex H H2 → Q (.bl b) H2
def tupGood : Bool := tyNames.all fun t => decide (kitB t "tuple" = some (t == "tuple"))
theorem tup_good : tupGood = true := by decide +kernel
theorem ty_tup {t : String} (h : t ∈ tyNames) : kitB t "tuple" = some (t == "tuple") := of_decide_eq_true (List.all_eq_true.mp tup_good t h)
theorem okk_is_curve {f fw : Addr} {fd fdw : FuncData} {k : Nat} {t1 t2 : Tok} (D : Df K mg "is_curve" s_is_curve ["thing"] f fd) (D_is_whole : Df K mg "is_whole" s_is_whole ["thing"] fw fdw) (B : Bt mg) (c_MOST_DEEP : mg "MOST_DEEP" = some (.int 6 t1)) (c_MOST_CORNERS : mg "MOST_CORNERS" = some (.int 9 t2)) : FnOk P w K mg base CX0 (k + 2) f fd ["thing"] (spIsC K) := by
  have G_is_whole : FnOk P w K mg base CX0 (k + 1) fw fdw ["thing"] (spWhole K) := okk_is_whole D_is_whole B
  refine D.F.ok sc_is_curve (fun vs H Q E h => ?_) (fun cdv A outer s H vs Q E hr h => ?_)
  · obtain ⟨a, ns, rfl, _⟩ := h
    rfl
  · obtain ⟨v, b, rfl, hv, q⟩ := h
    refine ⟨_, (pss_cons (ps_if (PW.pt (pw_or (pt_not (pt_val (pe_callB (show CallR _ _ (rIsi K) from call_isi) (by rfl) B.isinstance_ (by decide +kernel) (pa_cons (pv 0) (pa_cons (pe_bltn (v := .ty "tuple") (by rfl) B.tuple_ (by decide +kernel) rfl) pa_nil))))) (pw_or1 (pt_cmpR op_ne (pe_callB (show CallR _ _ (rLenS K) from call_len_seq) (by rfl) B.len_ (by decide +kernel) (pa_cons (pv 0) pa_nil)) pe_int (nomark _)))))   (pss_one (ps_ret pe_bl))   pss_nil)  (pss_cons (ps_asg (pv 0) (pg_tup (by rfl) (pgs_cons (pg_name (i := 1) sc_is_curve.nd rfl (.inl rfl)) (pgs_cons (pg_name (i := 2) sc_is_curve.nd rfl (.inl rfl)) pgs_nil))))  (pss_cons (ps_if (PW.pt (pw_or (pt_not (pt_val (pe_call G_is_whole (hr.mono (by omega)) (by rfl) D_is_whole.g D_is_whole.F.kp D_is_whole.b .nil pass0 (pa_cons (pv 1) pa_nil)))) (pw_or1 (pt_not (pt_val (pe_call G_is_whole (hr.mono (by omega)) (by rfl) D_is_whole.g D_is_whole.F.kp D_is_whole.b .nil pass0 (pa_cons (pv 2) pa_nil)))))))   (pss_one (ps_ret pe_bl))   pss_nil)  (pss_one (ps_ret (pe_and (pe_chain op_le op_le pe_int (pv 2) (pe_glob (v := .int 6) rfl c_MOST_DEEP ⟨_, rfl⟩)) (pe_one (pe_chain op_lt op_le (pv 2) (pv 1) (pe_glob (v := .int 9) rfl c_MOST_CORNERS ⟨_, rfl⟩))))))))), ?_⟩
    rcases hv with ⟨t, ht, hnt, ty, rfl⟩ | ⟨a, xs, rfl, hS, hty, rfl⟩
    · have e0 : (t == "tuple") = false := beq_eq_false_iff_ne.mpr hnt
      refine q_when (b := true) (fun H1 e1 Q' q' => ?_) (fun _ H1 e1 => s_ret ev_c fun H2 e2 => q H2 (e1.trans e2)) (fun hb => by cases hb)
      refine (et_not (et_B (ev_isi (K := K) (ev_var rfl) ev_c (fun H2 e2 => tyx_ex e2 ty) (ty_tup ht)))) H1 e1 _ fun H2 e2 => ?_
      rw [e0]
      exact iteT (q' H2 e2)
    · by_cases h2 : xs.length = 2
      · obtain ⟨x, y, rfl⟩ : ∃ x y, xs = [x, y] := by
          match xs, h2 with
          | [x, y], _ => exact ⟨x, y, rfl⟩
        refine q_when (b := false) (et_is (et_or (et_not (et_B (ev_isi (K := K) (ev_var rfl) ev_c (fun H2 e2 => tyx_ex e2 (ty_sqt hS)) (ty_tup (t := "tuple") (by decide))))) (fun _ => et_test (ev_op (fun H1 e1 Q' q' => ⟨_, rfl, a, [x, y], rfl, .inr (ex_t e1 hS), q' H1 (Ex.refl H1)⟩) ev_c (rv_ne rfl)))) rfl) (fun hb => by cases hb) (fun _ H1 e1 => ?_)
        refine ⟨_, rfl, a, [x, y], rfl, ex_t e1 hS, rfl, _, _, rfl, _, _, rfl, rfl, ?_⟩
        obtain ⟨b1, hb1, w1⟩ := ev_wholeT (K := K) (σ := [some (.ref a), some x, some y]) (te := tVar 1) (E := E0) (ev_var rfl) ((hty x (by simp)).ex e1)
        obtain ⟨b2, hb2, w2⟩ := ev_wholeT (K := K) (σ := [some (.ref a), some x, some y]) (te := tVar 2) (E := E0) (ev_var rfl) ((hty y (by simp)).ex e1)
        refine q_when (et_or (et_not (et_B w1)) (fun _ => et_not (et_B w2))) (fun hb H2 e2 => ?_) (fun hb H2 e2 => ?_)
        · refine s_ret ev_c fun H3 e3 => ?_
          have hc : curveB [x, y] = false := by
            show curve2 x y = false
            cases x with
            | int i =>
              cases y with
              | int j =>
                rw [hb1.mpr ⟨i, rfl⟩, hb2.mpr ⟨j, rfl⟩] at hb
                cases hb
              | _ => rfl
            | _ => rfl
          rw [hc] at q
          exact q H3 ((e1.trans e2).trans e3)
        · have hb3 : b1 = true ∧ b2 = true := by
            cases b1 <;> cases b2 <;> first | exact ⟨rfl, rfl⟩ | cases hb
          obtain ⟨i, rfl⟩ := hb1.mp hb3.1
          obtain ⟨j, rfl⟩ := hb2.mp hb3.2
          refine s_ret (ev_andV (ev_chain ev_c (ev_var rfl) ev_c rv_I0 rv_I0) (fun _ => ev_chain (ev_var rfl) (ev_var rfl) ev_c rv_I0 rv_I0)) fun H3 e3 => ?_
          exact q H3 ((e1.trans e2).trans e3)
      · have hc : curveB xs = false := by
          match xs with
          | [] => rfl
          | [_] => rfl
          | [_, _] => exact absurd rfl h2
          | _ :: _ :: _ :: _ => rfl
        rw [hc] at q
        refine q_when (b := true) (et_is (et_or (et_not (et_B (ev_isi (K := K) (ev_var rfl) ev_c (fun H2 e2 => tyx_ex e2 (ty_sqt hS)) (ty_tup (t := "tuple") (by decide))))) (fun _ => et_test (ev_op (fun H1 e1 Q' q' => ⟨_, rfl, a, xs, rfl, .inr (ex_t e1 hS), q' H1 (Ex.refl H1)⟩) ev_c (rv_ne rfl)))) ?_) (fun _ H1 e1 => s_ret ev_c fun H2 e2 => q H2 (e1.trans e2)) (fun hb => by cases hb)
        rw [dec_int, decide_eq_false (show ¬ ((xs.length : Int) = 2) by omega)]
        rfl
end
section
variable {P : Program} {w : World} {K : PySem.W.Frag} {mg : Str → Option Value} {base : Heap}
/-! need_curve, of curves -/
def spNeedC (K : PySem.W.Frag) : Sp := fun vs H Q _ => ∃ (m d : Int), DtAll K H vs [curveD m d] ∧ okC m d ∧ ∀ H2, Ex H H2 → Q .non H2
theorem dt_curve {H : Hp} {v : V} {m d : Int} (h : Dt K H v (curveD m d)) : ∃ a, v = .ref a ∧ SqT K H a [.int m, .int d] := by
  cases h with
  | tup hs hx =>
    cases hx with
    | cons h1 h2 =>
      cases h1
      cases h2 with
      | cons h3 h4 =>
        cases h3
        cases h4
        exact ⟨_, rfl, hs⟩
theorem curveB_ok {m d : Int} (h : okC m d) : curveB [.int m, .int d] = true := by
  obtain ⟨h1, h2, h3, h4⟩ := h
  show (decide (1 ≤ d) && decide (d ≤ 6) && (decide (d < m) && decide (m ≤ 9))) = true
  rw [decide_eq_true h1, decide_eq_true h2, decide_eq_true h3, decide_eq_true h4]
  rfl
theorem okk_need_curve {f fc fw : Addr} {fd fdc fdw : FuncData} {k : Nat} {t1 t2 : Tok} (D : Df K mg "need_curve" s_need_curve ["curve"] f fd) (D_is_curve : Df K mg "is_curve" s_is_curve ["thing"] fc fdc) (D_is_whole : Df K mg "is_whole" s_is_whole ["thing"] fw fdw) (B : Bt mg) (c_MOST_DEEP : mg "MOST_DEEP" = some (.int 6 t1)) (c_MOST_CORNERS : mg "MOST_CORNERS" = some (.int 9 t2)) : FnOk P w K mg base CX0 (k + 3) f fd ["curve"] (spNeedC K) := by
  have G_is_curve : FnOk P w K mg base CX0 (k + 2) fc fdc ["thing"] (spIsC K) := okk_is_curve D_is_curve D_is_whole B c_MOST_DEEP c_MOST_CORNERS
  refine D.F.ok sc_need_curve (fun vs H Q E h => ?_) (fun cdv A outer s H vs Q E hr h => ?_)
  · obtain ⟨m, d, h, _⟩ := h
    rw [dta_len h]
    rfl
  · obtain ⟨m, d, h, hc, q⟩ := h
    cases h with
    | cons h1 h2 =>
    cases h2
    obtain ⟨a, rfl, hS⟩ := dt_curve h1
    refine ⟨_, (pss_one (ps_if (pt_not (pt_val (pe_call G_is_curve (hr.mono (by omega)) (by rfl) D_is_curve.g D_is_curve.F.kp D_is_curve.b .nil pass0 (pa_cons (pv 0) pa_nil))))   (pss_one ps_never)   pss_nil)), ?_⟩
    refine s_when (b := false) (et_not (et_B (b := true) (fun H1 e1 Q' q' => ⟨_, rfl, _, _, rfl, .inr ⟨a, _, rfl, ex_t e1 hS, ?_, (curveB_ok hc).symm⟩, fun H2 e2 => q' H2 e2⟩))) (fun hb => by cases hb) (fun _ H1 e1 => q H1 e1)
    intro y hy
    rcases List.mem_cons.mp hy with rfl | hy
    · exact typed_int
    rcases List.mem_cons.mp hy with rfl | hy
    · exact typed_int
    · cases hy
theorem ev_needC {σ : L2.St} {H : Hp} {te : TE} {m d : Int} {E : XK} (h : EvD K te σ H (curveD m d)) (hc : okC m d) : Ev (tCall (spNeedC K) [] E (tCons te tNil)) σ H .non := fun H1 e Q q =>
  h H1 e _ fun v H2 e2 hv => ⟨m, d, .cons hv .nil, hc, fun H3 e3 => q H3 (e2.trans e3)⟩
end
/-! ### all curves -/
def curvesAll : List (Int × Int) := (List.range 6).flatMap fun i => (List.range (8 - i)).map fun (j : Nat) => ((i : Int) + 2 + (j : Int), (i : Int) + 1)
theorem curve_mem {m d : Int} (h : okC m d) : (m, d) ∈ curvesAll := by
  obtain ⟨h1, h2, h3, h4⟩ := h
  refine List.mem_flatMap.mpr ⟨(d - 1).toNat, List.mem_range.mpr (by omega), List.mem_map.mpr ⟨(m - d - 1).toNat, List.mem_range.mpr (by omega), ?_⟩⟩
  refine Prod.ext ?_ ?_
  · show ((d - 1).toNat : Int) + 2 + ((m - d - 1).toNat : Int) = m
    omega
  · show ((d - 1).toNat : Int) + 1 = d
    omega
theorem curve_all {f : Int × Int → Bool} (h : curvesAll.all f = true) {m d : Int} (hc : okC m d) : f (m, d) = true := List.all_eq_true.mp h _ (curve_mem hc)
/-! ### a comprehension of two clauses: a list's items, for each a range -/
section
variable {K : PySem.W.Frag} {σ : L2.St} {H : Hp} {te tl : TE} {ds : List PyData}
theorem tyes_go {F G : Hp → Prop} (h : F H) : tYes σ H fun b H3 => if b = true then F H3 else G H3 := by
  show (if true = true then F H else G H)
  exact iteT h
theorem ef_lc2 {a : Addr} {xs : List V} {ta : TA} {j j1 : Nat} {vs vs1 : List Nat} (lo : PyData → Int) (hi : Int) (g : PyData → Int → PyData) (h : Ev tl σ H (.ref a)) (hx : SqL K H a xs) (hd : DtAll K H xs ds) (hz : (ds.flatMap fun d => (upTo (lo d) hi).map (g d)).length < 50000)
    (hw : ∀ x, wipe ((wipe σ vs).set j (some x)) vs = wipe σ vs) (hw1 : ∀ x y, wipe ((wipe ((wipe σ vs).set j (some x)) vs1).set j1 (some y)) vs1 = wipe ((wipe σ vs).set j (some x)) vs1)
    (hb : ∀ d ∈ ds, -10000 ≤ lo d ∧ lo d ≤ 10000 ∧ -10000 ≤ hi ∧ hi ≤ 10000)
    (ha : ∀ (d : PyData) (x : V) H1, Ex H H1 → d ∈ ds → Dt K H1 x d → EvA ta ((wipe σ vs).set j (some x)) H1 [.int (lo d), .int hi])
    (he : ∀ (d : PyData) (x : V) (i : Int) H1, Ex H H1 → d ∈ ds → Dt K H1 x d → EvD K te ((wipe ((wipe σ vs).set j (some x)) vs1).set j1 (some (.int i))) H1 (g d i)) :
    EvF K (tLc2 (iList K tl) (gName j) tYes (iRng2 ta) (gName j1) tYes te vs vs1) σ H (ds.flatMap fun d => (upTo (lo d) hi).map (g d)) := fun H0 e Q q => h H0 e _ fun H1 e1 => by
  have e01 := e.trans e1
  refine ⟨a, rfl, ⟨xs, ex_l e01 hx⟩, fun Dl hD => ⟨fun i n H' => n = xs.length - i ∧ i ≤ xs.length ∧ Cd K H1 Dl ((ds.take i).flatMap fun d => (upTo (lo d) hi).map (g d)) H', ⟨xs.length, by simp, Nat.zero_le _, hD, Ex.new hD, [], upd_same, .nil⟩, ?_⟩⟩
  rintro i n H' ⟨rfl, hile, hC⟩
  have hq : SqL K H' a xs := ex_l (e01.trans hC.2.1) hx
  by_cases hlt : i < xs.length
  · refine .inr ⟨⟨xs, xs[i], hq, by simp [hlt]⟩, fun H'' => Cd K H1 Dl ((ds.take (i + 1)).flatMap fun d => (upTo (lo d) hi).map (g d)) H'', fun H'' p => ⟨xs.length - (i + 1), by omega, rfl, hlt, p⟩, fun x H'' y => ?_⟩
    obtain ⟨e2, y⟩ := y
    subst e2
    have hxi := y xs hq
    obtain ⟨d, hd1, hd2⟩ := dta_get (dta_ex (e01.trans hC.2.1) hd) hxi
    have hdm := List.mem_of_getElem? hd1
    have hbd := hb d hdm
    have hext : ((ds.take (i + 1)).flatMap fun d => (upTo (lo d) hi).map (g d)) = ((ds.take i).flatMap fun d => (upTo (lo d) hi).map (g d)) ++ (upTo (lo d) hi).map (g d) := flat_succ hd1
    have hbig : ((ds.take (i + 1)).flatMap fun d => (upTo (lo d) hi).map (g d)).length < 50000 := Nat.lt_of_le_of_lt (flat_take _ _ _) hz
    rw [hext] at hbig
    rw [hext]
    refine ⟨hw x, tyes_go ?_⟩
    refine (ha d x H'' (e01.trans hC.2.1) hdm hd2) H'' (Ex.refl _) _ fun H4 e4 => ⟨lo d, hi, rfl, ⟨by omega, by omega, by omega, by omega⟩, fun k n H5 => n = (hi - lo d).toNat - k ∧ k ≤ (hi - lo d).toNat ∧ Cd K H1 Dl (((ds.take i).flatMap fun d => (upTo (lo d) hi).map (g d)) ++ ((upTo (lo d) hi).take k).map (g d)) H5, ⟨_, rfl, Nat.zero_le _, ?_⟩, ?_⟩
    · obtain ⟨p1, p2, acc, p3, p4⟩ := hC
      exact ⟨p1, p2.trans e4, acc, e4 _ _ p3, by rw [List.take_zero, List.map_nil, List.append_nil]; exact dta_ex e4 p4⟩
    · rintro k n H5 ⟨rfl, hkle, hC5⟩
      by_cases hk : k < (hi - lo d).toNat
      · refine .inr ⟨hk, fun H6 => Cd K H1 Dl (((ds.take i).flatMap fun d => (upTo (lo d) hi).map (g d)) ++ ((upTo (lo d) hi).take (k + 1)).map (g d)) H6, fun H6 p => ⟨(hi - lo d).toNat - (k + 1), by omega, rfl, hk, p⟩, fun y H6 hy => ?_⟩
        obtain ⟨e6, hy⟩ := hy
        subst e6
        subst hy
        obtain ⟨p1, p2, acc, p3, p4⟩ := hC5
        have hd5 := (dta_get (dta_ex (e01.trans p2) hd) hxi)
        obtain ⟨d', hd1', hd2'⟩ := hd5
        rw [hd1] at hd1'
        cases hd1'
        refine ⟨hw1 x _, tyes_go ?_⟩
        refine (he d x _ H6 (e01.trans p2) hdm hd2') H6 (Ex.refl _) _ fun v H7 e7 hv => ⟨acc, e7 _ _ p3, sz_lt ?_, p1, Ex.mut (p2.trans e7) p1, _, upd_same, ?_⟩
        · rw [dta_len p4, List.length_append, List.length_map, List.length_take]
          rw [List.length_append, List.length_map] at hbig
          have := Nat.min_le_right k (upTo (lo d) hi).length
          omega
        · rw [List.take_add_one, upTo_get hk, List.map_append, ← List.append_assoc]
          exact dta_tx (tx_lst (e7 _ _ p3)) (dta_app (dta_ex e7 p4) (dta_one hv))
      · have ek : k = (hi - lo d).toNat := by omega
        subst ek
        refine .inl ⟨Nat.le_refl _, ?_⟩
        rw [List.take_of_length_le (l := upTo (lo d) hi) (by rw [upTo_len]; exact Nat.le_refl _)] at hC5
        exact hC5
  · have ei : i = xs.length := by omega
    subst ei
    obtain ⟨p1, p2, acc, p3, p4⟩ := hC
    rw [List.take_of_length_le (by rw [dta_len hd]; exact Nat.le_refl _)] at p4
    exact .inl ⟨⟨xs, hq, Nat.le_refl _⟩, q Dl acc H' (fresh_back e1 p1) (e1.trans p2) p3 p4⟩
end
section
variable {P : Program} {w : World} {K : PySem.W.Frag} {mg : Str → Option Value} {base : Heap}
/-! the law's curve: at most seven corners, at most 4 deep -/
structure okV (m d : Int) : Prop where
  c : okC m d
  d4 : d ≤ 4
  m7 : m ≤ 7
def spCurve (K : PySem.W.Frag) : Sp := fun vs H Q _ => ∃ b, vs = [.ref b] ∧ BoxAt H b ∧ ∀ v m d H2, okV m d → Dt K H2 v (curveD m d) → BoxAt H2 b → Bk b H H2 → Q v H2
theorem okk_curve {f ft : Addr} {fd fdt : FuncData} {k : Nat} (D : Df K mg "_law_curve" s__law_curve ["_law_box_here"] f fd) (D__law_take : Df K mg "_law_take" s__law_take ["_law_box_here", "_law_many"] ft fdt) (B : Bt mg) : FnOk P w K mg base CX0 (k + 2) f fd ["_law_box_here"] (spCurve K) := by
  have G__law_take : FnOk P w K mg base CX0 (k + 1) ft fdt ["_law_box_here", "_law_many"] spTake := okk_take D__law_take B
  refine D.F.ok sc__law_curve (fun vs H Q E h => ?_) (fun cdv A outer s H vs Q E hr h => ?_)
  · obtain ⟨b, rfl, _⟩ := h
    rfl
  · obtain ⟨b, rfl, hb, q⟩ := h
    refine ⟨_, (pss_cons (ps_set (i := 1) sc__law_curve.nd rfl (.inl rfl) (pe_op op_add pe_int (pe_call G__law_take (hr.mono (by omega)) (by rfl) D__law_take.g D__law_take.F.kp D__law_take.b .nil pass0 (pa_cons (pv 0) (pa_cons pe_int pa_nil)))))  (pss_one (ps_ret (pe_tup (pa_cons (pe_op op_add (pe_op op_add (pv 1) pe_int) (pe_call G__law_take (hr.mono (by omega)) (by rfl) D__law_take.g D__law_take.F.kp D__law_take.b .nil pass0 (pa_cons (pv 0) (pa_cons (pe_op op_sub pe_int (pv 1)) pa_nil)))) (pa_cons (pv 1) pa_nil)))))), ?_⟩
    refine q_asgK (K := K) (b := b) (ek_opI (f := fun i j => i + j) ev_c fun H1 e1 => ek_take rfl (hb.ex e1) ev_c (by decide) (by decide)) fun v d H1 hp hv hb1 x1 => ?_
    obtain ⟨r, rfl, r0, r1⟩ := hp
    cases hv
    refine (ek_opI (K := K) (b := b) (f := fun i j => i + j) (σ := [some (.ref b), some (.int (1 + r))]) (H := H1) (ta := tOp (rI0 fun i j => .int (i + j)) (tVar 1) (tC (.int 1))) (ev_op (ev_var rfl) ev_c rv_I0) fun H2 e2 => ek_take (wd := 7 - (1 + r)) rfl (hb1.ex e2) (ev_op ev_c (ev_var rfl) rv_I0) (by omega) (by omega)) _ fun v d H2 hp hv hb2 x2 => ?_
    obtain ⟨r', rfl, r0', r1'⟩ := hp
    cases hv
    refine ⟨_, rfl, sz_of (by show 2 ≤ 100000; decide), fun p hp => ?_⟩
    have e3 : Ex H2 (upd H2 p (.tup [.int (1 + r + 1 + r'), .int (1 + r)])) := Ex.new hp
    exact q _ (1 + r + 1 + r') (1 + r) _ ⟨⟨by omega, by omega, by omega, by omega⟩, by omega, by omega⟩ (.tup (st_of upd_same) (.cons (.int _) (.cons (.int _) .nil))) (hb2.ex e3) ((x1.trans x2).trans (bk_ex e3))
theorem q_curve {D : Ends} {tz : TS} {σ : L2.St} {H : Hp} {i j : Nat} {b : Addr} {E : XK} (hj : σ[j]? = some (some (.ref b))) (hb : BoxAt H b) (k : ∀ v m d H2, okV m d → Dt K H2 v (curveD m d) → BoxAt H2 b → Bk b H H2 → tz D (σ.set i (some v)) H2) : tSeq (tAsg (tCall (spCurve K) [] E (tCons (tVar j) tNil)) (gName i)) tz D σ H :=
  ⟨_, hj, b, rfl, hb, k⟩
end
theorem ef_of_el {K : PySem.W.Frag} {σ : L2.St} {H : Hp} {te : TE} {xs : List V} {ds : List PyData} (h : EvL te σ H xs) (hd : DtAll K H xs ds) : EvF K te σ H ds := fun H1 e Q q => h H1 e Q fun p H2 np e2 hp => q p xs H2 np e2 hp (dta_ex (e.trans e2) hd)
theorem cut_last (xs : List V) (x : V) : cutV (xs ++ [x]) none (some (-1)) = xs := by
  unfold cutV
  rw [HT.sIx_none]
  have e : HT.sIx (xs ++ [x]).length (xs ++ [x]).length (some (-1)) = xs.length := by
    unfold HT.sIx
    simp
    omega
  rw [e]
  simp
theorem ints_lay : ∀ l : List Int, PyData.canLayAll0 (l.map PyData.int) = true
  | [] => rfl
  | i :: l => by
    show (PyData.canLay0 (.int i) && PyData.canLayAll0 (l.map PyData.int)) = true
    rw [ints_lay l]
    rfl
theorem lots_lay : ∀ ls : List (List Int), PyData.canLayAll0 (ls.map lotD) = true
  | [] => rfl
  | l :: ls => by
    show (PyData.canLayAll0 (l.map PyData.int) && PyData.canLayAll0 (ls.map lotD)) = true
    rw [ints_lay l, lots_lay ls]
    rfl
theorem ints_deep : ∀ l : List Int, PyData.depthAll (l.map PyData.int) = 0
  | [] => rfl
  | i :: l => by
    show max (PyData.depth (.int i)) (PyData.depthAll (l.map PyData.int)) = 0
    rw [ints_deep l]
    rfl
theorem lots_deep : ∀ ls : List (List Int), PyData.depthAll (ls.map lotD) ≤ 1
  | [] => Nat.zero_le _
  | l :: ls => by
    show max (PyData.depthAll (l.map PyData.int) + 1) (PyData.depthAll (ls.map lotD)) ≤ 1
    rw [ints_deep l]
    exact Nat.max_le.mpr ⟨Nat.le_refl _, lots_deep ls⟩
theorem lots_shaped (ls : List (List Int)) : SeqAt.shaped (.list (ls.map lotD)) = true := by
  show (PyData.canLayAll0 (ls.map lotD) && decide (PyData.depthAll (ls.map lotD) + 1 ≤ 64)) = true
  rw [lots_lay ls, decide_eq_true (by have := lots_deep ls; omega)]
  rfl
theorem eqv_ints : ∀ l : List Int, PyData.eqvAll (l.map PyData.int) (l.map PyData.int) = true
  | [] => rfl
  | i :: l => by
    show ((i == i) && PyData.eqvAll (l.map PyData.int) (l.map PyData.int)) = true
    rw [eqv_ints l, beq_self_eq_true]
    rfl
theorem eqv_lots : ∀ ls : List (List Int), PyData.eqvAll (ls.map lotD) (ls.map lotD) = true
  | [] => rfl
  | l :: ls => by
    show (PyData.eqvAll (l.map PyData.int) (l.map PyData.int) && PyData.eqvAll (ls.map lotD) (ls.map lotD)) = true
    rw [eqv_ints l, eqv_lots ls]
    rfl
theorem eqv_lotsL (ls : List (List Int)) : PyData.eqv (.list (ls.map lotD)) (.list (ls.map lotD)) = true := eqv_lots ls
theorem ints_shaped (l : List Int) : SeqAt.shaped (.list (l.map PyData.int)) = true := by
  show (PyData.canLayAll0 (l.map PyData.int) && decide (PyData.depthAll (l.map PyData.int) + 1 ≤ 64)) = true
  rw [ints_lay l, ints_deep l]
  rfl
theorem lot_shaped (l : List Int) : SeqAt.shaped (lotD l) = true := by
  show (PyData.canLayAll0 (l.map PyData.int) && decide (PyData.depthAll (l.map PyData.int) + 1 ≤ 64)) = true
  rw [ints_lay l, ints_deep l]
  rfl
theorem eqv_nil (ds : List PyData) : PyData.eqv (.list ds) (.list []) = ds.isEmpty := by
  cases ds <;> rfl
theorem eqv_ints2 : ∀ a b : List Int, PyData.eqvAll (a.map PyData.int) (b.map PyData.int) = decide (a = b)
  | [], [] => rfl
  | [], _ :: _ => rfl
  | _ :: _, [] => rfl
  | x :: a, y :: b => by
    show ((x == y) && PyData.eqvAll (a.map PyData.int) (b.map PyData.int)) = decide (x :: a = y :: b)
    rw [eqv_ints2 a b]
    by_cases h1 : x = y
    · subst h1
      by_cases h2 : a = b
      · subst h2
        simp
      · simp [h2]
    · simp [h1]
theorem eqv_lot (a b : List Int) : PyData.eqv (lotD a) (lotD b) = decide (a = b) := eqv_ints2 a b
theorem any_lot (ls : List (List Int)) (l : List Int) : (ls.map lotD).any (fun z => PyData.eqv z (lotD l)) = ls.any (fun z => decide (z = l)) := by
  rw [List.any_map]
  congr 1
  funext z
  exact eqv_lot z l
/-! ### the defs of the text, by All -/
section
variable {P : Program} {w : World} {K : PySem.W.Frag} {mg : Str → Option Value} {base : Heap}
theorem ok_is_whole (L : All K mg) {k : Nat} : FnOk P w K mg base CX0 (k + 1) L.f_is_whole L.fd_is_whole ["thing"] (spWhole K) := okk_is_whole L.D_is_whole L.B
theorem ok_is_curve (L : All K mg) {k : Nat} : FnOk P w K mg base CX0 (k + 2) L.f_is_curve L.fd_is_curve ["thing"] (spIsC K) := okk_is_curve L.D_is_curve L.D_is_whole L.B L.c_MOST_DEEP L.c_MOST_CORNERS
theorem okP_need_curve (L : All K mg) {k : Nat} : FnOk P w K mg base CX0 (k + 3) L.f_need_curve L.fd_need_curve ["curve"] (spNeedC K) := okk_need_curve L.D_need_curve L.D_is_curve L.D_is_whole L.B L.c_MOST_DEEP L.c_MOST_CORNERS
theorem ev_need_curve {σ : L2.St} {H : Hp} {ta : TA} {m d : Int} {E : XK} (h : EvB K ta σ H [curveD m d]) (hc : okC m d) : Ev (tCall (spNeedC K) [] E ta) σ H .non := fun H1 e Q q =>
  h H1 e _ fun vs H2 e2 hv => ⟨m, d, (by show DtAll K H2 (vs ++ []) _; rw [List.append_nil]; exact hv), hc, fun H3 e3 => q H3 (e2.trans e3)⟩
/-- many, deep = curve -/
theorem q_unC {σ : L2.St} {H : Hp} {v : V} {m d : Int} {s i j : Nat} {D : Ends} {tz : TS} (hv : σ[s]? = some (some v)) (h : Dt K H v (curveD m d)) (k : tz D ((σ.set i (some (.int m))).set j (some (.int d))) H) : tSeq (tAsg (tVar s) (gTup K 2 (gCons (gName i) (gCons (gName j) gNil)))) tz D σ H := by
  obtain ⟨a, rfl, hS⟩ := dt_curve h
  exact ⟨_, hv, a, _, rfl, hS, rfl, _, _, rfl, _, _, rfl, rfl, k⟩
theorem ok__law_box (L : All K mg) {k : Nat} : FnOk P w K mg base CX0 (k + 1) L.f__law_box L.fd__law_box ["_law_script", "_law_k"] (spBox K) := okk_box L.D__law_box L.B
theorem ok__law_take (L : All K mg) {k : Nat} : FnOk P w K mg base CX0 (k + 1) L.f__law_take L.fd__law_take ["_law_box_here", "_law_many"] spTake := okk_take L.D__law_take L.B
theorem ok__law_curve (L : All K mg) {k : Nat} : FnOk P w K mg base CX0 (k + 2) L.f__law_curve L.fd__law_curve ["_law_box_here"] (spCurve K) := okk_curve L.D__law_curve L.D__law_take L.B
end
def nextL (m : Int) (l : List Int) : List (List Int) := (upTo (l.getLast?.getD (-1) + 1) m).map fun c => l ++ [c]
def apL (m : Int) (l : List Int) : List Int := (upTo 0 m).filter fun c => !l.contains c
theorem ef_apL {K : PySem.W.Frag} {σ : L2.St} {H : Hp} {ta : TA} {tb : TE} {j : Nat} {vs : List Nat} {m : Int} {l : List Int} (h : EvA ta σ H [.int m]) (m0 : 0 ≤ m) (m1 : m < 1000) (hw : ∀ x, wipe ((wipe σ vs).set j (some x)) vs = wipe σ vs) (hj : ∀ x, ((wipe σ vs).set j (some x))[j]? = some (some x)) (hb : ∀ i H1, Ex H H1 → EvD K tb ((wipe σ vs).set j (some (.int i))) H1 (lotD l)) :
    EvF K (tLc (iRng1 ta) (gName j) (tTest (tOp (rIn K true) (tVar j) tb)) (tVar j) vs) σ H ((apL m l).map PyData.int) :=
  ef_lcR1 (fun c => !l.contains c) PyData.int h ⟨by omega, by omega⟩ hw (fun i H1 e1 _ _ => et_test (ev_niI (K := K) (ev_var (hj _)) (hb i H1 e1))) (fun i H1 e1 _ _ _ => ed_int (ev_var (hj _)))
/-! ### choices: all lots of so many corners -/
def nextN (l : List Int) : Int := match l.getLast? with
  | some x => x + 1
  | none => 0
def chN (m s : Int) : Nat → List (List Int)
  | 0 => [[]]
  | t + 1 => (chN m s t).flatMap fun l => (upTo (nextN l) (m - (s + (t : Int) * -1) + 1)).map fun k => l ++ [k]
def choicesL (m s : Int) : List (List Int) := chN m s s.toNat
def chGood : Bool := (List.range 10).all fun m => (List.range 10).all fun s => decide (choicesL (m : Int) (s : Int) = lotsL (m : Int) s) && (List.range (s + 1)).all fun t => decide ((chN (m : Int) (s : Int) t).length ≤ 300) && (chN (m : Int) (s : Int) t).all fun l => decide (l.length ≤ 20) && decide (-5 ≤ nextN l) && decide (nextN l ≤ 50)
theorem ch_good : chGood = true := by decide +kernel
theorem ch_all {m s : Int} (hp : 0 ≤ m ∧ m < 10 ∧ 0 ≤ s ∧ s < 10) : choicesL m s = lotsL m s.toNat ∧ ∀ {t : Nat}, t ≤ s.toNat → (chN m s t).length ≤ 300 ∧ ∀ l ∈ chN m s t, l.length ≤ 20 ∧ -5 ≤ nextN l ∧ nextN l ≤ 50 := by
  obtain ⟨h1, h2, h3, h4⟩ := hp
  have h := List.all_eq_true.mp ch_good m.toNat (List.mem_range.mpr (by omega))
  have h := List.all_eq_true.mp h s.toNat (List.mem_range.mpr (by omega))
  rw [Bool.and_eq_true, Int.toNat_of_nonneg h1, Int.toNat_of_nonneg h3] at h
  refine ⟨of_decide_eq_true h.1, fun {t} ht => ?_⟩
  have h := List.all_eq_true.mp h.2 t (List.mem_range.mpr (Nat.lt_succ_of_le ht))
  rw [Bool.and_eq_true, List.all_eq_true] at h
  refine ⟨of_decide_eq_true h.1, fun l hl => ?_⟩
  have h2 := h.2 l hl
  rw [Bool.and_eq_true, Bool.and_eq_true] at h2
  exact ⟨of_decide_eq_true h2.1.1, of_decide_eq_true h2.1.2, of_decide_eq_true h2.2⟩
section
variable {P : Program} {w : World} {K : PySem.W.Frag} {mg : Str → Option Value} {base : Heap}
def sp_next_number (K : PySem.W.Frag) : Sp := fun vs H Q _ => ∃ (l : List Int), DtAll K H vs [lotD l] ∧ (True) ∧ ∀ H2, Ex H H2 → Q (.int (nextN l)) H2
theorem ev_next_number {σ : L2.St} {H : Hp} {ta : TA} {E : XK} {l : List Int} (h : EvB K ta σ H [lotD l]) (hp : True) : Ev (tCall (sp_next_number K) [] E ta) σ H (.int (nextN l)) := fun H1 e Q q => h H1 e _ fun vs H2 e2 ha => ⟨l, (by show DtAll K H2 (vs ++ []) _; rw [List.append_nil]; exact ha), hp, fun H3 e3 => q H3 (e2.trans e3)⟩
theorem ok_next_number (L : All K mg) {k : Nat} : FnOk P w K mg base CX0 (k + 1) L.f_next_number L.fd_next_number ["some"] (sp_next_number K) := by
  have B := L.B
  refine L.D_next_number.F.ok sc_next_number (fun vs H Q E h => ?_) (fun cdv A outer s H vs Q E hr h => ?_)
  · obtain ⟨l, h, _⟩ := h
    rw [dta_len h]
    rfl
  · obtain ⟨l, h, hp, q⟩ := h
    obtain ⟨v0, rfl, h0⟩ := dta1 h
    refine ⟨_, (pss_one (ps_ret (pe_ifExp (pt_truth (pv 0) (by intro _; rfl)) (pe_op op_add (pe_ix (show IxR _ (rIxT K) from ix_tup) (pv 0) (pe_un un_neg pe_int) (fun _ _ => rfl)) pe_int) pe_int))), ?_⟩
    refine s_ret (v := .int (nextN l)) (ev_if (et_truT (K := K) (ds := l.map PyData.int) (ed_var rfl h0)) (fun hb => ?_) (fun hb => ?_)) fun H1 e1 => q H1 e1
    · cases l with
      | nil => cases hb
      | cons x r =>
        refine ev_is (ev_op (ev_int (K := K) (ed_ixT (ds := (x :: r).map PyData.int) (ed_var rfl h0) (ev_un ev_c ru_neg) (lotD_ix (lastD (x :: r) (List.cons_ne_nil x r))))) ev_c rv_I0) ?_
        unfold nextN
        rw [List.getLast?_eq_some_getLast (List.cons_ne_nil x r)]
    · cases l with
      | nil => exact ev_c
      | cons x r => cases hb
def sp_choices (K : PySem.W.Frag) : Sp := fun vs H Q _ => ∃ (m d : Int), DtAll K H vs [.int m, .int d] ∧ (0 ≤ m ∧ m < 10 ∧ 0 ≤ d ∧ d < 10) ∧ ∀ p xs H2, H p = none → Ex H H2 → H2 p = some (.lst xs) → DtAll K H2 xs ((lotsL m d.toNat).map lotD) → Q (.ref p) H2
theorem ev_choices {σ : L2.St} {H : Hp} {ta : TA} {E : XK} {m d : Int} (h : EvB K ta σ H [.int m, .int d]) (hp : 0 ≤ m ∧ m < 10 ∧ 0 ≤ d ∧ d < 10) : EvF K (tCall (sp_choices K) [] E ta) σ H ((lotsL m d.toNat).map lotD) := fun H1 e Q q => h H1 e _ fun vs H2 e2 ha => ⟨m, d, (by show DtAll K H2 (vs ++ []) _; rw [List.append_nil]; exact ha), hp, fun p xs H3 np e3 hx hd => q p xs H3 (fresh_back e2 np) (e2.trans e3) hx hd⟩
theorem ok_choices (L : All K mg) {k : Nat} : FnOk P w K mg base CX0 (k + 2) L.f_choices L.fd_choices ["many", "size"] (sp_choices K) := by
  have B := L.B
  have D_next_number := L.D_next_number
  have G_next_number := ok_next_number (P := P) (w := w) (base := base) L (k := 0)
  refine L.D_choices.F.ok sc_choices (fun vs H Q E h => ?_) (fun cdv A outer s H vs Q E hr h => ?_)
  · obtain ⟨m, d, h, _⟩ := h
    rw [dta_len h]
    rfl
  · obtain ⟨m, d, h, hp, q⟩ := h
    obtain ⟨v0, v1, rfl, h0, h1⟩ := dta2 h
    obtain rfl := dt_int h0
    obtain rfl := dt_int h1
    refine ⟨_, (pss_cons (ps_set (i := 2) sc_choices.nd rfl (.inl rfl) (pe_lst (pa_cons (pe_tup pa_nil) pa_nil)))  (pss_cons (ps_for PassesOwn.never rfl (pi_range3 (by rfl) B.range_ (pa_cons (pv 1) (pa_cons pe_int (pa_cons (pe_un un_neg pe_int) pa_nil)))) (pg_name (i := 3) sc_choices.nd rfl (.inr rfl))   (pss_one (ps_setLc2 (i := 2) (own := [("some", 4), ("k", 5)]) (vs1 := [5]) rfl sc_choices.nd rfl rfl (sw_true rfl rfl rfl (by decide +kernel)) (pi_list (pv 2)) (blkOk_by (own := [("some", 4), ("k", 5)]) (N := N_choices) (sc := defScope s_choices) (by decide +kernel)) (by decide) (fun _ _ _ _ _ => (pg_name (i := 4) sc_choices.nd rfl (.inl rfl))) (fun _ _ _ _ _ => pts_nil) (fun _ _ _ _ _ => (pi_range2 (by rfl) B.range_ (pa_cons (pe_call G_next_number (hr.mono (by omega)) (by rfl) D_next_number.g D_next_number.F.kp D_next_number.b .nil pass0 (pa_cons (pv 4) pa_nil)) (pa_cons (pe_op op_add (pe_op op_sub (pv 0) (pv 3)) pe_int) pa_nil)))) (fun _ _ _ _ _ => (pg_name (i := 5) sc_choices.nd rfl (.inl rfl))) (fun _ _ _ _ _ => pts_nil) (fun _ _ _ _ _ => (pe_op (show OpR _ _ (rCatA K) from op_catA) (pv 4) (pe_tup (pa_cons (pv 5) pa_nil)))))))  (pss_one (ps_ret (pv 2))))), ?_⟩
    obtain ⟨hch, hf0⟩ := ch_all hp
    obtain ⟨m0, m1, d0, d1⟩ := hp
    refine q_asgF (K := K) (ds := [lotD []]) (ef_lst (eb_cons (ed_tup eb_nil (by decide)) eb_nil) (by decide)) fun p xs H1 np e1 hp hx => ?_
    refine ⟨_, rfl, 1, rfl, d, 0, -1, (d - 0).toNat, rfl, RgC.neg (by omega) (by omega) (by decide) (by decide), for_it walk_rangeC (fun i σ' H' => ∃ (p : Addr) (xs : List V) (y3 y4 y5 : Option V), σ' = [some (.int m), some (.int d), some (.ref p), y3, y4, y5] ∧ H p = none ∧ Ex H H' ∧ H' p = some (.lst xs) ∧ DtAll K H' xs ((chN m d i).map lotD)) ⟨p, xs, _, _, _, rfl, np, e1, hp, hx⟩ (fun _ _ _ _ _ => True.intro) (fun i x σ' H' H'' hi hw hy => ?_) (fun σ' H' hw => ?_)⟩
    · obtain ⟨p, xs, y3, y4, y5, rfl, np, e', hp, hx⟩ := hw
      obtain ⟨e2, rfl⟩ := hy
      subst e2
      have hf := hf0 (t := i) (by omega)
      have hf1 := hf0 (t := i + 1) (by omega)
      refine s_asgF (K := K) (ds := (chN m d (i + 1)).map lotD) (ef_is (ef_lc2 (ds := (chN m d i).map lotD) (fun x => nextN (unlot x)) (m - (d + (i : Int) * -1) + 1) (fun x c => lotD (unlot x ++ [c])) (ev_var rfl) (sq_of hp) hx ?_ (fun _ => rfl) (fun _ _ => rfl) (fun x hm => ?_) (fun x v H3 e3 hm hv => ?_) (fun x v c H3 e3 hm hv => ?_)) ?_) fun r zs H3 nr e3 hr3 hz3 => ⟨r, zs, _, _, _, rfl, fresh_back e' nr, e'.trans e3, hr3, hz3⟩
      · have : ((chN m d i).map lotD).flatMap (fun x => (upTo (nextN (unlot x)) (m - (d + (i : Int) * -1) + 1)).map fun c => lotD (unlot x ++ [c])) = (chN m d (i + 1)).map lotD := by
          rw [List.flatMap_map]
          show _ = ((chN m d i).flatMap _).map lotD
          rw [List.map_flatMap]
          congr 1
          funext l
          rw [unlot_lot, List.map_map]
          rfl
        rw [this, List.length_map]
        omega
      · obtain ⟨l, hl, rfl⟩ := mem_lots hm
        rw [unlot_lot]
        have := (hf.2 l hl).2
        omega
      · obtain ⟨l, hl, rfl⟩ := mem_lots hm
        rw [unlot_lot]
        exact ea_cons (ev_next_number (K := K) (eb_cons (ed_var rfl hv) eb_nil) True.intro) (ea_cons (ev_op (ev_op (ev_var rfl) (ev_var rfl) rv_I0) ev_c rv_I0) ea_nil)
      · obtain ⟨l, hl, rfl⟩ := mem_lots hm
        rw [unlot_lot]
        exact ed_catI (r := [c]) (ed_var rfl hv) (ed_tup (eb_cons (ed_int (ev_var rfl)) eb_nil) (by show 1 ≤ 100000; decide)) (by have := (hf.2 l hl).1; show l.length + 1 ≤ 1000; omega)
      · rw [List.flatMap_map]
        show _ = ((chN m d i).flatMap _).map lotD
        rw [List.map_flatMap]
        congr 1
        funext l
        rw [unlot_lot, List.map_map]
        rfl
    · obtain ⟨p, xs, y3, y4, y5, rfl, np, e', hp, hx⟩ := hw
      refine s_ret (ev_var rfl) fun H2 e2 => q p xs H2 np (e'.trans e2) (e2 p _ hp) ?_
      rw [show (d - 0).toNat = d.toNat by omega] at hx
      rw [← hch]
      exact dta_ex e2 hx
/-! ### faces -/
end
/-! ### panes from pairs of neighbours -/
def pairedN (c : List Int) (f : Int) (i : Nat) : List Int := (List.range i).flatMap fun j => [f + c.getD j 0 + (j : Int), f + c.getD j 0 + (j : Int) + 1]
def pairedF (c : List Int) (f : Int) : List Int := pairedN c f c.length
theorem pairedN_len (c : List Int) (f : Int) (i : Nat) : (pairedN c f i).length = 2 * i := by
  unfold pairedN
  induction i with
  | zero => rfl
  | succ i ih => rw [List.range_succ, List.flatMap_append, List.length_append, ih]; simp; omega
def endF (m d : Int) (h t : List Int) : List (List Int) := (lotsL (m - (h.length : Int) - (t.length : Int) - (d - (h.length : Int) - (t.length : Int)) / 2) ((d - (h.length : Int) - (t.length : Int)) / 2).toNat).map fun c => h ++ pairedF c (h.length : Int) ++ t
def lowF (m d : Int) : List (List Int) := endF m d (if d % 2 = 1 then [0] else []) []
def highF (m d : Int) : List (List Int) := endF m d (if d % 2 = 0 then [0] else []) [m - 1]
section
variable {P : Program} {w : World} {K : PySem.W.Frag} {mg : Str → Option Value} {base : Heap}
def sp_paired (K : PySem.W.Frag) : Sp := fun vs H Q _ => ∃ (c : List Int) (f : Int), DtAll K H vs [lotD c, .int f] ∧ (c.length ≤ 100) ∧ ∀ v H2, Ex H H2 → Dt K H2 v (lotD (pairedF c f)) → Q v H2
theorem ev_paired {σ : L2.St} {H : Hp} {ta : TA} {E : XK} {c : List Int} {f : Int} (h : EvB K ta σ H [lotD c, .int f]) (hp : c.length ≤ 100) : EvD K (tCall (sp_paired K) [] E ta) σ H (lotD (pairedF c f)) := fun H1 e Q q => h H1 e _ fun vs H2 e2 ha => ⟨c, f, (by show DtAll K H2 (vs ++ []) _; rw [List.append_nil]; exact ha), hp, fun v H3 e3 hv => q v H3 (e2.trans e3) hv⟩
theorem ok_paired (L : All K mg) {k : Nat} : FnOk P w K mg base CX0 (k + 1) L.f_paired L.fd_paired ["chosen", "first"] (sp_paired K) := by
  have B := L.B
  refine L.D_paired.F.ok sc_paired (fun vs H Q E h => ?_) (fun cdv A outer s H vs Q E hr h => ?_)
  · obtain ⟨c, f, h, _⟩ := h
    rw [dta_len h]
    rfl
  · obtain ⟨c, f, h, hp, q⟩ := h
    obtain ⟨v0, v1, rfl, h0, h1⟩ := dta2 h
    obtain rfl := dt_int h1
    refine ⟨_, (pss_cons (ps_set (i := 2) sc_paired.nd rfl (.inl rfl) (pe_tup pa_nil))  (pss_cons (ps_for PassesOwn.never rfl (pi_enumT (by rfl) B.enumerate_ (pa_cons (pv 0) pa_nil)) (pg_tup (by rfl) (pgs_cons (pg_name (i := 3) sc_paired.nd rfl (.inl rfl)) (pgs_cons (pg_name (i := 4) sc_paired.nd rfl (.inl rfl)) pgs_nil)))   (pss_one (ps_set (i := 2) sc_paired.nd rfl (.inl rfl) (pe_op (show OpR _ _ (rCatA K) from op_catA) (pv 2) (pe_tup (pa_cons (pe_op op_add (pe_op op_add (pv 1) (pv 4)) (pv 3)) (pa_cons (pe_op op_add (pe_op op_add (pe_op op_add (pv 1) (pv 4)) (pv 3)) pe_int) pa_nil)))))))  (pss_one (ps_ret (pv 2))))), ?_⟩
    obtain ⟨ca, rfl, hS⟩ := dt_lot h0
    refine q_asgD (K := K) (d := lotD []) (ed_tup eb_nil (by decide)) fun v H1 e1 hv => ?_
    refine ⟨_, rfl, ca, c.map V.int, rfl, ex_t e1 hS, for_it (walk_enumT (K := K) (a := ca) (xs := c.map V.int)) (fun i σ' H' => ∃ (v : V) (y3 y4 : Option V), σ' = [some (.ref ca), some (.int f), some v, y3, y4] ∧ Ex H H' ∧ Dt K H' v (lotD (pairedN c f i))) ⟨v, _, _, rfl, e1, hv⟩ (fun i σ' H' _ hw => ?_) (fun i x σ' H' H'' hi hw hy => ?_) (fun σ' H' hw => ?_)⟩
    · obtain ⟨v, y3, y4, rfl, e2, _⟩ := hw
      exact ex_t e2 hS
    · obtain ⟨v, y3, y4, rfl, e2, hv2⟩ := hw
      obtain ⟨T, x1, x2, rfl, nT, rfl, g1, g2⟩ := hy
      cases Option.some.inj g1
      rw [List.length_map] at hi
      replace g2 : (c.map V.int)[i]? = some x2 := g2
      rw [List.getElem?_map, List.getElem?_eq_getElem hi] at g2
      cases Option.some.inj g2
      have hget : c.getD i 0 = c[i] := by
        rw [List.getD_eq_getElem?_getD, List.getElem?_eq_getElem hi]
        rfl
      have eT : Ex H' (upd H' T (.tup [.int (i : Nat), .int c[i]])) := Ex.new nT
      refine ⟨T, _, rfl, st_of upd_same, rfl, _, _, rfl, _, _, rfl, rfl, ?_⟩
      refine s_asgD (K := K) (d := lotD (pairedN c f (i + 1))) (ed_is (ed_catI (l := pairedN c f i) (r := [f + c[i] + (i : Int), f + c[i] + (i : Int) + 1]) (ed_var rfl (dt_ex eT hv2)) (ed_tup (eb_cons (ed_int (ev_op (ev_op (ev_var rfl) (ev_var rfl) rv_I0) (ev_var rfl) rv_I0)) (eb_cons (ed_int (ev_op (ev_op (ev_op (ev_var rfl) (ev_var rfl) rv_I0) (ev_var rfl) rv_I0) ev_c rv_I0)) eb_nil)) (by show 2 ≤ 100000; decide)) ?_) ?_) fun v H3 e3 hv3 => ⟨v, _, _, rfl, (e2.trans eT).trans e3, hv3⟩
      · rw [pairedN_len]
        show 2 * i + 2 ≤ 1000
        omega
      · unfold pairedN
        rw [List.range_succ, List.flatMap_append, ← hget]
        simp
    · obtain ⟨v, y3, y4, rfl, e2, hv2⟩ := hw
      rw [List.length_map] at hv2
      exact s_retD (K := K) (ed_var rfl hv2) fun v H3 e3 hv3 => q v H3 (e2.trans e3) hv3
def sp_ended (K : PySem.W.Frag) : Sp := fun vs H Q _ => ∃ (m d : Int) (pr su : List Int), DtAll K H vs [.int m, .int d, lotD pr, lotD su] ∧ (pr.length ≤ 1 ∧ su.length ≤ 1 ∧ (pr.length : Int) + (su.length : Int) ≤ d ∧ d ≤ m ∧ m < 10) ∧ ∀ p xs H2, H p = none → Ex H H2 → H2 p = some (.lst xs) → DtAll K H2 xs ((endF m d pr su).map lotD) → Q (.ref p) H2
theorem ev_ended {σ : L2.St} {H : Hp} {ta : TA} {E : XK} {m d : Int} {pr su : List Int} (h : EvB K ta σ H [.int m, .int d, lotD pr, lotD su]) (hp : pr.length ≤ 1 ∧ su.length ≤ 1 ∧ (pr.length : Int) + (su.length : Int) ≤ d ∧ d ≤ m ∧ m < 10) : EvF K (tCall (sp_ended K) [] E ta) σ H ((endF m d pr su).map lotD) := fun H1 e Q q => h H1 e _ fun vs H2 e2 ha => ⟨m, d, pr, su, (by show DtAll K H2 (vs ++ []) _; rw [List.append_nil]; exact ha), hp, fun p xs H3 np e3 hx hd => q p xs H3 (fresh_back e2 np) (e2.trans e3) hx hd⟩
theorem ok_ended (L : All K mg) {k : Nat} : FnOk P w K mg base CX0 (k + 3) L.f_ended L.fd_ended ["many", "deep", "head", "tail"] (sp_ended K) := by
  have B := L.B
  have D_choices := L.D_choices
  have G_choices := ok_choices (P := P) (w := w) (base := base) L (k := 0)
  have D_paired := L.D_paired
  have G_paired := ok_paired (P := P) (w := w) (base := base) L (k := 0)
  refine L.D_ended.F.ok sc_ended (fun vs H Q E h => ?_) (fun cdv A outer s H vs Q E hr h => ?_)
  · obtain ⟨m, d, pr, su, h, _⟩ := h
    rw [dta_len h]
    rfl
  · obtain ⟨m, d, pr, su, h, hp, q⟩ := h
    obtain ⟨v0, v1, v2, v3, rfl, h0, h1, h2, h3⟩ := dta4 h
    obtain rfl := dt_int h0
    obtain rfl := dt_int h1
    refine ⟨_, (pss_cons (ps_set (i := 4) sc_ended.nd rfl (.inl rfl) (pe_op op_fdiv (pe_op op_sub (pe_op op_sub (pv 1) (pe_callB (show CallR _ _ (rLenS K) from call_len_seq) (by rfl) B.len_ (by decide +kernel) (pa_cons (pv 2) pa_nil))) (pe_callB (show CallR _ _ (rLenS K) from call_len_seq) (by rfl) B.len_ (by decide +kernel) (pa_cons (pv 3) pa_nil))) pe_int))  (pss_cons (ps_set (i := 5) sc_ended.nd rfl (.inl rfl) (pe_op op_sub (pe_op op_sub (pv 0) (pe_callB (show CallR _ _ (rLenS K) from call_len_seq) (by rfl) B.len_ (by decide +kernel) (pa_cons (pv 2) pa_nil))) (pe_callB (show CallR _ _ (rLenS K) from call_len_seq) (by rfl) B.len_ (by decide +kernel) (pa_cons (pv 3) pa_nil))))  (pss_one (ps_ret (pe_lc (own := [("chosen", 6)]) rfl sc_ended.nd (pi_list (pe_call G_choices (hr.mono (by omega)) (by rfl) D_choices.g D_choices.F.kp D_choices.b .nil pass0 (pa_cons (pe_op op_sub (pv 5) (pv 4)) (pa_cons (pv 4) pa_nil)))) (blkOk_by (own := [("chosen", 6)]) (N := N_ended) (sc := defScope s_ended) (by decide +kernel)) (fun _ _ _ _ _ => (pg_name (i := 6) sc_ended.nd rfl (.inl rfl))) (fun _ _ _ _ _ => pts_nil) (fun _ _ _ _ _ => (pe_op (show OpR _ _ (rCatA K) from op_catA) (pe_op (show OpR _ _ (rCatA K) from op_catA) (pv 2) (pe_call G_paired (hr.mono (by omega)) (by rfl) D_paired.g D_paired.F.kp D_paired.b .nil pass0 (pa_cons (pv 6) (pa_cons (pe_callB (show CallR _ _ (rLenS K) from call_len_seq) (by rfl) B.len_ (by decide +kernel) (pa_cons (pv 2) pa_nil)) pa_nil)))) (pv 3)))))))), ?_⟩
    obtain ⟨p1, p2, p3, p4, p5⟩ := hp
    refine q_asg (v := .int ((d - (pr.length : Int) - (su.length : Int)) / 2)) (ev_op (ev_op (ev_op (ev_var rfl) (ev_lenI (K := K) (ed_var rfl h2)) rv_I0) (ev_lenI (K := K) (ed_var rfl h3)) rv_I0) ev_c (rv_I ⟨by decide, by decide⟩)) fun H1 e1 => ?_
    refine q_asg (v := .int (m - (pr.length : Int) - (su.length : Int))) (ev_op (ev_op (ev_var rfl) (ev_lenI (K := K) (ed_var rfl (dt_ex e1 h2))) rv_I0) (ev_lenI (K := K) (ed_var rfl (dt_ex e1 h3))) rv_I0) fun H2 e2 => ?_
    have e12 := e1.trans e2
    have hll : (lotsL (m - (pr.length : Int) - (su.length : Int) - (d - (pr.length : Int) - (su.length : Int)) / 2) ((d - (pr.length : Int) - (su.length : Int)) / 2).toNat).length ≤ 200 := lots_len (by omega) (by omega) (by omega)
    refine s_retF (ef_is (ef_lcF (ds := (lotsL (m - (pr.length : Int) - (su.length : Int) - (d - (pr.length : Int) - (su.length : Int)) / 2) ((d - (pr.length : Int) - (su.length : Int)) / 2).toNat).map lotD) (fun _ => true) (fun x => lotD (pr ++ pairedF (unlot x) (pr.length : Int) ++ su)) (ev_choices (K := K) (eb_cons (ed_int (ev_op (ev_var rfl) (ev_var rfl) rv_I0)) (eb_cons (ed_int (ev_var rfl)) eb_nil)) (by first | assumption | omega | (refine ⟨?_, ?_⟩ <;> first | assumption | omega) | (refine ⟨?_, ?_, ?_⟩ <;> first | assumption | omega) | (refine ⟨?_, ?_, ?_, ?_⟩ <;> first | assumption | omega) | (repeat' apply And.intro) <;> first | assumption | omega)) (by rw [List.length_map]; omega) (fun _ => rfl) (fun _ _ _ _ _ _ => et_yes) (fun x v H3 e3 hm hx _ => ?_)) ?_) fun p xs H3 np e3 hp hx => q p xs H3 (fresh_back e12 np) (e12.trans e3) hp hx
    · obtain ⟨l, hl, rfl⟩ := mem_lots hm
      rw [unlot_lot]
      have hsz := lots_sz hl
      have hpl := pairedN_len l (pr.length : Int) l.length
      refine ed_catI (ed_catI (ed_var rfl (dt_ex (e12.trans e3) h2)) (ev_paired (K := K) (eb_cons (ed_var rfl hx) (eb_cons (ed_int (ev_lenI (K := K) (ed_var rfl (dt_ex (e12.trans e3) h2)))) eb_nil)) (by omega)) ?_) (ed_var rfl (dt_ex (e12.trans e3) h3)) ?_
      · show pr.length + (pairedN l (pr.length : Int) l.length).length ≤ 1000
        omega
      · rw [List.length_append]
        show pr.length + (pairedN l (pr.length : Int) l.length).length + su.length ≤ 1000
        omega
    · rw [List.filter_eq_self.mpr (fun _ _ => rfl), List.map_map]
      unfold endF
      rw [List.map_map]
      congr 1
      funext l
      show lotD (pr ++ pairedF (unlot (lotD l)) (pr.length : Int) ++ su) = _
      rw [unlot_lot]
      rfl
def sp_low_lots (K : PySem.W.Frag) : Sp := fun vs H Q _ => ∃ (m d : Int), DtAll K H vs [.int m, .int d] ∧ (1 ≤ d ∧ d ≤ m ∧ m < 10) ∧ ∀ p xs H2, H p = none → Ex H H2 → H2 p = some (.lst xs) → DtAll K H2 xs ((lowF m d).map lotD) → Q (.ref p) H2
theorem ev_low_lots {σ : L2.St} {H : Hp} {ta : TA} {E : XK} {m d : Int} (h : EvB K ta σ H [.int m, .int d]) (hp : 1 ≤ d ∧ d ≤ m ∧ m < 10) : EvF K (tCall (sp_low_lots K) [] E ta) σ H ((lowF m d).map lotD) := fun H1 e Q q => h H1 e _ fun vs H2 e2 ha => ⟨m, d, (by show DtAll K H2 (vs ++ []) _; rw [List.append_nil]; exact ha), hp, fun p xs H3 np e3 hx hd => q p xs H3 (fresh_back e2 np) (e2.trans e3) hx hd⟩
theorem ok_low_lots (L : All K mg) {k : Nat} : FnOk P w K mg base CX0 (k + 4) L.f_low_lots L.fd_low_lots ["many", "deep"] (sp_low_lots K) := by
  have B := L.B
  have D_ended := L.D_ended
  have G_ended := ok_ended (P := P) (w := w) (base := base) L (k := 0)
  refine L.D_low_lots.F.ok sc_low_lots (fun vs H Q E h => ?_) (fun cdv A outer s H vs Q E hr h => ?_)
  · obtain ⟨m, d, h, _⟩ := h
    rw [dta_len h]
    rfl
  · obtain ⟨m, d, h, hp, q⟩ := h
    obtain ⟨v0, v1, rfl, h0, h1⟩ := dta2 h
    obtain rfl := dt_int h0
    obtain rfl := dt_int h1
    refine ⟨_, (pss_one (ps_ret (pe_call G_ended (hr.mono (by omega)) (by rfl) D_ended.g D_ended.F.kp D_ended.b .nil pass0 (pa_cons (pv 0) (pa_cons (pv 1) (pa_cons (pe_ifExp (pt_cmpR op_eq (pe_op op_mod (pv 1) pe_int) pe_int (nomark _)) (pe_tup (pa_cons pe_int pa_nil)) (pe_tup pa_nil)) (pa_cons (pe_tup pa_nil) pa_nil))))))), ?_⟩
    obtain ⟨p1, p2, p3⟩ := hp
    refine s_retF (ev_ended (K := K) (pr := if d % 2 = 1 then [0] else []) (su := []) (eb_cons (ed_int (ev_var rfl)) (eb_cons (ed_int (ev_var rfl)) (eb_cons (ed_if (b := decide (d % 2 = 1)) (et_test (ev_op (ev_op (ev_var rfl) ev_c (rv_I (by first | exact (by decide : (0 : Int) < 2) | omega))) ev_c rv_eqI)) (fun hb => ?_) (fun hb => ?_)) (eb_cons (ed_tup eb_nil (by decide)) eb_nil)))) ?_) fun p xs H3 np e3 hp hx => q p xs H3 np e3 hp hx
    · rw [if_pos (of_decide_eq_true hb)]
      exact ed_tup (eb_cons (ed_int ev_c) eb_nil) (by decide)
    · rw [if_neg (of_decide_eq_false hb)]
      exact ed_tup eb_nil (by decide)
    · by_cases hd : d % 2 = 1
      · rw [if_pos hd]
        exact ⟨by decide, by decide, by show (1 : Int) + 0 ≤ d; omega, p2, p3⟩
      · rw [if_neg hd]
        exact ⟨by decide, by decide, by show (0 : Int) + 0 ≤ d; omega, p2, p3⟩
def sp_high_lots (K : PySem.W.Frag) : Sp := fun vs H Q _ => ∃ (m d : Int), DtAll K H vs [.int m, .int d] ∧ (1 ≤ d ∧ d ≤ m ∧ m < 10) ∧ ∀ p xs H2, H p = none → Ex H H2 → H2 p = some (.lst xs) → DtAll K H2 xs ((highF m d).map lotD) → Q (.ref p) H2
theorem ev_high_lots {σ : L2.St} {H : Hp} {ta : TA} {E : XK} {m d : Int} (h : EvB K ta σ H [.int m, .int d]) (hp : 1 ≤ d ∧ d ≤ m ∧ m < 10) : EvF K (tCall (sp_high_lots K) [] E ta) σ H ((highF m d).map lotD) := fun H1 e Q q => h H1 e _ fun vs H2 e2 ha => ⟨m, d, (by show DtAll K H2 (vs ++ []) _; rw [List.append_nil]; exact ha), hp, fun p xs H3 np e3 hx hd => q p xs H3 (fresh_back e2 np) (e2.trans e3) hx hd⟩
theorem ok_high_lots (L : All K mg) {k : Nat} : FnOk P w K mg base CX0 (k + 4) L.f_high_lots L.fd_high_lots ["many", "deep"] (sp_high_lots K) := by
  have B := L.B
  have D_ended := L.D_ended
  have G_ended := ok_ended (P := P) (w := w) (base := base) L (k := 0)
  refine L.D_high_lots.F.ok sc_high_lots (fun vs H Q E h => ?_) (fun cdv A outer s H vs Q E hr h => ?_)
  · obtain ⟨m, d, h, _⟩ := h
    rw [dta_len h]
    rfl
  · obtain ⟨m, d, h, hp, q⟩ := h
    obtain ⟨v0, v1, rfl, h0, h1⟩ := dta2 h
    obtain rfl := dt_int h0
    obtain rfl := dt_int h1
    refine ⟨_, (pss_one (ps_ret (pe_call G_ended (hr.mono (by omega)) (by rfl) D_ended.g D_ended.F.kp D_ended.b .nil pass0 (pa_cons (pv 0) (pa_cons (pv 1) (pa_cons (pe_ifExp (pt_cmpR op_eq (pe_op op_mod (pv 1) pe_int) pe_int (nomark _)) (pe_tup (pa_cons pe_int pa_nil)) (pe_tup pa_nil)) (pa_cons (pe_tup (pa_cons (pe_op op_sub (pv 0) pe_int) pa_nil)) pa_nil))))))), ?_⟩
    obtain ⟨p1, p2, p3⟩ := hp
    refine s_retF (ev_ended (K := K) (pr := if d % 2 = 0 then [0] else []) (su := [m - 1]) (eb_cons (ed_int (ev_var rfl)) (eb_cons (ed_int (ev_var rfl)) (eb_cons (ed_if (b := decide (d % 2 = 0)) (et_test (ev_op (ev_op (ev_var rfl) ev_c (rv_I (by first | exact (by decide : (0 : Int) < 2) | omega))) ev_c rv_eqI)) (fun hb => ?_) (fun hb => ?_)) (eb_cons (ed_tup (eb_cons (ed_int (ev_op (ev_var rfl) ev_c rv_I0)) eb_nil) (by show 1 ≤ 100000; decide)) eb_nil)))) ?_) fun p xs H3 np e3 hp hx => q p xs H3 np e3 hp hx
    · rw [if_pos (of_decide_eq_true hb)]
      exact ed_tup (eb_cons (ed_int ev_c) eb_nil) (by decide)
    · rw [if_neg (of_decide_eq_false hb)]
      exact ed_tup eb_nil (by decide)
    · by_cases hd : d % 2 = 0
      · rw [if_pos hd]
        exact ⟨by decide, by show 1 ≤ 1; decide, by show (1 : Int) + 1 ≤ d; omega, p2, p3⟩
      · rw [if_neg hd]
        exact ⟨by decide, by show 1 ≤ 1; decide, by show (0 : Int) + 1 ≤ d; omega, p2, p3⟩
end
/-! ### the law's helpers for covers -/
theorem lastN (l : List Int) : l ≠ [] → atI (l.map PyData.int) (-1) = some (.int (l.getLast?.getD (-1))) := fun h => by
  rw [List.getLast?_eq_some_getLast h]
  exact lotD_ix (lastD l h)
def evenL (m : Int) (l : List Int) : Bool := ((List.range ((apL m l).length - 1)).all fun i => !decide (((apL m l).getD (i + 1) 0 - (apL m l).getD i 0) % 2 = 0))
section
variable {P : Program} {w : World} {K : PySem.W.Frag} {mg : Str → Option Value} {base : Heap}
theorem s_extF {D : Ends} {σ : L2.St} {H : Hp} {ta te : TE} {l : Addr} {xs : List V} {es : List PyData} (hl : H l = some (.lst xs)) (ha : Ev ta σ H (.ref l)) (h : EvF K te σ H es) (hz : xs.length + es.length ≤ 100000) (k : ∀ ys H1, Ex H H1 → DtAll K H1 ys es → D.nx σ (upd H1 l (.lst (xs ++ ys)))) :
    tDrop (tBM K "list" rExtend ta (tCons te tNil)) D σ H := ha H (Ex.refl H) _ fun H1 e1 =>
  ⟨.inl ⟨rfl, xs, sq_of (e1 l _ hl)⟩, h H1 e1 _ fun b ys H2 nb e2 hb hy => ⟨l, b, xs, ys, rfl, rfl, e2 l _ (e1 l _ hl), hb, sz_of (by rw [dta_len hy]; exact hz), k ys H2 (e1.trans e2) hy⟩⟩
def sp__law_lots (K : PySem.W.Frag) : Sp := fun vs H Q _ => ∃ (m z : Int), DtAll K H vs [.int m, .int z] ∧ (0 ≤ m ∧ m < 10 ∧ 0 ≤ z ∧ z < 10) ∧ ∀ p xs H2, H p = none → Ex H H2 → H2 p = some (.lst xs) → DtAll K H2 xs ((lotsL m z.toNat).map lotD) → Q (.ref p) H2
theorem ev__law_lots {σ : L2.St} {H : Hp} {ta : TA} {E : XK} {m z : Int} (h : EvB K ta σ H [.int m, .int z]) (hp : 0 ≤ m ∧ m < 10 ∧ 0 ≤ z ∧ z < 10) : EvF K (tCall (sp__law_lots K) [] E ta) σ H ((lotsL m z.toNat).map lotD) := fun H1 e Q q => h H1 e _ fun vs H2 e2 ha => ⟨m, z, (by show DtAll K H2 (vs ++ []) _; rw [List.append_nil]; exact ha), hp, fun p xs H3 np e3 hx hd => q p xs H3 (fresh_back e2 np) (e2.trans e3) hx hd⟩
theorem ok__law_lots (L : All K mg) {k : Nat} : FnOk P w K mg base CX0 (k + 1) L.f__law_lots L.fd__law_lots ["_law_many", "_law_size"] (sp__law_lots K) := by
  have B := L.B
  refine L.D__law_lots.F.ok sc__law_lots (fun vs H Q E h => ?_) (fun cdv A outer s H vs Q E hr h => ?_)
  · obtain ⟨m, z, h, _⟩ := h
    rw [dta_len h]
    rfl
  · obtain ⟨m, z, h, hp, q⟩ := h
    obtain ⟨v0, v1, rfl, h0, h1⟩ := dta2 h
    obtain rfl := dt_int h0
    obtain rfl := dt_int h1
    refine ⟨_, (pss_cons (ps_set (i := 2) sc__law_lots.nd rfl (.inl rfl) (pe_lst (pa_cons (pe_tup pa_nil) pa_nil)))  (pss_cons (ps_for PassesOwn.never rfl (pi_range1 (by rfl) B.range_ (pa_cons (pv 1) pa_nil)) (pg_name (i := 3) sc__law_lots.nd rfl (.inl rfl))   (pss_cons (ps_set (i := 4) sc__law_lots.nd rfl (.inl rfl) (pe_lst pa_nil))  (pss_cons (ps_for PassesOwn.never rfl (pi_list (pv 2)) (pg_name (i := 5) sc__law_lots.nd rfl (.inr rfl))   (pss_cons (ps_set (i := 6) sc__law_lots.nd rfl (.inl rfl) pe_int)  (pss_cons (ps_if (pt_cmpR (show OpR _ _ (rNeD K) from op_neD hr.units) (pv 5) (pe_tup pa_nil) (nomark _))   (pss_one (ps_set (i := 6) sc__law_lots.nd rfl (.inl rfl) (pe_op op_add (pe_ix (show IxR _ (rIxT K) from ix_tup) (pv 5) (pe_un un_neg pe_int) (fun _ _ => rfl)) pe_int)))   pss_nil)  (pss_one (ps_expr (pe_bm PySem.F.plainAttrs_list PySem.F.slot_list_extend PySem.F.type_list_extend mt_extend (pv 4) (pa_cons (pe_lc (own := [("_law_corner", 7)]) rfl sc__law_lots.nd (pi_range2 (by rfl) B.range_ (pa_cons (pv 6) (pa_cons (pv 0) pa_nil))) (blkOk_by (own := [("_law_corner", 7)]) (N := N__law_lots) (sc := defScope s__law_lots) (by decide +kernel)) (fun _ _ _ _ _ => (pg_name (i := 7) sc__law_lots.nd rfl (.inl rfl))) (fun _ _ _ _ _ => pts_nil) (fun _ _ _ _ _ => (pe_op (show OpR _ _ (rCatA K) from op_catA) (pv 5) (pe_tup (pa_cons (pv 7) pa_nil))))) pa_nil)))))))  (pss_one (ps_set (i := 2) sc__law_lots.nd rfl (.inl rfl) (pv 4))))))  (pss_one (ps_ret (pv 2))))), ?_⟩
    obtain ⟨m0, m1, z0, z1⟩ := hp
    refine q_asgF (ef_lst (K := K) (ds := [lotD []]) (eb_cons (ed_tup eb_nil (by decide)) eb_nil) (by decide)) fun p xs H1 np e1 hp hx => ?_
    refine q_forR1 (n := z) (ea_cons (ev_var rfl) ea_nil) ⟨z0, by omega⟩ (fun i σ' H' => ∃ (p : Addr) (xs : List V) (y3 y4 y5 y6 y7 : Option V), σ' = [some (.int m), some (.int z), some (.ref p), y3, y4, y5, y6, y7] ∧ H p = none ∧ Ex H H' ∧ H' p = some (.lst xs) ∧ DtAll K H' xs ((lotsL m i).map lotD))
      (fun H2 e2 => ⟨p, xs, _, _, _, _, _, rfl, np, e1.trans e2, e2 p _ hp, dta_ex e2 hx⟩) ?_ ?_
    · rintro i σ' H' hi ⟨p, xs, y3, y4, y5, y6, y7, rfl, np, e', hp, hx⟩
      have hlen : (lotsL m (i + 1)).length ≤ 200 := lots_len m0 m1 (by omega)
      refine q_asgF (ef_lst (K := K) (ds := []) eb_nil (by decide)) fun r zs H2 nr e2 hr' hz => ?_
      cases hz
      refine q_forLn (ev_var rfl) (sq_of (e2 p _ hp)) (fun j σ' H' => ∃ (zs : List V) (y5 y6 y7 : Option V), σ' = [some (.int m), some (.int z), some (.ref p), some (.int (i : Int)), some (.ref r), y5, y6, y7] ∧ (∀ a o, a ≠ r → H2 a = some o → H' a = some o) ∧ Tx H2 H' ∧ H' r = some (.lst zs) ∧ DtAll K H' zs ((((lotsL m i).take j).flatMap (nextL m)).map lotD))
        (fun H3 e3 => ⟨[], _, _, _, rfl, fun a o _ h => e3 a o h, tx_of e3, e3 r _ hr', .nil⟩) (fun j σ' H' _ hw => ?_) ?_ ?_
      · obtain ⟨zs, y5, y6, y7, rfl, x3, _⟩ := hw
        exact sq_of (x3 p _ (ne_free hp nr).symm (e2 p _ hp))
      · rintro j x σ' H3 hj ⟨zs, y5, y6, y7, rfl, x3, t3, hr3, hz3⟩
        obtain ⟨d, hd1, hd2⟩ := dta_get (dta_tx t3 (dta_ex e2 hx)) hj
        rw [List.getElem?_map] at hd1
        cases hl : (lotsL m i)[j]? with
        | none => rw [hl] at hd1; cases hd1
        | some l =>
          rw [hl] at hd1
          have ed : lotD l = d := Option.some.inj hd1
          subst ed
          have hmem : l ∈ lotsL m i := List.mem_of_getElem? hl
          have hsz := lots_sz hmem
          have hlast : -1 ≤ l.getLast?.getD (-1) ∧ l.getLast?.getD (-1) < 10 := by
            cases l with
            | nil => exact ⟨by decide, by decide⟩
            | cons a t =>
              rw [List.getLast?_eq_some_getLast (List.cons_ne_nil a t)]
              have := lots_in m0 m1 (by omega) hmem (List.getLast_mem (List.cons_ne_nil a t))
              exact ⟨by show (-1 : Int) ≤ (a :: t).getLast _; omega, this.2⟩
          have hext : (((lotsL m i).take (j + 1)).flatMap (nextL m)) = ((lotsL m i).take j).flatMap (nextL m) ++ nextL m l := flat_succ hl
          have hbig : (((lotsL m i).take (j + 1)).flatMap (nextL m)).length ≤ 200 := Nat.le_trans (flat_take _ _ _) hlen
          refine q_asg (v := .int 0) ev_c fun H4 e4 => ?_
          refine q_ifAsg (v := .int (l.getLast?.getD (-1) + 1)) (b := !decide (l = [])) (et_is (et_test (ev_neDD (K := K) (d := lotD l) (e := lotD []) (ed_var rfl (dt_ex e4 hd2)) (ed_tup eb_nil (by decide)) (lot_shaped _) (lot_shaped _))) (by rw [eqv_lot])) (fun hb => ?_) (fun hb => ?_) fun H5 e5 => ?_
          · have hne : l ≠ [] := by simpa using hb
            exact ev_op (ev_int (K := K) (ed_ixT (ds := l.map PyData.int) (ed_var rfl (dt_ex e4 hd2)) (ev_un ev_c ru_neg) (lastN l hne))) ev_c rv_I0
          · have he : l = [] := by simpa using hb
            subst he
            rfl
          have e35 := e4.trans e5
          refine s_extF (K := K) (es := (nextL m l).map lotD) (e35 r _ hr3) (ev_var rfl) (ef_is (ef_lcR2 (fun _ => true) (fun c => lotD (l ++ [c])) (ea_cons (ev_var rfl) (ea_cons (ev_var rfl) ea_nil)) ⟨by omega, by omega, by omega, by omega⟩ (fun _ => rfl) (fun _ _ _ _ _ => et_yes) (fun c H6 e6 _ _ _ => ?_)) ?_) ?_ fun ys H6 e6 hy => ?_
          · exact ed_catI (r := [c]) (ed_var rfl (dt_ex (e35.trans e6) hd2)) (ed_tup (eb_cons (ed_int (ev_var rfl)) eb_nil) (by show 1 ≤ 100000; decide)) (by show l.length + 1 ≤ 1000; omega)
          · rw [List.filter_eq_self.mpr (fun _ _ => rfl)]
            unfold nextL
            rw [List.map_map]
            rfl
          · have h1 := dta_len hz3
            rw [List.length_map] at h1 ⊢
            rw [hext, List.length_append] at hbig
            omega
          · refine ⟨zs ++ ys, _, _, _, rfl, fun a o na h => by rw [upd_ne na]; exact (e35.trans e6) a o (x3 a o na h), ?_, upd_same, ?_⟩
            · exact (t3.trans (tx_of (e35.trans e6))).trans (tx_lst (e6 r _ (e35 r _ hr3)))
            · rw [hext, List.map_append]
              exact dta_tx (tx_lst (e6 r _ (e35 r _ hr3))) (dta_app (dta_ex (e35.trans e6) hz3) hy)
      · rintro σ' H3 ⟨zs, y5, y6, y7, rfl, x3, t3, hr3, hz3⟩
        have elen : (lotsL m i).take xs.length = lotsL m i := List.take_of_length_le (by rw [dta_len hx, List.length_map]; exact Nat.le_refl _)
        rw [elen] at hz3
        have eH3 : Ex H H3 := fun a o h => by
          have h2 := (e'.trans e2) a o h
          have na : a ≠ r := fun z => by subst z; rw [fresh_back e' nr] at h; cases h
          exact x3 a o na h2
        exact s_asg (ev_var rfl) fun H4 e4 => ⟨r, zs, _, _, _, _, _, rfl, fresh_back e' nr, eH3.trans e4, e4 r _ hr3, dta_ex e4 hz3⟩
    · rintro σ' H' ⟨p, xs, y3, y4, y5, y6, y7, rfl, np, e', hp, hx⟩
      exact s_ret (ev_var rfl) fun H2 e2 => q p xs H2 np (e'.trans e2) (e2 p _ hp) (dta_ex e2 hx)
def sp__law_even (K : PySem.W.Frag) : Sp := fun vs H Q _ => ∃ (m : Int) (l : List Int), DtAll K H vs [.int m, lotD l] ∧ (0 ≤ m ∧ m < 10 ∧ l.length ≤ 100) ∧ ∀ H2, Ex H H2 → Q (.bl (evenL m l)) H2
theorem ev__law_even {σ : L2.St} {H : Hp} {ta : TA} {E : XK} {m : Int} {l : List Int} (h : EvB K ta σ H [.int m, lotD l]) (hp : 0 ≤ m ∧ m < 10 ∧ l.length ≤ 100) : Ev (tCall (sp__law_even K) [] E ta) σ H (.bl (evenL m l)) := fun H1 e Q q => h H1 e _ fun vs H2 e2 ha => ⟨m, l, (by show DtAll K H2 (vs ++ []) _; rw [List.append_nil]; exact ha), hp, fun H3 e3 => q H3 (e2.trans e3)⟩
theorem ok__law_even (L : All K mg) {k : Nat} : FnOk P w K mg base CX0 (k + 1) L.f__law_even L.fd__law_even ["_law_many", "_law_lot"] (sp__law_even K) := by
  have B := L.B
  refine L.D__law_even.F.ok sc__law_even (fun vs H Q E h => ?_) (fun cdv A outer s H vs Q E hr h => ?_)
  · obtain ⟨m, l, h, _⟩ := h
    rw [dta_len h]
    rfl
  · obtain ⟨m, l, h, hp, q⟩ := h
    obtain ⟨v0, v1, rfl, h0, h1⟩ := dta2 h
    obtain rfl := dt_int h0
    refine ⟨_, (pss_cons (ps_setLc (i := 2) (own := [("_law_corner", 3)]) rfl sc__law_even.nd rfl rfl (sw_true rfl rfl rfl (by decide +kernel)) (pi_range1 (by rfl) B.range_ (pa_cons (pv 0) pa_nil)) (blkOk_by (own := [("_law_corner", 3)]) (N := N__law_even) (sc := defScope s__law_even) (by decide +kernel)) (fun _ _ _ _ _ => (pg_name (i := 3) sc__law_even.nd rfl (.inl rfl))) (fun _ _ _ _ _ => pts_one (pt_cmpR (show OpR _ _ (rIn K true) from op_notIn_seq) (pv 3) (pv 1) (by rfl))) (fun _ _ _ _ _ => (pv 3)))  (pss_cons (ps_for PassesOwn.never rfl (pi_range2 (by rfl) B.range_ (pa_cons pe_int (pa_cons (pe_callB (show CallR _ _ (rLenS K) from call_len_seq) (by rfl) B.len_ (by decide +kernel) (pa_cons (pv 2) pa_nil)) pa_nil))) (pg_name (i := 4) sc__law_even.nd rfl (.inl rfl))   (pss_one (ps_if (pt_cmpR op_eq (pe_op op_mod (pe_op op_sub (pe_ix (show IxR _ (rIxL K) from ix_list) (pv 2) (pv 4) (fun _ _ => rfl)) (pe_ix (show IxR _ (rIxL K) from ix_list) (pv 2) (pe_op op_sub (pv 4) pe_int) (fun _ _ => rfl))) pe_int) pe_int (nomark _))   (pss_one (ps_ret pe_bl))   pss_nil)))  (pss_one (ps_ret pe_bl)))), ?_⟩
    obtain ⟨m0, m1, hll⟩ := hp
    refine q_asgF (K := K) (ds := (apL m l).map PyData.int) (ef_apL (ea_cons (ev_var rfl) ea_nil) m0 (by omega) (fun _ => rfl) (fun _ => rfl) (fun i H2 e2 => ed_var rfl (dt_ex e2 h1))) fun p xs H1 np e1 hp hx => ?_
    rw [dta_ints_inv hx] at hp
    have hal : (apL m l).length ≤ 10 := by
      have := List.length_filter_le (fun c => !l.contains c) (upTo 0 m)
      rw [upTo_len] at this
      show ((upTo 0 m).filter _).length ≤ 10
      omega
    have hev : evenL m l = (List.range ((apL m l).length - 1)).all fun i => !decide (((apL m l).getD (i + 1) 0 - (apL m l).getD i 0) % 2 = 0) := rfl
    generalize apL m l = ap at hp hal hev
    have hat : ∀ k : Nat, k < ap.length → atI (ap.map V.int) (k : Int) = some (.int (ap.getD k 0)) := fun k hk => atI_nat (by rw [List.getElem?_map, List.getElem?_eq_getElem hk, List.getD_eq_getElem?_getD, List.getElem?_eq_getElem hk]; rfl)
    refine q_forR2 (lo := 1) (n := (ap.length : Int)) (ea_cons ev_c (ea_cons (ev_is (ev_len (ev_var rfl) (sq_of hp)) (by rw [List.length_map])) ea_nil)) ⟨by omega, by omega, by omega, by omega⟩ (fun i σ' H' => ∃ y3 y4 : Option V, σ' = [some (.int m), some v1, some (.ref p), y3, y4] ∧ Ex H1 H' ∧ (List.range i).all (fun i => !decide ((ap.getD (i + 1) 0 - ap.getD i 0) % 2 = 0)) = true) (fun H2 e2 => ⟨_, _, rfl, e2, rfl⟩) ?_ ?_
    · rintro i σ' H2 hi ⟨y3, y4, rfl, e2, hall⟩
      refine s_when (b := decide ((ap.getD (i + 1) 0 - ap.getD i 0) % 2 = 0)) (et_test (ev_op (ev_op (ev_op (ev_op (ev_var rfl) (ev_var rfl) (rv_ixL (K := K) (sq_of (e2 _ _ hp)) (by rw [show (1 : Int) + (i : Int) = ((i + 1 : Nat) : Int) by omega]; exact hat (i + 1) (by omega)))) (ev_op (ev_var rfl) (ev_op (ev_var rfl) ev_c rv_I0) (rv_ixL (K := K) (sq_of (e2 _ _ hp)) (by rw [show (1 : Int) + (i : Int) - 1 = (i : Int) by omega]; exact hat i (by omega)))) rv_I0) ev_c (rv_I (by show (0 : Int) < 2; decide))) ev_c rv_eqI)) (fun hb H3 e3 => ?_) (fun hb H3 e3 => ⟨_, _, rfl, e2.trans e3, ?_⟩)
      · refine s_ret ev_c fun H4 e4 => ?_
        have hf : evenL m l = false := by
          rw [hev]
          cases hq : (List.range (ap.length - 1)).all fun i => !decide ((ap.getD (i + 1) 0 - ap.getD i 0) % 2 = 0) with
          | false => rfl
          | true =>
            have := List.all_eq_true.mp hq i (List.mem_range.mpr (by omega))
            rw [hb] at this
            cases this
        rw [hf] at q
        exact q H4 (((e1.trans e2).trans e3).trans e4)
      · rw [List.range_succ, List.all_append, hall]
        simp only [List.all_cons, List.all_nil, Bool.and_true, Bool.true_and, hb, Bool.not_false]
    · rintro σ' H2 ⟨y3, y4, rfl, e2, hall⟩
      rw [show ((ap.length : Int) - 1).toNat = ap.length - 1 by omega, ← hev] at hall
      rw [hall] at q
      exact s_ret ev_c fun H3 e3 => q H3 ((e1.trans e2).trans e3)
def sp__law_gapped (K : PySem.W.Frag) : Sp := fun vs H Q _ => ∃ (m z : Int), DtAll K H vs [.int m, .int z] ∧ (0 ≤ m ∧ m < 10 ∧ 0 ≤ z ∧ z < 10) ∧ ∀ p xs H2, H p = none → Ex H H2 → H2 p = some (.lst xs) → DtAll K H2 xs (((lotsL m z.toNat).filter (evenL m)).map lotD) → Q (.ref p) H2
theorem ev__law_gapped {σ : L2.St} {H : Hp} {ta : TA} {E : XK} {m z : Int} (h : EvB K ta σ H [.int m, .int z]) (hp : 0 ≤ m ∧ m < 10 ∧ 0 ≤ z ∧ z < 10) : EvF K (tCall (sp__law_gapped K) [] E ta) σ H (((lotsL m z.toNat).filter (evenL m)).map lotD) := fun H1 e Q q => h H1 e _ fun vs H2 e2 ha => ⟨m, z, (by show DtAll K H2 (vs ++ []) _; rw [List.append_nil]; exact ha), hp, fun p xs H3 np e3 hx hd => q p xs H3 (fresh_back e2 np) (e2.trans e3) hx hd⟩
theorem ok__law_gapped (L : All K mg) {k : Nat} : FnOk P w K mg base CX0 (k + 2) L.f__law_gapped L.fd__law_gapped ["_law_many", "_law_deep"] (sp__law_gapped K) := by
  have B := L.B
  have D__law_lots := L.D__law_lots
  have G__law_lots := ok__law_lots (P := P) (w := w) (base := base) L (k := 0)
  have D__law_even := L.D__law_even
  have G__law_even := ok__law_even (P := P) (w := w) (base := base) L (k := 0)
  refine L.D__law_gapped.F.ok sc__law_gapped (fun vs H Q E h => ?_) (fun cdv A outer s H vs Q E hr h => ?_)
  · obtain ⟨m, z, h, _⟩ := h
    rw [dta_len h]
    rfl
  · obtain ⟨m, z, h, hp, q⟩ := h
    obtain ⟨v0, v1, rfl, h0, h1⟩ := dta2 h
    obtain rfl := dt_int h0
    obtain rfl := dt_int h1
    refine ⟨_, (pss_one (ps_ret (pe_lc (own := [("_law_lot", 2)]) rfl sc__law_gapped.nd (pi_list (pe_call G__law_lots (hr.mono (by omega)) (by rfl) D__law_lots.g D__law_lots.F.kp D__law_lots.b .nil pass0 (pa_cons (pv 0) (pa_cons (pv 1) pa_nil)))) (blkOk_by (own := [("_law_lot", 2)]) (N := N__law_gapped) (sc := defScope s__law_gapped) (by decide +kernel)) (fun _ _ _ _ _ => (pg_name (i := 2) sc__law_gapped.nd rfl (.inl rfl))) (fun _ _ _ _ _ => pts_one (pt_val (pe_call G__law_even (hr.mono (by omega)) (by rfl) D__law_even.g D__law_even.F.kp D__law_even.b .nil pass0 (pa_cons (pv 0) (pa_cons (pv 2) pa_nil))))) (fun _ _ _ _ _ => (pv 2))))), ?_⟩
    obtain ⟨m0, m1, z0, z1⟩ := id hp
    have hll : (lotsL m z.toNat).length ≤ 200 := lots_len m0 m1 (by omega)
    refine s_retF (ef_is (ef_lcF (ds := (lotsL m z.toNat).map lotD) (fun x => evenL m (unlot x)) (fun x => x) (ev__law_lots (K := K) (eb_cons (ed_int (ev_var rfl)) (eb_cons (ed_int (ev_var rfl)) eb_nil)) (by first | assumption | omega | (refine ⟨?_, ?_⟩ <;> first | assumption | omega) | (refine ⟨?_, ?_, ?_⟩ <;> first | assumption | omega) | (refine ⟨?_, ?_, ?_, ?_⟩ <;> first | assumption | omega) | (repeat' apply And.intro) <;> first | assumption | omega)) (by rw [List.length_map]; omega) (fun _ => rfl) (fun x v H1 e1 hm hx => ?_) (fun x v H1 e1 hm hx _ => ed_var rfl hx)) (filt_lots fun l => by rw [unlot_lot])) fun p xs H1 np e1 hp hx => q p xs H1 np e1 hp hx
    obtain ⟨l, hl, rfl⟩ := mem_lots hm
    rw [unlot_lot]
    have hsz := lots_sz hl
    exact (et_B (ev__law_even (K := K) (eb_cons (ed_int (ev_var rfl)) (eb_cons (ed_var rfl hx) eb_nil)) (by first | assumption | omega | (refine ⟨?_, ?_⟩ <;> first | assumption | omega) | (refine ⟨?_, ?_, ?_⟩ <;> first | assumption | omega) | (refine ⟨?_, ?_, ?_, ?_⟩ <;> first | assumption | omega) | (repeat' apply And.intro) <;> first | assumption | omega)))
end
def rTupS (K : PySem.W.Frag) : List V → Hp → VK → Prop := fun xs H Q => ∃ p ys, xs = [.ref p] ∧ ((SqL K H p ys ∧ ∀ l, H l = none → Q (.ref l) (upd H l (.tup ys))) ∨ (SqT K H p ys ∧ Q (.ref p) H))
section
variable {K : PySem.W.Frag}
theorem ed_tupF {σ : L2.St} {H : Hp} {te : TE} {ds : List PyData} (h : EvF K te σ H ds) : EvD K (tCB (rTupS K) (tCons te tNil)) σ H (.tuple ds) := fun H1 e Q q =>
  h H1 e _ fun p xs H2 np e2 hp hx => ⟨p, xs, rfl, .inl ⟨sq_of hp, fun l hl => q _ _ (e2.trans (Ex.new hl)) (.tup (st_of upd_same) (dta_ex (Ex.new hl) hx))⟩⟩
theorem ed_tupL {σ : L2.St} {H : Hp} {te : TE} {p : Addr} {xs : List V} {ds : List PyData} (h : Ev te σ H (.ref p)) (hp : SqL K H p xs) (hx : DtAll K H xs ds) : EvD K (tCB (rTupS K) (tCons te tNil)) σ H (.tuple ds) := fun H1 e Q q =>
  h H1 e _ fun H2 e2 => ⟨p, xs, rfl, .inl ⟨ex_l (e.trans e2) hp, fun l hl => q _ _ (e2.trans (Ex.new hl)) (.tup (st_of upd_same) (dta_ex ((e.trans e2).trans (Ex.new hl)) hx))⟩⟩
end
section
variable {K : PySem.W.Frag}
theorem ed_tupRg {σ : L2.St} {H : Hp} {te : TE} {m : Int} (h : Ev te σ H (.int m)) (m0 : 0 ≤ m) (m1 : m < 1000) : EvD K (tTupRg (tRg1 te)) σ H (lotD (upTo 0 m)) := fun H1 e Q q =>
  h H1 e _ fun H2 e2 => ⟨m, rfl, RgOk.of_le (by decide) (by omega) (by decide) m0, fun t ht => q _ _ (e2.trans (Ex.new ht)) (lot_dt (st_of (by
    rw [upd_same]
    congr 2
    unfold rgV upTo
    rw [List.map_map]
    rfl)))⟩
end
/-! ### loops in which one new list grows -/
/-- all but p stays -/
structure Pk (p : Addr) (H H' : Hp) : Prop where
  px : ∀ c o, c ≠ p → H c = some o → H' c = some o
  tx : Tx H H'
theorem Pk.trans {p : Addr} {H H1 H2 : Hp} (x : Pk p H H1) (y : Pk p H1 H2) : Pk p H H2 := ⟨fun c o n h => y.px c o n (x.px c o n h), x.tx.trans y.tx⟩
theorem pk_ex {p : Addr} {H H' : Hp} (e : Ex H H') : Pk p H H' := ⟨fun c o _ h => e c o h, tx_of e⟩
theorem pk_mut {p : Addr} {H H' : Hp} {xs : List V} {u : HO} (x : Pk p H H') (hl : H' p = some (.lst xs)) : Pk p H (upd H' p u) := ⟨fun c o n h => by rw [upd_ne n]; exact x.px c o n h, x.tx.trans (tx_lst hl)⟩
theorem pk_ex_of {p : Addr} {Hs H H' : Hp} (x : Pk p H H') (e : Ex Hs H) (n : Hs p = none) : Ex Hs H' := fun c o h => x.px c o (ne_of_none h n) (e c o h)
section
variable {K : PySem.W.Frag} {σ : L2.St} {H : Hp} {tl : TE} {ds : List PyData} {D : Ends} {tz tu : TS}
theorem q_forFM {j : Nat} {p : Addr} {xs0 : List V} (h : ∀ H3, Ex H H3 → EvF K tl σ H3 ds) (hp : H p = some (.lst xs0)) (Pv : Nat → L2.St → Hp → Prop) (h0 : ∀ H1, Ex H H1 → Pv 0 σ H1)
    (hs : ∀ H1 i x d σ' H', Ex H H1 → Pk p H1 H' → ds[i]? = some d → Dt K H' x d → Pv i σ' H' → tu { D with nx := fun σ3 H3 => Pk p H1 H3 ∧ Pv (i + 1) σ3 H3, ct := fun σ3 H3 => Pk p H1 H3 ∧ Pv (i + 1) σ3 H3, bk := tz D } (σ'.set j (some x)) H')
    (hd : ∀ σ' H', Pk p H H' → Pv ds.length σ' H' → tz D σ' H') : tSeq (tFor (iList K tl) (gName j) tu) tz D σ H :=
  h H (Ex.refl H) H (Ex.refl H) _ fun q xs H1 nq e1 hq hx => ⟨q, rfl, ⟨xs, sq_of hq⟩, for_list (D := { D with nx := tz D }) (xs := xs) (fun i σ' H' => Pk p H1 H' ∧ Pv i σ' H') ⟨pk_ex (Ex.refl _), h0 H1 e1⟩ (fun i σ' H' _ hw => sq_of (hw.1.px q _ (ne_free hp nq) hq)) (fun i x σ' H' hi hw => by
      obtain ⟨d, h1, h2⟩ := dta_get (dta_tx hw.1.tx hx) hi
      exact hs H1 i x d σ' H' e1 hw.1 h1 h2 hw.2) (fun σ' H' hw => hd σ' H' ((pk_ex e1).trans hw.1) (by rw [← dta_len hx]; exact hw.2))⟩
end
/-! ### the law's ends; covers' ends -/
def behF (m : Int) (l : List Int) : Nat → Int → Int
  | 0, b => b
  | f + 1, b => if l.contains (m - 1 - b) then behF m l f (b + 1) else b
def behL (m : Int) (l : List Int) : Int := behF m l 12 0
def endsL (m d s : Int) : List (List Int) := if m = d + 1 then [upTo 0 m] else ((lotsL m (d + 1).toNat).filter (evenL m)).filter fun l => decide (behL m l % 2 = s)
section
variable {P : Program} {w : World} {K : PySem.W.Frag} {mg : Str → Option Value} {base : Heap}
def sp__law_end (K : PySem.W.Frag) : Sp := fun vs H Q _ => ∃ (m d s : Int), DtAll K H vs [curveD m d, .int s] ∧ (okV m d) ∧ ∀ v H2, Ex H H2 → Dt K H2 v (.tuple ((endsL m d s).map lotD)) → Q v H2
theorem ev__law_end {σ : L2.St} {H : Hp} {ta : TA} {E : XK} {m d s : Int} (h : EvB K ta σ H [curveD m d, .int s]) (hp : okV m d) : EvD K (tCall (sp__law_end K) [] E ta) σ H (.tuple ((endsL m d s).map lotD)) := fun H1 e Q q => h H1 e _ fun vs H2 e2 ha => ⟨m, d, s, (by show DtAll K H2 (vs ++ []) _; rw [List.append_nil]; exact ha), hp, fun v H3 e3 hv => q v H3 (e2.trans e3) hv⟩
theorem ok__law_end (L : All K mg) {k : Nat} : FnOk P w K mg base CX0 (k + 3) L.f__law_end L.fd__law_end ["_law_curve_here", "_law_side"] (sp__law_end K) := by
  have B := L.B
  have D__law_gapped := L.D__law_gapped
  have G__law_gapped := ok__law_gapped (P := P) (w := w) (base := base) L (k := 0)
  refine L.D__law_end.F.ok sc__law_end (fun vs H Q E h => ?_) (fun cdv A outer s H vs Q E hr h => ?_)
  · obtain ⟨m, d, s, h, _⟩ := h
    rw [dta_len h]
    rfl
  · obtain ⟨m, d, s, h, hp, q⟩ := h
    obtain ⟨v0, v1, rfl, h0, h1⟩ := dta2 h
    obtain rfl := dt_int h1
    refine ⟨_, (pss_cons (ps_asg (pv 0) (pg_tup (by rfl) (pgs_cons (pg_name (i := 2) sc__law_end.nd rfl (.inl rfl)) (pgs_cons (pg_name (i := 3) sc__law_end.nd rfl (.inl rfl)) pgs_nil))))  (pss_cons (ps_if (pt_cmpR op_eq (pv 2) (pe_op op_add (pv 3) pe_int) (nomark _))   (pss_one (ps_ret (pe_tup (pa_cons (pe_tupRg rfl (by rfl) B.tuple_ (prg_1 (by rfl) B.range_ (pv 2))) pa_nil))))   pss_nil)  (pss_cons (ps_set (i := 4) sc__law_end.nd rfl (.inl rfl) (pe_lst pa_nil))  (pss_cons (ps_for PassesOwn.never rfl (pi_list (pe_call G__law_gapped (hr.mono (by omega)) (by rfl) D__law_gapped.g D__law_gapped.F.kp D__law_gapped.b .nil pass0 (pa_cons (pv 2) (pa_cons (pe_op op_add (pv 3) pe_int) pa_nil)))) (pg_name (i := 5) sc__law_end.nd rfl (.inl rfl))   (pss_cons (ps_set (i := 6) sc__law_end.nd rfl (.inl rfl) pe_int)  (pss_cons (ps_while PassesOwn.never (pt_cmpR (show OpR _ _ (rIn K false) from op_in_seq) (pe_op op_sub (pe_op op_sub (pv 2) pe_int) (pv 6)) (pv 5) (by rfl)) (pss_one (ps_set (i := 6) sc__law_end.nd rfl (.inl rfl) (pe_op op_add (pv 6) pe_int))))  (pss_one (ps_if (pt_cmpR op_eq (pe_op op_mod (pv 6) pe_int) (pv 1) (nomark _))   (pss_one (ps_expr (pe_bm PySem.F.plainAttrs_list PySem.F.slot_list_append PySem.F.type_list_append mt_append (pv 4) (pa_cons (pv 5) pa_nil))))   pss_nil)))))  (pss_one (ps_ret (pe_callTy (show CallR _ _ (rTupS K) from call_tuple_of) (by rfl) B.tuple_ (by decide +kernel) (pa_cons (pv 4) pa_nil)))))))), ?_⟩
    obtain ⟨hc, d4, m7⟩ := id hp
    obtain ⟨c1, c2, c3, c4⟩ := id hc
    refine q_unC rfl h0 ?_
    refine q_when (et_test (ev_op (ev_var rfl) (ev_op (ev_var rfl) ev_c rv_I0) rv_eqI)) (fun hb H1 e1 => ?_) (fun hb H1 e1 => ?_)
    · have hm : m = d + 1 := of_decide_eq_true hb
      unfold endsL at q
      rw [if_pos hm] at q
      exact s_retD (K := K) (ed_tup (eb_cons (ed_tupRg (ev_var rfl) (by omega) (by omega)) eb_nil) (by show 1 ≤ 100000; decide)) fun v H2 e2 hv => q v H2 (e1.trans e2) hv
    · have hm : ¬ m = d + 1 := of_decide_eq_false hb
      unfold endsL at q
      rw [if_neg hm] at q
      refine q_asgF (ef_lst (K := K) (ds := []) eb_nil (by decide)) fun p xs H2 np e2 hp hz => ?_
      cases hz
      have hll : (lotsL m (d + 1).toNat).length ≤ 200 := lots_len (by omega) (by omega) (by omega)
      have hgl : ((lotsL m (d + 1).toNat).filter (evenL m)).length ≤ 200 := Nat.le_trans (List.length_filter_le _ _) hll
      refine q_forFM (K := K) (p := p) (ds := ((lotsL m (d + 1).toNat).filter (evenL m)).map lotD) (fun H3 e3 => (ev__law_gapped (K := K) (eb_cons (ed_int (ev_var rfl)) (eb_cons (ed_int (ev_op (ev_var rfl) ev_c rv_I0)) eb_nil)) (by first | assumption | omega | (refine ⟨?_, ?_⟩ <;> first | assumption | omega) | (refine ⟨?_, ?_, ?_⟩ <;> first | assumption | omega) | (refine ⟨?_, ?_, ?_, ?_⟩ <;> first | assumption | omega) | (repeat' apply And.intro) <;> first | assumption | omega))) hp (fun i σ' H' => ∃ (zs : List V) (y5 y6 : Option V), σ' = [some v0, some (.int s), some (.int m), some (.int d), some (.ref p), y5, y6] ∧ H' p = some (.lst zs) ∧ DtAll K H' zs (((((lotsL m (d + 1).toNat).filter (evenL m)).take i).filter fun l => decide (behL m l % 2 = s)).map lotD)) (fun H3 e3 => ⟨[], _, _, rfl, e3 _ _ hp, .nil⟩) (fun H1' i x dx σ' H3 e1' x3 hi hx hw => ?_) (fun σ' H3 x3 hw => ?_)
      · obtain ⟨zs, y5, y6, rfl, hp3, hz3⟩ := hw
        rw [List.getElem?_map] at hi
        cases hl : ((lotsL m (d + 1).toNat).filter (evenL m))[i]? with
        | none => rw [hl] at hi; cases hi
        | some l =>
          rw [hl] at hi
          cases Option.some.inj hi
          have hmem : l ∈ lotsL m (d + 1).toNat := (List.mem_filter.mp (List.mem_of_getElem? hl)).1
          have hsz := lots_sz hmem
          have hneg : ∀ x : Int, x < 0 → l.contains x = false := fun x hx => by
            cases hq : l.contains x with
            | false => rfl
            | true =>
              have := (lots_in (by omega) (by omega) (by omega) hmem (by simpa using hq)).1
              omega
          refine q_asg (v := .int 0) ev_c fun H4 e4 => ?_
          refine q_while (fun n σ' H' => ∃ b : Int, σ' = [some v0, some (.int s), some (.int m), some (.int d), some (.ref p), some x, some (.int b)] ∧ b + (n : Int) = 12 ∧ behF m l n b = behL m l ∧ Ex H4 H') 12 ⟨0, rfl, by decide, rfl, Ex.refl _⟩ ?_
          rintro n σ' H5 ⟨b, rfl, hbn, hbe, e5⟩
          refine ⟨l.contains (m - 1 - b), et_test (ev_inI (K := K) (ev_op (ev_op (ev_var rfl) ev_c rv_I0) (ev_var rfl) rv_I0) (ed_var rfl (dt_ex (e4.trans e5) hx))), fun hb H6 e6 => ?_, fun hb H6 e6 => ?_⟩
          · cases n with
            | zero => rw [hneg (m - 1 - b) (by omega)] at hb; cases hb
            | succ n' =>
              refine ⟨fun σ2 H2 => ∃ b : Int, σ2 = [some v0, some (.int s), some (.int m), some (.int d), some (.ref p), some x, some (.int b)] ∧ b + (n' : Int) = 12 ∧ behF m l n' b = behL m l ∧ Ex H4 H2, fun σ2 H2 h => ⟨n', Nat.lt_succ_self _, h⟩, ?_⟩
              refine s_asg (v := .int (b + 1)) (ev_op (ev_var rfl) ev_c rv_I0) fun H7 e7 => ⟨b + 1, rfl, by omega, ?_, (e5.trans e6).trans e7⟩
              rw [← hbe]
              show _ = if l.contains (m - 1 - b) then behF m l n' (b + 1) else b
              rw [if_pos hb]
          · have hbb : b = behL m l := by
              rw [← hbe]
              cases n with
              | zero => rfl
              | succ n' =>
                show b = if l.contains (m - 1 - b) then behF m l n' (b + 1) else b
                rw [if_neg (by rw [hb]; exact Bool.false_ne_true)]
            subst hbb
            have e46 := (e4.trans e5).trans e6
            refine s_when (b := decide (behL m l % 2 = s)) (et_test (ev_op (ev_op (ev_var rfl) ev_c (rv_I (by show (0 : Int) < 2; decide))) (ev_var rfl) rv_eqI)) (fun hb H7 e7 => ?_) (fun hb H7 e7 => ?_)
            · have hzl := dta_len hz3
              rw [List.length_map] at hzl
              have hzl2 := List.length_filter_le (fun l => decide (behL m l % 2 = s)) (((lotsL m (d + 1).toNat).filter (evenL m)).take i)
              refine s_appD (K := K) (d := lotD l) (xs := zs) ((e46.trans e7) _ _ hp3) (ev_var rfl) (ed_var rfl (dt_ex (e46.trans e7) hx)) (by have := Nat.min_le_right i ((lotsL m (d + 1).toNat).filter (evenL m)).length; rw [List.length_take] at hzl2; omega) fun v H8 e8 hv => ⟨pk_mut (x3.trans (pk_ex ((e46.trans e7).trans e8))) (e8 _ _ ((e46.trans e7) _ _ hp3)), ⟨zs ++ [v], _, _, rfl, upd_same, ?_⟩⟩
              rw [filter_take_succ hl, hb, if_pos rfl, List.map_append]
              exact dta_tx (tx_lst (e8 _ _ ((e46.trans e7) _ _ hp3))) (dta_app (dta_ex ((e46.trans e7).trans e8) hz3) (dta_one hv))
            · refine ⟨x3.trans (pk_ex (e46.trans e7)), ⟨zs, _, _, rfl, (e46.trans e7) _ _ hp3, ?_⟩⟩
              rw [filter_take_succ hl, hb, if_neg Bool.false_ne_true, List.append_nil]
              exact dta_ex (e46.trans e7) hz3
      · obtain ⟨zs, y5, y6, rfl, hp3, hz3⟩ := hw
        rw [List.length_map, List.take_length] at hz3
        exact s_retD (K := K) (ed_tupL (ev_var rfl) (sq_of hp3) hz3) fun v H4 e4 hv => q v H4 ((pk_ex_of x3 (e1.trans e2) (fresh_back e1 np)).trans e4) hv
end
/-! ### covers' ends, refused or told -/
section
variable {P : Program} {w : World} {K : PySem.W.Frag} {mg : Str → Option Value} {base : Heap}
theorem ThC.ex {H H' : Hp} {v : V} {b : Bool} (e : Ex H H') (h : ThC K H v b) : ThC K H' v b := by
  rcases h with ⟨t, h1, h2, h3, h4⟩ | ⟨a, xs, h1, h2, h3, h4⟩
  · exact .inl ⟨t, h1, h2, tyx_ex e h3, h4⟩
  · exact .inr ⟨a, xs, h1, ex_t e h2, fun y hy => (h3 y hy).ex e, h4⟩
theorem th_curve {H : Hp} {v : V} {m d : Int} (h : Dt K H v (curveD m d)) (hc : okC m d) : ThC K H v true := by
  obtain ⟨a, rfl, hS⟩ := dt_curve h
  refine .inr ⟨a, _, rfl, hS, ?_, (curveB_ok hc).symm⟩
  intro y hy
  rcases List.mem_cons.mp hy with rfl | hy
  · exact typed_int
  rcases List.mem_cons.mp hy with rfl | hy
  · exact typed_int
  · cases hy
def sp_need_curveN (L : All K mg) : Sp := fun vs H Q E => ∃ v b, vs = [v] ∧ ThC K H v b ∧ (b = false → ∀ H2, Ex H H2 → E (.ref L.C_NoCurve) none H2) ∧ (b = true → ∀ H2, Ex H H2 → Q .non H2)
theorem okN_need_curve (L : All K mg) {k : Nat} : FnOk P w K mg base (L2N.CX P w) (k + 3) L.f_need_curve L.fd_need_curve ["curve"] (sp_need_curveN L) := by
  have B := L.B
  have D_is_curve := L.D_is_curve
  have G_is_curve := ok_is_curve (P := P) (w := w) (base := base) L (k := 0)
  refine fun_okN L.D_need_curve.F sc_need_curve (fun vs H Q E h => ?_) (fun cdv A outer s H vs Q E hr h => ?_)
  · obtain ⟨v, b, rfl, _⟩ := h
    rfl
  · obtain ⟨v, b, rfl, hv, qr, qn⟩ := h
    refine ⟨_, (pss_one (ps_if (PT.nox (pt_not (pt_val (pe_call G_is_curve (hr.mono (by omega)) (by rfl) D_is_curve.g D_is_curve.F.kp D_is_curve.b .nil pass0 (pa_cons (pv 0) pa_nil))))) (pss_one (L2N.ps_raise rfl (L2N.takes_of rfl rfl rfl rfl) (L2N.pmk_own PySem.F.excBase_ValueError L.R_NoCurve.x L.R_NoCurve.g L.R_NoCurve.kp (raises_own L.R_NoCurve.b L.R_NoCurve.t) rfl))) pss_nil)), ?_⟩
    exact s_when (b := !b) (et_not (et_B (fun H1 e1 Q' q' => ⟨_, rfl, v, b, rfl, hv.ex e1, fun H2 e2 => q' H2 e2⟩))) (fun hb H1 e1 => qr (by simpa using hb) H1 e1) (fun hb H1 e1 => qn (by simpa using hb) H1 e1)
def sp_cov (L : All K mg) (R : Int → Int → Hp → VK → Prop) : Sp := fun vs H Q E => ∃ v, vs = [v] ∧ ((ThC K H v false ∧ ∀ H2, Ex H H2 → E (.ref L.C_NoCurve) none H2) ∨ (∃ m d, Dt K H v (curveD m d) ∧ okC m d ∧ (7 < m ∨ 4 < d) ∧ ∀ H2, Ex H H2 → E (.ref L.C_TooMany) none H2) ∨ ∃ m d, Dt K H v (curveD m d) ∧ okV m d ∧ R m d H Q)
theorem okN_need_covered (L : All K mg) {k : Nat} : FnOk P w K mg base (L2N.CX P w) (k + 4) L.f_need_covered L.fd_need_covered ["curve"] (sp_cov L fun _ _ H Q => ∀ H2, Ex H H2 → Q .non H2) := by
  have B := L.B
  have D_need_curve := L.D_need_curve
  have G_need_curve := okN_need_curve (P := P) (w := w) (base := base) L (k := 0)
  have c_MOST_COVERED := L.c_MOST_COVERED
  have c_MOST_DEEP_COVERED := L.c_MOST_DEEP_COVERED
  refine fun_okN L.D_need_covered.F sc_need_covered (fun vs H Q E h => ?_) (fun cdv A outer s H vs Q E hr h => ?_)
  · obtain ⟨v, rfl, _⟩ := h
    rfl
  · obtain ⟨v, rfl, h⟩ := h
    refine ⟨_, (pss_cons (ps_expr (pe_call (E := E) G_need_curve (hr.mono (by omega)) (by rfl) D_need_curve.g D_need_curve.F.kp D_need_curve.b .nil (L2N.passes_call (L2N.takes_of rfl rfl rfl rfl) (fun _ _ _ _ h => h)) (pa_cons (pv 0) pa_nil))) (pss_cons (PS.nox (ps_asg (pv 0) (pg_tup (by rfl) (pgs_cons (pg_name (i := 1) sc_need_covered.nd rfl (.inl rfl)) (pgs_cons (pg_name (i := 2) sc_need_covered.nd rfl (.inl rfl)) pgs_nil))))) (pss_one (ps_if (PT.nox (PW.pt (pw_or (pt_cmpR op_gt (pv 1) (pe_glob (v := .int 7) rfl c_MOST_COVERED ⟨_, rfl⟩) (nomark _)) (pw_or1 (pt_cmpR op_gt (pv 2) (pe_glob (v := .int 4) rfl c_MOST_DEEP_COVERED ⟨_, rfl⟩) (nomark _)))))) (pss_one (L2N.ps_raise rfl (L2N.takes_of rfl rfl rfl rfl) (L2N.pmk_own PySem.F.excBase_ValueError L.R_TooMany.x L.R_TooMany.g L.R_TooMany.kp (raises_own L.R_TooMany.b L.R_TooMany.t) rfl))) pss_nil)))), ?_⟩
    rcases h with ⟨hv, qr⟩ | ⟨m, d, hd, hc, hg, qr⟩ | ⟨m, d, hd, hV, q⟩
    · exact ⟨_, rfl, v, false, rfl, hv, fun _ H2 e2 => qr H2 e2, fun h => by cases h⟩
    · refine ⟨_, rfl, v, true, rfl, th_curve hd hc, fun h => (by cases h), fun _ H1 e1 => ?_⟩
      refine q_unC rfl (dt_ex e1 hd) ?_
      refine s_when (b := true) (et_is (et_or (et_test (ev_op (ev_var rfl) ev_c rv_I0)) (fun _ => (et_test (ev_op (ev_var rfl) ev_c rv_I0)))) ?_) (fun _ H2 e2 => qr H2 (e1.trans e2)) (fun hb => by cases hb)
      rcases hg with z | z
      · rw [decide_eq_true (show m > 7 from z)]; rfl
      · rw [decide_eq_true (show d > 4 from z), Bool.or_true]
    · refine ⟨_, rfl, v, true, rfl, th_curve hd hV.c, fun h => (by cases h), fun _ H1 e1 => ?_⟩
      refine q_unC rfl (dt_ex e1 hd) ?_
      refine s_when (b := false) (et_is (et_or (et_test (ev_op (ev_var rfl) ev_c rv_I0)) (fun _ => (et_test (ev_op (ev_var rfl) ev_c rv_I0)))) ?_) (fun hb => by cases hb) (fun _ H2 e2 => q H2 (e1.trans e2))
      rw [decide_eq_false (show ¬ m > 7 by have := hV.m7; omega), decide_eq_false (show ¬ d > 4 by have := hV.d4; omega)]
      rfl
def coverD (ls : List (List Int)) : PyData := .tuple (ls.map lotD)
theorem okN_lowest (L : All K mg) {k : Nat} : FnOk P w K mg base (L2N.CX P w) (k + 5) L.f_lowest L.fd_lowest ["curve"] (sp_cov L fun m d H Q => ∀ v H2, Ex H H2 → Dt K H2 v (coverD (lowF m (d + 1))) → Q v H2) := by
  have B := L.B
  have D_low_lots := L.D_low_lots
  have G_low_lots := ok_low_lots (P := P) (w := w) (base := base) L (k := 0)
  have D_need_covered := L.D_need_covered
  have G_need_covered := okN_need_covered (P := P) (w := w) (base := base) L (k := 0)
  refine fun_okN L.D_lowest.F sc_lowest (fun vs H Q E h => ?_) (fun cdv A outer s H vs Q E hr h => ?_)
  · obtain ⟨v, rfl, _⟩ := h
    rfl
  · obtain ⟨v, rfl, h⟩ := h
    refine ⟨_, (pss_cons (ps_expr (pe_call (E := E) G_need_covered (hr.mono (by omega)) (by rfl) D_need_covered.g D_need_covered.F.kp D_need_covered.b .nil (L2N.passes_call (L2N.takes_of rfl rfl rfl rfl) (fun _ _ _ _ h => h)) (pa_cons (pv 0) pa_nil))) (PSs.nox (pss_cons (ps_asg (pv 0) (pg_tup (by rfl) (pgs_cons (pg_name (i := 1) sc_lowest.nd rfl (.inl rfl)) (pgs_cons (pg_name (i := 2) sc_lowest.nd rfl (.inl rfl)) pgs_nil))))  (pss_one (ps_ret (pe_callTy (show CallR _ _ (rTupS K) from call_tuple_of) (by rfl) B.tuple_ (by decide +kernel) (pa_cons (pe_call G_low_lots (hr.mono (by omega)) (by rfl) D_low_lots.g D_low_lots.F.kp D_low_lots.b .nil pass0 (pa_cons (pv 1) (pa_cons (pe_op op_add (pv 2) pe_int) pa_nil))) pa_nil))))))), ?_⟩
    rcases h with ⟨hv, qr⟩ | ⟨m, d, hd, hc, hg, qr⟩ | ⟨m, d, hd, hV, q⟩
    · exact ⟨_, rfl, v, rfl, .inl ⟨hv, qr⟩⟩
    · exact ⟨_, rfl, v, rfl, .inr (.inl ⟨m, d, hd, hc, hg, qr⟩)⟩
    · refine ⟨_, rfl, v, rfl, .inr (.inr ⟨m, d, hd, hV, fun H1 e1 => ?_⟩)⟩
      obtain ⟨hc, d4, m7⟩ := hV
      obtain ⟨c1, c2, c3, c4⟩ := hc
      refine q_unC rfl (dt_ex e1 hd) ?_
      exact s_retD (K := K) (ed_tupF (ev_low_lots (K := K) (eb_cons (ed_int (ev_var rfl)) (eb_cons (ed_int (ev_op (ev_var rfl) ev_c rv_I0)) eb_nil)) (by first | assumption | omega | (refine ⟨?_, ?_⟩ <;> first | assumption | omega) | (refine ⟨?_, ?_, ?_⟩ <;> first | assumption | omega) | (refine ⟨?_, ?_, ?_, ?_⟩ <;> first | assumption | omega) | (repeat' apply And.intro) <;> first | assumption | omega))) fun v H2 e2 hv => q v H2 (e1.trans e2) hv
theorem okN_highest (L : All K mg) {k : Nat} : FnOk P w K mg base (L2N.CX P w) (k + 5) L.f_highest L.fd_highest ["curve"] (sp_cov L fun m d H Q => ∀ v H2, Ex H H2 → Dt K H2 v (coverD (highF m (d + 1))) → Q v H2) := by
  have B := L.B
  have D_high_lots := L.D_high_lots
  have G_high_lots := ok_high_lots (P := P) (w := w) (base := base) L (k := 0)
  have D_need_covered := L.D_need_covered
  have G_need_covered := okN_need_covered (P := P) (w := w) (base := base) L (k := 0)
  refine fun_okN L.D_highest.F sc_highest (fun vs H Q E h => ?_) (fun cdv A outer s H vs Q E hr h => ?_)
  · obtain ⟨v, rfl, _⟩ := h
    rfl
  · obtain ⟨v, rfl, h⟩ := h
    refine ⟨_, (pss_cons (ps_expr (pe_call (E := E) G_need_covered (hr.mono (by omega)) (by rfl) D_need_covered.g D_need_covered.F.kp D_need_covered.b .nil (L2N.passes_call (L2N.takes_of rfl rfl rfl rfl) (fun _ _ _ _ h => h)) (pa_cons (pv 0) pa_nil))) (PSs.nox (pss_cons (ps_asg (pv 0) (pg_tup (by rfl) (pgs_cons (pg_name (i := 1) sc_highest.nd rfl (.inl rfl)) (pgs_cons (pg_name (i := 2) sc_highest.nd rfl (.inl rfl)) pgs_nil))))  (pss_one (ps_ret (pe_callTy (show CallR _ _ (rTupS K) from call_tuple_of) (by rfl) B.tuple_ (by decide +kernel) (pa_cons (pe_call G_high_lots (hr.mono (by omega)) (by rfl) D_high_lots.g D_high_lots.F.kp D_high_lots.b .nil pass0 (pa_cons (pv 1) (pa_cons (pe_op op_add (pv 2) pe_int) pa_nil))) pa_nil))))))), ?_⟩
    rcases h with ⟨hv, qr⟩ | ⟨m, d, hd, hc, hg, qr⟩ | ⟨m, d, hd, hV, q⟩
    · exact ⟨_, rfl, v, rfl, .inl ⟨hv, qr⟩⟩
    · exact ⟨_, rfl, v, rfl, .inr (.inl ⟨m, d, hd, hc, hg, qr⟩)⟩
    · refine ⟨_, rfl, v, rfl, .inr (.inr ⟨m, d, hd, hV, fun H1 e1 => ?_⟩)⟩
      obtain ⟨hc, d4, m7⟩ := hV
      obtain ⟨c1, c2, c3, c4⟩ := hc
      refine q_unC rfl (dt_ex e1 hd) ?_
      exact s_retD (K := K) (ed_tupF (ev_high_lots (K := K) (eb_cons (ed_int (ev_var rfl)) (eb_cons (ed_int (ev_op (ev_var rfl) ev_c rv_I0)) eb_nil)) (by first | assumption | omega | (refine ⟨?_, ?_⟩ <;> first | assumption | omega) | (refine ⟨?_, ?_, ?_⟩ <;> first | assumption | omega) | (refine ⟨?_, ?_, ?_, ?_⟩ <;> first | assumption | omega) | (repeat' apply And.intro) <;> first | assumption | omega))) fun v H2 e2 hv => q v H2 (e1.trans e2) hv
end
/-! ### defs that are called where no text is under way -/
structure FnG (P : Program) (w : World) (K : PySem.W.Frag) (mg : Str → Option Value) (base : Heap) (k : Nat) (f : Addr) (fd : FuncData) (ps : List Str) (sp : Sp) : Prop where
  ln : ∀ vs H Q E, sp vs H Q E → vs.length = ps.length
  go : ∀ (A : Around) (outer : List Env) (s : Shared) (H : Hp) (args : Args) (us : List Value) (vs : List V) (Q : VK) (E : XK), A.guards = some [] → Room k A → Env0 P w K mg base A outer s H → BindsTo s fd args (ps.zip us) → Vals vs us → sp vs H Q E → codeAny (model P w) A (.call (.ref f) args) (CR CX0 outer P w H s Q E) s
section
variable {P : Program} {w : World} {K : PySem.W.Frag} {mg : Str → Option Value} {base : Heap}
theorem FnG.of {k : Nat} {f : Addr} {fd : FuncData} {ps : List Str} {sp : Sp} (F : FnOk P w K mg base CX0 k f fd ps sp) : FnG P w K mg base k f fd ps sp := ⟨F.len, fun A outer s H args us vs Q E _ => F.run A outer s H args us vs Q E⟩
theorem fnG_of {k : Nat} {f : Addr} {name x : Str} {params : Arguments} {body : List Stmt} {scope : Scope} {dV kV doc pm cdv ct oc : Value} {an od : Option Addr} {osl : Array (Option Value)} {N ps : List Str} {sp : Sp} (lk : K.lookup f = some ⟨oc, od, .func (PySem.W.fnOf name x params body scope dV kV doc pm an cdv ct), osl⟩) (hcd : PySem.W.codeIn K cdv x = true) (S : FnScope N ps scope) (ln : ∀ vs H Q E, sp vs H Q E → vs.length = ps.length)
    (bd : ∀ (A : Around) (outer : List Env) (s : Shared) (H : Hp) (vs : List V) (Q : VK) (E : XK), A.guards = some [] → Room k (A.deeper (envOfC x scope s.heap.objs.size f cdv)) → sp vs H Q E → ∃ t, PSs (cxOf CX0 P w K mg base N x scope f cdv A outer s H E).nox body t ∧ t { nx := fun _ H' => Q .non H', rt := Q } (start N vs) H) :
    FnG P w K mg base (k + 1) f (PySem.W.fnOf name x params body scope dV kV doc pm an cdv ct) ps sp := by
  refine ⟨ln, fun A outer s H args us vs Q E gd hr e0 hb r hsp => ?_⟩
  have up : ∀ b o, base.get? b = some o → s.heap.get? b = some o := fun b o z => (e0.bs b o z).1
  have KX : K.In s.heap := e0.mod.kin.keeps up
  have par : ∀ y ∈ ps.zip us, scope.names.lookup y.1 = some .local ∨ (scope.names.lookup y.1 = some .cell ∧ ((cellsFrom (s.heap.objs.size + 1) scope.names []).lookup y.1).isSome = true) := fun y hy =>
    (S.par y.1 (List.of_mem_zip (show (y.1, y.2) ∈ ps.zip us from hy)).1).imp id fun q => ⟨q, PySem.W.cellsFrom_some _ _ _ (.inl q)⟩
  refine codeAny_call_function hr.depth (KX _ _ lk) rfl S.co S.gen rfl (PySem.W.codeRec_of KX hcd) (hb _ _ _ _ (wpAny_newFunctionEnv_cells S.kind par fun env he s1 z => ?_))
  subst he
  obtain ⟨t, ht, hq⟩ := bd A outer s H vs Q E gd (hr.deeper _) hsp
  have I := inv_start (CX := CX0) (E := E) S hr.hd e0 (ln _ _ _ _ hsp) r z
  refine ⟨(e0.mod.nolimit.keeps up).keeps z.toInCall.keep, codeAny_func (wpAny_mono (ht.nox.run [] s1 (start N vs) H _ I hq) (fun fl s' hs => ?_) fun e s' hs => hs)⟩
  match fl, hs with
  | .ret u, ⟨v, σ', H', J, rv, q⟩ => exact ⟨v, H', J.os, J.bare, J.base, J.hok, rv, q⟩
  | .next, ⟨σ', H', J, q⟩ => exact ⟨.non, H', J.os, J.bare, J.base, J.hok, rfl, q⟩
  | .brk, ⟨_, _, _, q⟩ => exact q.elim
  | .cont, ⟨_, _, _, q⟩ => exact q.elim
theorem okG {x : Str} {st : Stmt} {f : Addr} {fd : FuncData} {N ps : List Str} {k : Nat} {sp : Sp} (F : Fun K x x st f fd) (S : FnScope N ps (defScope st)) (ln : ∀ vs H Q E, sp vs H Q E → vs.length = ps.length)
    (bd : ∀ (cdv : Value) (A : Around) (outer : List Env) (s : Shared) (H : Hp) (vs : List V) (Q : VK) (E : XK), A.guards = some [] → Room k (A.deeper (envOfC x (defScope st) s.heap.objs.size f cdv)) → sp vs H Q E → ∃ t, PSs (cxOf CX0 P w K mg base N x (defScope st) f cdv A outer s H E).nox (defBody st) t ∧ t { nx := fun _ H' => Q .non H', rt := Q } (start N vs) H) :
    FnG P w K mg base (k + 1) f fd ps sp := by
  obtain ⟨oc, od, kV, doc, pm, an, cdv, ct, osl, rfl, lk, hcd⟩ := F.ex
  exact fnG_of lk hcd S ln fun A outer s H vs Q E gd hr hsp => bd cdv A outer s H vs Q E gd hr hsp
end
section
variable {X : Cx} {k : Nat} {f : Addr} {fd : FuncData} {ps : List Str} {sp : Sp} {E : XK} {x : Str} {p pos : Pos} {e : Expr} {es : List Expr} {t : TA}
theorem pe_callG (F : FnG X.prog X.w X.K X.mg X.base k f fd ps sp) (gd : X.A.guards = some []) (hr : Room k X.A) (hg : Gl X x) (hm : X.mg x = some (.ref f)) (hk : PySem.W.keepIn X.K (.ref f) = true) (hb : Binds X.K fd ps []) (ha : PA X (e :: es) t)
    (hdb : (x == ("__debug__" : Str)) = false := by decide) (he : starEach (e :: es) X.env = (false, eval e X.env) :: starEach es X.env := by rfl) (hpl : (backTo pos (starEach es X.env)).any (·.1) = false := by rfl) : PE X (.Call (.Name x p) (e :: es) [] pos) (tCall sp [] E t) := ⟨fun pins s σ H Q I h => by
  refine wpAny_Call_Name_kw (ld_glob I hg hm (PySem.W.callWith_K (h₀ := X.base) I.ok.mod.kin hk (thn (ha.run pos pins s σ H _ I h) fun us s1 ⟨vs, H1, I1, r, q⟩ => ⟨I1.kIn, ?_⟩) he hpl) hdb)
  have q : sp (vs ++ []) H1 Q E := q
  rw [List.append_nil] at q
  have hl : (us ++ []).length = ps.length := by rw [List.append_nil, ← r.length]; exact F.ln _ _ _ _ q
  have bt := hb s1 us I1.kIn hl
  rw [List.append_nil] at bt
  refine wpAny_call (codeAny_mono (F.go X.A X.stack s1 H1 ⟨us, []⟩ us vs Q E gd hr I1.env0 bt r q) fun r s' z => ?_)
  match r, z with
  | .ok (.ret u), z => exact I1.after z
  | .ok .next, z => exact z.elim
  | .ok .brk, z => exact z.elim
  | .ok .cont, z => exact z.elim
  | .error e, z => exact z.elim⟩
end
/-! ### the end of a law whose def is an FnG: its tables as things that stay tables (Ps), as the head leaves them (Ts) -/
def spLawY (K : PySem.W.Frag) (Ps Ts : List Addr) : Sp := fun vs H Q _ => ∃ (a : Addr) (ns : List Int), vs = [.ref a] ∧ SqL K H a (ns.map V.int) ∧ ns.length ≤ 63 ∧ (∀ p ∈ Ps, H p = some (TabO p)) ∧ (∀ p ∈ Ts, H p = some (.tbl #[])) ∧ ∀ H', (∀ p ∈ Ps, H' p = some (TabO p)) → Q (.bl true) H'
/-- what is tracked at the law's call -/
def hd0 (K : PySem.W.Frag) (Ps Ts : List Addr) (a : Addr) (o : Obj) (xs : List V) : Hp := fun b =>
  if b ∈ Ps then some (TabO b) else if b ∈ Ts then some (.tbl #[]) else if b = a ∧ (K.lookup a).isNone = true then some (.frz o (.lst xs)) else none
/-- a code object c of the module, its table at P, untouched as yet -/
structure CdK (K : PySem.W.Frag) (h : Heap) (P : Addr) : Prop where
  tab : h.get? P = some { cls := .none, data := .fields #[] }
  free : K.lookup P = none
  cd : ∃ c, PySem.W.codeHdIn K c P = true
theorem cdk_mk {K : PySem.W.Frag} {h : Heap} {f c P : Addr} {oc e : Value} {od dd : Option Addr} {fd : FuncData} {osl sl : Array (Option Value)} {vs : Array Value} (O : LamX.OwnTab K f h) (l : K.lookup f = some ⟨oc, od, .func fd, osl⟩) (hc : fd.code = .ref c) (lc : K.lookup c = some ⟨e, dd, .fields vs, sl⟩) (v : vs[11]? = some (.ref P)) (hh : PySem.W.codeHdIn K c P = true) (np : K.lookup P = none) : CdK K h P :=
  ⟨O c P _ fd e dd vs sl l rfl hc lc v, np, c, hh⟩
theorem law_callG {P : Program} {w : World} {K : PySem.W.Frag} {mg mb : Str → Option Value} {k : Nat} {fa a : Addr} {Ps Ts : List Addr} {fd : FuncData} {x : Str} {s₁ : Shared} {vs : List Value} {ns : List Int}
    (KX : K.In s₁.heap) (hns : s₁.heap.Ns mainGlobals mg) (hb : s₁.heap.Ns builtinsNs mb) (hbb : ∀ x : Str, x ≠ "__name__" → mb x = bootBuiltins x) (hlim : s₁.heap.NoLimit) (hg : s₁.gens = #[])
    (CP : ∀ p ∈ Ps, CdK K s₁.heap p) (CT : ∀ p ∈ Ts, CdK K s₁.heap p) (apart : ∀ p ∈ Ts, p ∉ Ps)
    (hbm : ∃ (bm : Addr) (ob : Obj), mg "__builtins__" = some (.ref bm) ∧ bm ≠ builtinsNs ∧ s₁.heap.get? bm = some ob ∧ ob.cls = .type "module" ∧ ob.dict = some builtinsNs ∧ ob.data = .plain)
    (ha : s₁.heap.get? a = some { cls := .type "list", data := .seq vs.toArray }) (hi : IntsAre vs ns) (hl : ns.length ≤ 63) (hr : Room k callerA)
    (F : ∀ base : Heap, K.In base → base.Ns mainGlobals mg → (∀ (c p : Addr), p ∈ Ps ++ Ts → PySem.W.codeHdIn K c p = true → GxR.TabB base mg c p) → FnG P w K mg base k fa fd [x] (spLawY K Ps Ts)) (hbind : ∀ (s : Shared) (u : Value), BindsTo s fd ⟨[u], []⟩ [(x, u)]) :
    codeAny (model P w) callerA (.call (.ref fa) ⟨[.ref a], []⟩) (fun r s' => r = .ok (.ret (.bool true)) ∧ OldK s₁.heap s'.heap ∧ s'.os = s₁.os ∧ AllBare s'.gens) s₁ := by
  have CA : ∀ p ∈ Ps ++ Ts, CdK K s₁.heap p := fun p hp => (List.mem_append.mp hp).elim (CP p) (CT p)
  have rv := vals_ints hi
  have aP : a ∉ Ps ++ Ts := fun z => by
    have q := (CA a z).tab
    rw [ha] at q
    exact absurd (congrArg Obj.data (Option.some.inj q)) (fun z => nomatch z)
  have aP1 : a ∉ Ps := fun z => aP (List.mem_append_left _ z)
  have aP2 : a ∉ Ts := fun z => aP (List.mem_append_right _ z)
  obtain ⟨H, hH⟩ : ∃ H, H = hd0 K Ps Ts a { cls := .type "list", data := .seq vs.toArray } (ns.map V.int) := ⟨_, rfl⟩
  have H1 : ∀ p ∈ Ps, H p = some (TabO p) := fun p hp => by rw [hH]; exact if_pos hp
  have H2 : ∀ p ∈ Ts, H p = some (.tbl #[]) := fun p hp => by rw [hH]; exact (if_neg (apart p hp)).trans (if_pos hp)
  have H3 : ∀ b, b ∉ Ps ++ Ts → b ≠ a → H b = none := fun b h1 h2 => by
    rw [hH]
    exact (if_neg fun z => h1 (List.mem_append_left _ z)).trans ((if_neg fun z => h1 (List.mem_append_right _ z)).trans (if_neg fun z => h2 z.1))
  have Ha : H a = if (K.lookup a).isNone = true then some (.frz { cls := .type "list", data := .seq vs.toArray } (.lst (ns.map V.int))) else none := by
    rw [hH]
    refine (if_neg aP1).trans ((if_neg aP2).trans ?_)
    by_cases hk : (K.lookup a).isNone = true
    · rw [if_pos hk]; exact if_pos ⟨rfl, hk⟩
    · rw [if_neg hk]; exact if_neg fun z => hk z.2
  have low : ∀ {b : Addr} {o : Obj}, s₁.heap.get? b = some o → (∀ u n, o.data ≠ .seq u n) → o.data ≠ .fields #[] → H b = none := fun {b o} e h1 h2 => by
    refine H3 b (fun z => ?_) fun z => ?_
    · rw [(CA b z).tab] at e
      cases e
      exact h2 rfl
    · rw [z, ha] at e
      cases e
      exact h1 _ _ rfl
  have dic : ∀ {b : Addr} {m : Str → Option Value}, s₁.heap.Ns b m → (hidT s₁.heap H).Ns b m := fun {b m} ⟨o, es, ep, e, d, r⟩ => ⟨o, es, ep, hidT_get e (low e (fun u n z => by rw [d] at z; cases z) fun z => by rw [d] at z; cases z), d, r⟩
  have KB : K.In (hidT s₁.heap H) := fun b o e => hidT_get (KX b o e) (by
    by_cases h1 : b ∈ Ps ++ Ts
    · rw [(CA b h1).free] at e; cases e
    · by_cases h2 : b = a
      · subst h2
        rw [Ha, e]
        rfl
      · exact H3 b h1 h2)
  have MO : Mod K mg (hidT s₁.heap H) := ⟨KB, dic hns, ⟨mb, dic hb, hbb⟩, let ⟨mc, l1, l2⟩ := hlim; ⟨mc, dic l1, l2⟩⟩
  have TB : ∀ (c p : Addr), p ∈ Ps ++ Ts → PySem.W.codeHdIn K c p = true → GxR.TabB (hidT s₁.heap H) mg c p := fun c p hp hc => by
    have ht := (CA p hp).tab
    obtain ⟨o, es, ep, eo, ed, _⟩ := hns
    refine ⟨PySem.W.codeHd_of_K KB hc, ?_, fun z => by rw [z, ht] at eo; cases eo; cases ed⟩
    obtain ⟨bm, ob, b1, b2, b3, b4, b5, b6⟩ := hbm
    exact ⟨bm, ob, b1, b2, fun z => (by rw [z, eo] at b3; cases b3; rw [ed] at b6; cases b6), fun z => (by rw [z, ht] at b3; cases b3; cases b6), hidT_get b3 (low b3 (fun u n z => by rw [b6] at z; cases z) fun z => by rw [b6] at z; cases z), b4, b5, b6⟩
  have OK : HOk P w H s₁.heap := fun b u e => by
    by_cases h1 : b ∈ Ps
    · rw [H1 b h1] at e
      cases e
      exact tab_obj ⟨#[], (CP b h1).tab, True.intro⟩
    · by_cases h2 : b ∈ Ts
      · rw [H2 b h2] at e
        cases e
        exact (CT b h2).tab
      · by_cases h3 : b = a
        · subst h3
          rw [Ha] at e
          by_cases hk : (K.lookup b).isNone = true
          · rw [if_pos hk] at e
            cases e
            exact ⟨ha, by rw [List.length_map]; exact Nat.le_trans hl (by decide), vs, _, rv, ha⟩
          · rw [if_neg hk] at e; cases e
        · rw [H3 b (fun z => (List.mem_append.mp z).elim h1 h2) h3] at e; cases e
  have hS : SqL K H a (ns.map V.int) := by
    cases hk : K.lookup a with
    | none => exact .inl (.inr ⟨_, by rw [Ha, hk]; rfl⟩)
    | some o =>
      have e := KX a o hk
      rw [ha] at e
      cases e
      exact .inr ⟨_, vs.toArray, _, hk, rfl, rfl, rfl, by rw [List.size_toArray, hi.length]; exact Nat.le_trans hl (by decide), by simpa using rv⟩
  have e0 : Env0 P w K mg (hidT s₁.heap H) callerA [] s₁ H := ⟨rfl, MO, fun b o e => of_hidT e, Nat.le_of_eq (hidT_size _ _), trivial, fun b hb => absurd (show b ∈ ([] : List Addr) from hb) (by simp), OK, .of_eq hg⟩
  refine codeAny_mono ((F _ KB (dic hns) TB).go callerA [] s₁ H ⟨[.ref a], []⟩ [.ref a] [.ref a] (fun v H' => v = .bl true ∧ ∀ p ∈ Ps, H' p = some (TabO p)) (fun _ _ _ => False) rfl hr e0 (hbind s₁ (.ref a)) (.cons rfl .nil) ⟨a, ns, rfl, hS, hl, H1, H2, fun H' h' => ⟨rfl, h'⟩⟩) fun r s' h => ?_
  match r, h with
  | .error e, h => exact h.elim
  | .ok .next, h => exact h.elim
  | .ok .brk, h => exact h.elim
  | .ok .cont, h => exact h.elim
  | .ok (.ret u), ⟨v, H', os, bare, un, hok', r', q, tb⟩ =>
    subst q
    obtain rfl : u = Value.bool true := r'
    have nf : ∀ b : Addr, b ∉ frs [] := fun b z => absurd (show b ∈ ([] : List Addr) from z) (by simp)
    have same : ∀ b o, b ∉ Ps ++ Ts → s₁.heap.get? b = some o → s'.heap.get? b = some o := fun b o h1 e => by
      by_cases h2 : b = a
      · subst h2
        by_cases hk : (K.lookup b).isNone = true
        · rw [if_pos hk] at Ha
          have z := hok' b _ (un.frzs b _ _ Ha)
          rw [ha] at e
          cases e
          exact z.1
        · rw [if_neg hk] at Ha
          exact un.keep b o e Ha (nf b) (by simp)
      · exact un.keep b o e (H3 b h1 h2) (nf b) (by simp)
    have grown : ∀ p ∈ Ps ++ Ts, ∃ more : Array Value, s'.heap.get? p = some { cls := .none, data := .fields more } := fun p hp => by
      rcases List.mem_append.mp hp with hp | hp
      · obtain ⟨⟨ps, e, _⟩, _⟩ := hok' p _ (tb p hp)
        exact ⟨ps, e⟩
      · obtain ⟨more, z⟩ := un.tbls p #[] (H2 p hp)
        exact ⟨_, hok' p _ z⟩
    refine ⟨rfl, ⟨fun b o e => ?_, fun b o e => ?_⟩, os, bare⟩
    · by_cases h1 : b ∈ Ps ++ Ts
      · obtain ⟨more, hm⟩ := grown b h1
        have ht := (CA b h1).tab
        obtain ⟨c, hc⟩ := (CA b h1).cd
        rw [ht] at e
        cases e
        exact .inr (.inl ⟨((PySem.W.codeHd_of_K KX hc).tab ht).isCodeTable, rfl, #[], more, rfl, by rw [Array.empty_append]; exact hm⟩)
      · exact .inl (same b o h1 e)
    · by_cases h1 : b ∈ Ps ++ Ts
      · obtain ⟨more, hm⟩ := grown b h1
        exact ⟨_, hm⟩
      · exact ⟨o, same b o h1 e⟩
/-- what is known of the law's def at the head's heap -/
def LawG (l : PySem.W.OpenLaw) (w : World) (K : PySem.W.Frag) (k : Nat) (x : Str) (mg : Str → Option Value) (fa : Addr) (h : Heap) : Prop :=
  ∃ (fd : FuncData) (Ps Ts : List Addr), (∀ p ∈ Ps, CdK K h p) ∧ (∀ p ∈ Ts, CdK K h p) ∧ (∀ p ∈ Ts, p ∉ Ps) ∧ (∀ (s : Shared) (u : Value), BindsTo s fd ⟨[u], []⟩ [(x, u)]) ∧
    ∀ base : Heap, K.In base → base.Ns mainGlobals mg → (∀ (c p : Addr), p ∈ Ps ++ Ts → PySem.W.codeHdIn K c p = true → GxR.TabB base mg c p) → FnG l.prog w K mg base k fa fd [x] (spLawY K Ps Ts)
theorem walk_G {l : PySem.W.OpenLaw} {k : Nat} {q : Program} {loose : List Str} {XP : (Str → Option Value) → Heap → Prop} {YP : World → Heap → Prop} {d : DefRec} {K : Params → PySem.W.Frag} {x : Str} (names : List Str)
    (hn : l.most = some 63) (hdf : d.params.defaults = []) (hr : Room k callerA) (hrec : (names.all fun nm => (recsOf q).any fun e => e.name == nm) = true) (hY : ∀ (w : World) (h : Heap), YP w h → (K w.params).In h)
    (F : ∀ (w : World) (mg : Str → Option Value) (fa : Addr) (h : Heap), (K w.params).In h → h.Ns mainGlobals mg → mg d.name = some (.ref fa) → (∀ nm ∈ names, ∀ f, mg nm = some (.ref f) → LamX.OwnTab (K w.params) f h) → LawG l w (K w.params) k x mg fa h) :
    PySem.W.WalkO q loose XP YP l.row.toRowW d [] (fun f vs => PySem.call f vs) := by
  refine Att.attach_callB hn hdf fun w s₀ s₁ mg mb fa o pm cd doc a vs ns G Y ho hd hcd hmg hobj hints hlen hbits hg => ?_
  have KX := hY w _ Y
  have own : ∀ nm ∈ names, ∀ f, mg nm = some (.ref f) → LamX.OwnTab (K w.params) f s₁.heap := fun nm hnm f hf c P o1 fd1 e dd vs1 sl k1 k2 k3 k4 k5 => by
    obtain ⟨r, hr1, hr2⟩ := List.any_eq_true.mp (List.all_eq_true.mp hrec nm hnm)
    have er : r.name = nm := beq_iff_eq.mp hr2
    obtain ⟨a', o', fd', c', P', h1, h2, h3, h4, _, h6⟩ := G.T.tab r hr1
    rw [er, hf] at h1
    cases h1
    rw [KX _ _ k1] at h2
    cases h2
    rw [k2] at h3
    cases h3
    rw [k3] at h4
    cases h4
    obtain ⟨⟨oc, vc, e1, _, e3, e4⟩, hP⟩ := h6
    rw [KX _ _ k4] at e1
    cases e1
    cases e3
    rw [k5] at e4
    cases e4
    exact hP
  obtain ⟨fd, Ps, Ts, c1, c2, c3, hb, hF⟩ := F w mg fa _ KX G.T.g hmg own
  exact law_callG KX G.T.g G.T.b G.T.builtins G.T.nolimit hg c1 c2 c3 G.T.bmain hobj hints hlen hr hF hb
/-! ### an iterator's end while an exception is handled -/
section
open HotX
variable {prog : Program} {w : World} {A : Around} {E : Value → Shared → Prop} {s : Shared} {x1 : Addr}
theorem hot_in1 {h : Heap} (t : HotAt A x1 h) : HotAt A.in1 x1 h := t
theorem hot_up {h h' : Heap} (t : HotAt A x1 h) (k : ∀ b o, h.get? b = some o → h'.get? b = some o) : HotAt A x1 h' := by
  obtain ⟨a, o, vs, b, c, d⟩ := t
  exact ⟨a, o, vs, k _ _ b, c, d⟩
theorem hot_but {h h' : Heap} {it : Addr} {o : Obj} (t : HotAt A x1 h) (n : x1 ≠ it) (k : Heap.SameBut it h h') : HotAt A x1 h' := by
  obtain ⟨a, o, vs, b, c, d⟩ := t
  exact ⟨a, o, vs, (k.2 _ n).trans b, c, d⟩
theorem stop_hot {α : Type} {Q : α → Shared → Prop} (t : HotAt A x1 s.heap) (k : ∀ h' e, (∀ b o, s.heap.get? b = some o → h'.get? b = some o) → (∃ o, h'.get? e = some o ∧ o.cls = .type "StopIteration") → E (.ref e) { s with heap := h' }) :
    wpAny (model prog w) A (newExc (.type "StopIteration") [] >>= fun e => (raiseNew e : Sem α)) Q E s := by
  obtain ⟨hh, o1, vs1, h1, d1, c1⟩ := t
  refine wpAny_bind ?_
  simp only [newExc, newTuple]
  refine wpAny_bind (wpAny_newObj_type (wpAny_bind (m := firstArgMember _ _) (wpAny_of_eq (a := Value.none) (by first | rfl | (simp only [firstArgMember]; rfl)) (wpAny_newObj_type ?_ (by size_fits)))) (by size_fits))
  have u1 := Heap.get?_push_of_some { cls := .type "tuple", data := .seq ([] : List Value).toArray } h1
  refine raiseNew_hot ⟨hh, o1, vs1, Heap.get?_push_of_some _ u1, d1, c1⟩ (Nat.ne_of_lt (Heap.lt_size u1)) (Heap.get?_push_size _ rfl) rfl (by first | (simp; done) | (simp; omega) | decide) ?_
  refine k _ _ (fun b o e => ?_) ⟨_, Heap.get?_update_self _ (Heap.get?_push_size _ rfl) rfl, rfl⟩
  rw [Heap.get?_update_other _ _ (Nat.ne_of_gt (Heap.lt_size (Heap.get?_push_of_some _ e)))]
  exact Heap.get?_push_of_some _ (Heap.get?_push_of_some _ e)
theorem list_end_hot {it l : Addr} {i : Nat} {items : Array Value} {Q : Value → Shared → Prop} (t : HotAt A x1 s.heap) (n : x1 ≠ it) (hit : s.heap.IsListIter it l i) (hl : s.heap.IsList l items) (hx : items[i]? = none)
    (hE : ∀ h' e, Heap.ExtBut it s.heap h' → (∃ o, h'.get? e = some o ∧ o.cls = .type "StopIteration") → E (.ref e) { s with heap := h' }) : wpAny (model prog w) A (Builtin.SmallTypes.nextOf (.ref it)) Q E s := by
  obtain ⟨o, ho, hc, hd⟩ := id hit
  obtain ⟨ol, hol, _, nl, hdl⟩ := hl
  unfold Builtin.SmallTypes.nextOf
  refine wpAny_bind (wpAny_callSpecial?_slot (name := Str.ofString "__next__") hit.typeIs slot_listiter_next (wpAny_call_entry slot_listiter_next hit.typeIs entry_listiter_next ?_ (args_listiter_next _)))
  show wpAny _ _ (field (.ref it) 0 >>= _) _ _ s; refine wpAny_bind (wpAny_field ho hd (x := .ref l) rfl ?_)
  show wpAny _ _ (if (Value.ref l == Value.none) = true then _ else _) _ _ s; rw [if_neg (show ¬ ((Value.ref l == Value.none) = true) from Bool.false_ne_true)]
  show wpAny _ _ (field (.ref it) 1 >>= _) _ _ s; refine wpAny_bind (wpAny_field ho hd (x := .int i 0) rfl ?_)
  show wpAny _ _ (seqItems? (.ref l) >>= _) _ _ s; refine wpAny_bind (wpAny_seqItems hol hdl ?_)
  simp only [Int.toNat_natCast, hx]
  refine wpAny_bind (wpAny_rule (wpAny_bind (wpAny_setField ho hd (by simp) ?_)))
  have sb := Heap.SameBut.update s.heap it (Obj.mapFields (·.setIfInBounds 0 Value.none))
  refine stop_hot (A := A.in1) (hot_but (o := o) t n sb) fun h' e k x => hE h' e (fun b ob hb q => k b ob ((sb.2 b hb).trans q)) x
theorem tuple_end_hot {it t : Addr} {i : Nat} {items : Array Value} {Q : Option Value → Shared → Prop} (t1 : HotAt A x1 s.heap) (n : x1 ≠ it) (hit : IsTupIter s.heap it t i) (ht : IsTup s.heap t items) (hx : items[i]? = none)
    (hQ : ∀ h', Heap.ExtBut it s.heap h' → Q none { s with heap := h' }) : wpAny (model prog w) A (pyNext (.ref it)) Q E s := by
  obtain ⟨o, ho, hc, hd⟩ := id hit
  obtain ⟨ol, hol, _, nl, hdl⟩ := ht
  unfold pyNext
  refine wpAny_bind (wpAny_attempt (wpAny_callSpecial?_slot (name := Str.ofString "__next__") hit.typeIs slot_tupleiter_next (wpAny_call_entry slot_tupleiter_next hit.typeIs entry_tupleiter_next ?_ (args_tupleiter_next _))))
  show wpAny _ _ (field (.ref it) 0 >>= _) _ _ s; refine wpAny_bind (wpAny_field ho hd (x := .ref t) rfl ?_)
  show wpAny _ _ (if (Value.ref t == Value.none) = true then _ else _) _ _ s; rw [if_neg (show ¬ ((Value.ref t == Value.none) = true) from Bool.false_ne_true)]
  show wpAny _ _ (field (.ref it) 1 >>= _) _ _ s; refine wpAny_bind (wpAny_field ho hd (x := .int i 0) rfl ?_)
  show wpAny _ _ (seqItems? (.ref t) >>= _) _ _ s; refine wpAny_bind (wpAny_seqItems hol hdl ?_)
  simp only [Int.toNat_natCast, hx]
  refine wpAny_bind (wpAny_rule (wpAny_bind (wpAny_setField ho hd (by simp) ?_)))
  have sb := Heap.SameBut.update s.heap it (Obj.mapFields (·.setIfInBounds 0 Value.none))
  refine stop_hot (A := A.in1) (hot_but (o := o) t1 n sb) fun h' e k x => ?_
  obtain ⟨oe, he, hce⟩ := x
  exact wpAny_bind (wpAny_isInstance (T := "StopIteration") (b := true) ⟨oe, he, hce⟩ isSubtype_stop (wpAny_pure (hQ _ fun b ob hb q => k b ob ((sb.2 b hb).trans q))))
theorem enum_end_hot {e it l : Addr} {i : Nat} {items : Array Value} {old : Value} {Q : Option Value → Shared → Prop} (t : HotAt A x1 s.heap) (n : x1 ≠ it) (he : IsEnum s.heap e it i old) (hit : s.heap.IsListIter it l i) (hl : s.heap.IsList l items) (hx : items[i]? = none)
    (hQ : ∀ h', Heap.ExtBut it s.heap h' → Q none { s with heap := h' }) : wpAny (model prog w) A (pyNext (.ref e)) Q E s := by
  have hT : s.TypeIs (.ref e) "enumerate" := ⟨_, he, rfl⟩
  unfold pyNext
  refine wpAny_bind (wpAny_attempt (wpAny_callSpecial?_slot (name := Str.ofString "__next__") hT F.slot_enumerate_next (wpAny_call_entry F.slot_enumerate_next hT F.entry_enumerate_next ?_ (F.args_enumerate_next_1 _))))
  show wpAny _ _ (field (.ref e) 2 >>= _) _ _ _; refine wpAny_bind (wpAny_field he rfl (x := .ref it) rfl (wpAny_bind (list_end_hot (hot_in1 t) n hit hl hx fun h' x he' hx' => ?_)))
  obtain ⟨o, ho, hc⟩ := hx'
  exact wpAny_bind (wpAny_isInstance (T := "StopIteration") (b := true) ⟨o, ho, hc⟩ isSubtype_stop (wpAny_pure (hQ _ he')))
/-- a, b = t -/
theorem assign_tuple_hot {env : Env} {elts : List Expr} {k1} {pos : Pos} {t : Addr} {items : Array Value} {Q : Unit → Shared → Prop} (t1 : HotAt A x1 s.heap) (ht : IsTup s.heap t items) (hn : (assignEach elts env).length = items.size) (hstar : (assignEach elts env).findIdx? (·.1) = none)
    (h : ∀ h', Heap.ExtBut s.heap.objs.size s.heap h' → wpAny (model prog w) A (assignInOrder ((assignEach elts env).map (·.2)) items.toList) Q E { s with heap := h' }) : wpAny (model prog w) A (assign (.Tuple elts k1 pos) env (.ref t)) Q E s := by
  have hlt : t ≠ s.heap.objs.size := by obtain ⟨o, ho, _⟩ := ht; exact Nat.ne_of_lt (Heap.lt_size ho)
  have nx : x1 ≠ s.heap.objs.size := by obtain ⟨_, o, vs, b, _⟩ := t1; exact Nat.ne_of_lt (Heap.lt_size b)
  rw [PyProof.Rows.assign_Tuple]
  refine wpAny_bind (wpAny_standAt ?_)
  unfold unpack
  rw [hn, hstar]
  refine wpAny_bind (wpAny_holding ?_)
  unfold unpackItems notIterableAtAll
  refine wpAny_bind (wpAny_bind (wpAny_specialOf ht.typeIs slot_tuple_iter.lookup (wpAny_pure ?_)))
  simp only [Bool.false_eq_true, if_false]
  refine wpAny_bind (wpAny_holding (iter_tuple ht (wpAny_bind (wpAny_holding (draw_tuple hlt items.size 0 _ _ ⟨_, Heap.get?_push_size _ rfl, rfl, rfl⟩ (ht.push _) (by omega) fun h₁ hit₁ hs₁ => ?_)))))
  rw [show List.take items.size (List.drop 0 items.toList) = items.toList by rw [List.drop_zero]; exact List.take_of_length_le (by simp), if_neg (by simp)]
  have t2 : HotAt A x1 h₁ := hot_but (o := default) (hot_up t1 fun b o e => Heap.get?_push_of_some _ e) nx hs₁
  refine wpAny_bind (wpAny_holding (tuple_end_hot t2 nx hit₁ ((ht.push _).extBut hs₁.extBut hlt) (by simp) fun h₂ he₂ => ?_))
  simp only [Option.isSome_none, Bool.false_eq_true, if_false]
  exact wpAny_pure (h h₂ fun b o hb e => he₂ b o hb (hs₁.extBut b o hb (Heap.get?_push_of_some _ e)))
end
/-! ### [.. for a, b in enumerate(l) if ..] while an exception is handled -/
section
open HotX
variable {X : Cx} {pins : List (Addr × Obj)} {σ : L2.St} {H : Hp} {s : Shared}
/-- a target, the handled exception standing as it is -/
structure PGQ (X : Cx) (tg : Expr) (g : TG) : Prop where
  go : ∀ (x1 : Addr) (pins : List (Addr × Obj)) (s : Shared) (σ : L2.St) (H : Hp) (v : V) (u : Value) (Q : L2.St → Hp → Prop), HotAt X.A x1 s.heap → Inv X pins σ H s → RelV v u → g v σ H Q → wpAny (model X.prog X.w) X.A (assign tg X.env u) (fun _ s' => ∃ σ' H', Inv X pins σ' H' s' ∧ Q σ' H') X.xe s
theorem pgq_tup {es : List Expr} {k n : Nat} {t : TGs} {pos : Pos} (h : PGs X es t) (hn : (assignEach es X.env).length = n := by rfl) (hst : (assignEach es X.env).findIdx? (·.1) = none := by rfl) : PGQ X (.Tuple es k pos) (gTup X.K n t) := ⟨fun x1 pins s σ H v u Q hot I r hw => by
  obtain ⟨a, xs, rfl, hq, hl, hw⟩ := hw
  cases r
  obtain ⟨its, rv, ht, hz⟩ := I.tuple hq
  refine assign_tuple_hot hot ht (by simp [hn, ← hl, rv.length]) hst fun h' hx => ?_
  exact h.run pins _ σ H xs _ Q (I.kept (h' := h') (t' := s.toks) fun b o e => hx b o (Nat.ne_of_lt (Heap.lt_size e)) e) (by simpa using rv) hw⟩
/-- how the walk stands at the i-th turn -/
def enumAt (a e it : Addr) (i : Nat) (h : Heap) : Prop := (∃ old, IsEnum h e it ((i : Nat) : Int) old) ∧ h.IsListIter it a i ∧ e ≠ it
theorem enumAt.keep {a e it : Addr} {i : Nat} {h h' : Heap} (t : enumAt a e it i h) (k : ∀ b ∈ [e, it], ∀ o, h.get? b = some o → h'.get? b = some o) : enumAt a e it i h' := by
  obtain ⟨⟨old, he⟩, hi, n⟩ := t
  exact ⟨⟨old, k e (by simp) _ he⟩, hi.at fun o q => k it (by simp) o q, n⟩
theorem enumAt.obj {a e it : Addr} {i : Nat} {h : Heap} (t : enumAt a e it i h) : ∀ b ∈ [e, it], ∃ o, h.get? b = some o ∧ ∀ v, o.data ≠ .cell v := fun b hb => by
  obtain ⟨⟨old, he⟩, ⟨o, ho, hc, hd⟩, _⟩ := t
  rcases (show b = e ∨ b = it by simpa using hb) with rfl | rfl
  · exact ⟨_, he, fun v q => nomatch q⟩
  · exact ⟨o, ho, fun v q => by rw [hd] at q; cases q⟩
theorem enum_next {a e it : Addr} {i : Nat} {xs : List V} {x : V} {elts : List Expr} {kk : Nat} {tpos : Pos} {E : Value → Shared → Prop} (I : Inv X pins σ H s) (hf : ∀ b ∈ [e, it], FpOk X pins H b) (st : enumAt a e it i s.heap) (hq : SqL X.K H a xs) (hx : xs[i]? = some x) :
    wpAny (model X.prog X.w) X.A (pyNext (.ref e)) (fun r s1 => ∃ u, r = some u ∧ wpAny (model X.prog X.w) X.A (letOwnedTupleGo (.Tuple elts kk tpos) (.ref e) u) (fun _ s2 => ∃ T, u = .ref T ∧ H T = none ∧ Inv X pins σ (upd H T (.tup [.int (i : Nat), x])) s2 ∧ enumAt a e it (i + 1) s2.heap ∧ ∀ b ∈ [e, it], upd H T (.tup [.int (i : Nat), x]) b = none) E s1) E s := by
  obtain ⟨⟨old, he⟩, hit, hne⟩ := st
  obtain ⟨its, rv, p, hz⟩ := I.list hq
  obtain ⟨u, hu, ru⟩ := rv.get hx
  have lt : ∀ b ∈ [e, it], b < s.heap.objs.size := fun b hb => by
    rcases (show b = e ∨ b = it by simpa using hb) with rfl | rfl
    · exact Heap.lt_size he
    · obtain ⟨_, q, _⟩ := hit; exact Heap.lt_size q
  refine wpAny_pyNext_enum_item he hit p.isList (x := u) (by simpa using hu) hne fun h' ho hit' hT hsz hk => ⟨_, rfl, wpAny_letOwnedTupleGo_enum (s := { s with heap := h', toks := s.toks + 1 }) ho fun h2 he' sb => ?_⟩
  have hT2 : h2.get? s.heap.objs.size = some { cls := .type "tuple", data := .seq #[.int i s.toks, u] } := (sb.2 _ (Nat.ne_of_gt (lt e (by simp)))).trans hT
  have I1 := I.turnedNew (t' := s.toks + 1) (ch := [e, it]) (h' := h2) (fun b ob hb q => (sb.2 b (fun z => hb (by simp [z]))).trans (hk b ob (fun z => hb (by simp [z])) (fun z => hb (by simp [z])) q)) hf (Nat.le_refl _) (ob := .tup [.int (i : Nat), x]) ⟨by show 2 ≤ sizeLine; decide, [.int i s.toks, u], .cons ⟨_, rfl⟩ (.cons ru .nil), ⟨_, hT2, rfl, _, rfl⟩⟩
  refine ⟨_, rfl, I.hok.fresh (Nat.le_refl _), I1, ⟨⟨u, ?_⟩, hit'.at fun o q => (sb.2 it (Ne.symm hne)).trans q, hne⟩, fun b hb => by rw [upd_ne (Nat.ne_of_lt (lt b hb))]; exact (hf b hb).1⟩
  rw [show ((i + 1 : Nat) : Int) = (i : Int) + 1 by omega]
  exact he'
theorem enum_last {a e it x1 : Addr} {i : Nat} {xs : List V} {E : Value → Shared → Prop} (hot : HotAt X.A x1 s.heap) (I : Inv X pins σ H s) (hf : ∀ b ∈ [e, it], FpOk X pins H b) (st : enumAt a e it i s.heap) (hq : SqL X.K H a xs) (hx : xs.length ≤ i) :
    wpAny (model X.prog X.w) X.A (pyNext (.ref e)) (fun r s1 => r = none ∧ Inv X pins σ H s1) E s := by
  obtain ⟨⟨old, he⟩, hit, hne⟩ := st
  obtain ⟨its, rv, p, hz⟩ := I.list hq
  obtain ⟨f0, f1, f2, f3, f4, f5⟩ := hf it (by simp)
  have hl := rv.length
  have n1 : x1 ≠ it := fun z => by
    obtain ⟨_, o1, v1, g1, g2, g3⟩ := hot
    obtain ⟨o2, k1, _, k3⟩ := hit
    rw [z, k1] at g1
    cases g1
    rw [k3] at g2
    cases g2
    simp at g3
  exact enum_end_hot hot n1 he hit p.isList (by simp; omega) fun h' eb => ⟨rfl, I.turned (t' := s.toks) (fun b o hb q => eb b o hb q) f0 f1 f3 f4 f5⟩
theorem lc_hot {Q : VK} {elt ce : Expr} {elts : List Expr} {kk : Nat} {tpos p1 p2 : Pos} {ifs : List Expr} {scope : Scope} {own : List (Str × Nat)} {pos pos' : Pos} {ta : TA} {g : TG} {tt : TT} {te : TE} {use : Option (Value → Sem Unit)} {Qf : Value → Shared → Prop}
    (hot : L2H.HotC X) (hN : X.N.Nodup) (I : Inv X pins σ H s) (hgl : Gl X "enumerate") (hm : X.mg "enumerate" = none) (ha : PA X [ce] ta) (ok : BlkOk X.N X.env.scope scope own)
    (hg : ∀ (s : Shared) (H : Hp) (C : Addr) (cl : List (Str × Addr)) (fp : List Addr), PGQ (X.blk s H scope (compEnvC scope cl C X.env) fp) (.Tuple elts kk tpos) g) (ht : ∀ (s : Shared) (H : Hp) (C : Addr) (cl : List (Str × Addr)) (fp : List Addr), PTs (X.blk s H scope (compEnvC scope cl C X.env) fp) ifs tt)
    (he : ∀ (s : Shared) (H : Hp) (C : Addr) (cl : List (Str × Addr)) (fp : List Addr), PE (X.blk s H scope (compEnvC scope cl C X.env) fp) elt te) (hs : ∀ x, foldedSetIterable (.Call (.Name "enumerate" p1) [ce] [] p2) X.env x = pure x) (hst : starEach [ce] X.env = [(false, eval ce X.env)])
    (h : tLc (iEnum X.K ta) g tt te (own.map (·.2)) σ H Q) (hRR : ∀ D C s' m H', Inv X pins σ H' s' → Q (.ref D) H' → s'.heap.Ns C m → FpOk X pins H' C → compPost (model X.prog X.w) X.A X.xe use Qf (.ref D) C (.ok .next) s') :
    wpAny (model X.prog X.w) X.A (comprehension (.ListComp elt [⟨.Tuple elts kk tpos, .Call (.Name "enumerate" p1) [ce] [] p2, ifs, 0⟩] scope pos) scope X.env pos' (newList []) false (eval (.Call (.Name "enumerate" p1) [ce] [] p2) X.env) use) Qf X.xe s := by
  have fr : ∀ y ∈ scope.names, y.2 = .free → ∃ c, X.env.cells.lookup y.1 = some c := fun y hy e => (ok.free y hy e).elim (fun k => I.ok.has _ (.inl k)) (fun k => I.ok.has _ (.inr k))
  refine wpAny_comprehension_free (use := use) rfl hs (closure_ok fr) ok.kind (fun y hy e => by rw [ok.uniq y hy, e]) ?_
  refine Call_ (ld_blt I hgl hm boot_enumerate (PyProof.Rows.callWith_type1 (thn (ha.run p2 pins s σ H _ I h) fun us s1 ⟨vs, H1, I1, r1, q1⟩ => ?_) hst rfl))
  obtain ⟨a, xs, rfl, hq, q⟩ := q1
  cases r1 with
  | cons r rr =>
  cases rr
  cases r
  obtain ⟨its, rv, pl, hz⟩ := I1.list hq
  refine call_enumerate_list pl.isList fun h' hen hit hsz hk => wpAny_pyIter_enum hen ?_
  have I2 : Inv X pins σ H1 { s1 with heap := h' } := I1.kept (t' := s1.toks) hk
  generalize hs2 : ({ s1 with heap := h' } : Shared) = s2 at I2
  generalize hE : s1.heap.objs.size + 1 = E0 at hen
  generalize hI : s1.heap.objs.size = J0 at hit hen
  have h2 : s2.heap = h' := by rw [← hs2]
  have st2 : enumAt a E0 J0 0 s2.heap := by rw [h2]; exact ⟨⟨.none, hen⟩, hit, by rw [← hE, ← hI]; exact Nat.succ_ne_self _⟩
  have f2 : ∀ b ∈ [E0, J0], FpOk X pins H1 b := fun b hb => by
    have le : s1.heap.objs.size ≤ b := by
      rcases (show b = E0 ∨ b = J0 by simpa using hb) with rfl | rfl
      · rw [← hE]; exact Nat.le_add_right _ _
      · rw [← hI]; exact Nat.le_refl _
    exact I1.fpOk le (I1.hok.fresh le)
  refine wpAny_newObj_type (newEnv_comp ?_) (by show 0 ≤ sizeLine; decide)
  generalize hD : s2.heap.objs.size = D
  have dn : H1 D = none := I2.hok.fresh (Nat.le_of_eq hD)
  obtain ⟨W, ⟨m0, w0⟩, turn⟩ := q D dn
  generalize hs3 : ({ s2 with heap := s2.heap.push { cls := .type "list", data := .seq ([] : List Value).toArray } } : Shared) = s3
  have h3 : s3.heap = s2.heap.push { cls := .type "list", data := .seq ([] : List Value).toArray } := by rw [← hs3]
  have up3 : ∀ b o, s2.heap.get? b = some o → s3.heap.get? b = some o := fun b o e => by rw [h3]; exact Heap.get?_push_of_some _ e
  have I3 : Inv X pins σ (upd H1 D (.lst [])) s3 := by
    have := I2.laid (t' := s2.toks) (h' := s2.heap.push { cls := .type "list", data := .seq ([] : List Value).toArray }) (a := D) (o := .lst []) (fun b o e => Heap.get?_push_of_some _ e) (Nat.le_of_eq hD) ⟨Nat.zero_le _, [], 0, .nil, by rw [← hD]; exact Heap.get?_push_size _ rfl⟩
    rw [← hs3]
    exact this
  have f3 : ∀ b ∈ [E0, J0], FpOk X pins (upd H1 D (.lst [])) b ∧ b < s3.heap.objs.size := fun b hb => by
    obtain ⟨o, e, _⟩ := st2.obj b hb
    have l := Heap.lt_size e
    exact ⟨⟨by rw [upd_ne (by rw [← hD]; exact Nat.ne_of_lt l)]; exact (f2 b hb).1, (f2 b hb).2⟩, by rw [h3, Heap.size_push]; exact Nat.lt_succ_of_lt l⟩
  have st3 : enumAt a E0 J0 0 s3.heap := st2.keep fun b _ o e => up3 b o e
  have I4 := block_start I3 ok hN f3
  have pg := hg s3 (upd H1 D (.lst [])) s3.heap.objs.size (cellsFrom (s3.heap.objs.size + 1) scope.names (cloFrom X.env.cells scope.names [])) [E0, J0]
  have pt := ht s3 (upd H1 D (.lst [])) s3.heap.objs.size (cellsFrom (s3.heap.objs.size + 1) scope.names (cloFrom X.env.cells scope.names [])) [E0, J0]
  have pe := he s3 (upd H1 D (.lst [])) s3.heap.objs.size (cellsFrom (s3.heap.objs.size + 1) scope.names (cloFrom X.env.cells scope.names [])) [E0, J0]
  show codeAny _ _ (.compStart (.ListComp elt [⟨.Tuple elts kk tpos, .Call (.Name "enumerate" p1) [ce] [] p2, ifs, 0⟩] scope pos) 0 (.ref E0) (.ref D) (compEnvC scope (cellsFrom (s3.heap.objs.size + 1) scope.names (cloFrom X.env.cells scope.names [])) s3.heap.objs.size X.env)) (compPost (model X.prog X.w) X.A X.xe use Qf (.ref D) s3.heap.objs.size) { s3 with heap := pushCells (s3.heap.push { cls := .type "dict", data := .dict #[] }) scope.names }
  generalize hcv : compEnvC scope (cellsFrom (s3.heap.objs.size + 1) scope.names (cloFrom X.env.cells scope.names [])) s3.heap.objs.size X.env = cv at I4 pg pt pe ⊢
  have cL : cv.locals = s3.heap.objs.size := by subst hcv; rfl
  generalize hH3 : upd H1 D (.lst []) = H3 at I3 I4 pg pt pe w0 f3
  generalize hs4 : ({ s3 with heap := pushCells (s3.heap.push { cls := .type "dict", data := .dict #[] }) scope.names } : Shared) = s4 at I4 ⊢
  have st4 : enumAt a E0 J0 0 s4.heap := st3.keep fun b _ o e => by rw [← hs4]; exact pushCells_keeps _ _ _ _ (Heap.get?_push_of_some _ e)
  -- the exception stands through the block
  obtain ⟨pp, ⟨hh, v1, e1, c1⟩, hp⟩ := hot
  have P1 := I3.pin pp (List.mem_append_left _ hp)
  have npf : pp.1 ∉ frs X.stack := fun hm => (List.mem_cons.mp (I3.stkSub pp.1 hm)).elim P1.2.2.1 P1.2.2.2.1
  have npe : pp.1 ∉ [E0, J0] := fun z => (f3 _ z).1.2.2.2.2.2 pp (List.mem_append_left _ hp) rfl
  have hotAt : ∀ {σ' : L2.St} {H' : Hp} {s' : Shared} {ps : List (Addr × Obj)}, Inv (X.blk s3 H3 scope cv [E0, J0]) ps σ' H' s' → HotAt X.A pp.1 s'.heap := fun {σ' H' s' ps} I' => ⟨hh, pp.2, v1, I'.base.keep pp.1 pp.2 P1.1 P1.2.1 npf npe, e1, c1⟩
  have stat : ∀ {σ' : L2.St} {H' : Hp} {s' : Shared}, Inv (X.blk s3 H3 scope cv [E0, J0]) [] σ' H' s' → (∀ b ∈ [E0, J0], H' b = none) → ∀ b ∈ [E0, J0], FpOk (X.blk s3 H3 scope cv [E0, J0]) [] H' b := fun {σ' H' s'} I' hn b hb =>
    ⟨hn b hb, (I'.ok.exf b hb).1, I'.ok.exfs b hb, .inl hb, fun x c e => (I'.ok.exf b hb).2 x c e, fun p hp => absurd (show p ∈ ([] : List (Addr × Obj)) ++ [] from hp) (by simp)⟩
  have loop : codeAny (model X.prog X.w) X.A (.compLoop (.ListComp elt [⟨.Tuple elts kk tpos, .Call (.Name "enumerate" p1) [ce] [] p2, ifs, 0⟩] scope pos) 0 (.ref E0) (.ref D) cv) (compPost (model X.prog X.w) X.A X.xe use Qf (.ref D) s3.heap.objs.size) s4 := by
    refine compLoop_any (fun n s' => ∃ i H', Inv (X.blk s3 H3 scope cv [E0, J0]) [] (wipe σ (own.map (·.2))) H' s' ∧ enumAt a E0 J0 i s'.heap ∧ (∀ b ∈ [E0, J0], H' b = none) ∧ W i n H') ?_ m0 ⟨0, H3, I4, st4, fun b hb => (f3 b hb).1.1, w0⟩
    rintro n s5 ⟨i, H5, I5, st5, n5, w5⟩
    rcases turn i n H5 w5 with ⟨⟨ys, hy, hyl⟩, qq⟩ | ⟨⟨ys, x, hy, hyx⟩, Nx, hNx, step⟩
    · refine thnF (enum_last (X := X.blk s3 H3 scope cv [E0, J0]) (E := fun _ _ => False) (hotAt I5) I5 (stat I5 n5) st5 hy hyl) fun r s6 ⟨hr, I6⟩ => ?_
      subst hr
      have I7 : Inv X pins σ H5 s6 := I3.call' (ch := [E0, J0]) I6.os I6.base I6.hok I6.bare fun b hb => ⟨(f3 b hb).1.2.2.2.1, (f3 b hb).1.2.1, (f3 b hb).1.2.2.2.2.1, (f3 b hb).1.2.2.2.2.2⟩
      have nC : H5 s3.heap.objs.size = none := by
        have z : H5 cv.locals = none := I6.free
        rw [cL] at z; exact z
      obtain ⟨m, hn, _⟩ := I6.loc
      have hn : s6.heap.Ns cv.locals m := hn
      rw [cL] at hn
      exact hRR D s3.heap.objs.size s6 m H5 I7 qq hn (I3.fpOk (Nat.le_refl _) nC)
    · refine thnF (enum_next (X := X.blk s3 H3 scope cv [E0, J0]) (elts := elts) (kk := kk) (tpos := tpos) (E := fun _ _ => False) I5 (stat I5 n5) st5 hy hyx) fun r s6 ⟨u, hr, h6⟩ => ?_
      subst hr
      refine thnF h6 fun _ s7 ⟨T, hT, hTn, I7, st7, n7⟩ => ?_
      subst hT
      have I7' := I7.pinned (stat I7 n7) st7.obj
      refine thnF (pg.go pp.1 _ s7 _ _ (.ref T) (.ref T) _ (hotAt I7') I7' rfl (step (.ref T) _ ⟨T, x, rfl, hTn, rfl, fun zs hzs => by rw [I5.list_inj hzs hy]; exact hyx⟩)) fun _ s8 ⟨σ8, H8, I8, hw8, q8⟩ => ?_
      refine thnF (pt.run _ s8 σ8 H8 _ I8 q8) fun bb s9 ⟨H9, I9, q9⟩ => ?_
      have fin : ∀ {s' : Shared} {H' : Hp}, Inv (X.blk s3 H3 scope cv [E0, J0]) ([] ++ pinsAt [E0, J0] s7.heap) σ8 H' s' → Nx H' → ∃ m, m < n ∧ ∃ i H', Inv (X.blk s3 H3 scope cv [E0, J0]) [] (wipe σ (own.map (·.2))) H' s' ∧ enumAt a E0 J0 i s'.heap ∧ (∀ b ∈ [E0, J0], H' b = none) ∧ W i m H' := fun {s' H'} I' nx => by
        obtain ⟨m', hlt, w'⟩ := hNx H' nx
        have pin' : ∀ b ∈ [E0, J0], ∀ o, s7.heap.get? b = some o → s'.heap.get? b = some o ∧ H' b = none := fun b hb o e => (fun z => ⟨z.1, z.2.1⟩) (I'.pin (b, o) (List.mem_append_right _ (List.mem_append_right _ (mem_pinsAt hb e))))
        refine ⟨m', hlt, i + 1, H', (I'.unpinned (pins := [])).weak (by rw [← hw8, wipe_length]) (fun j v e => by rw [← hw8] at e; exact (wipe_some e).1), st7.keep fun b hb o e => (pin' b hb o e).1, fun b hb => ?_, w'⟩
        obtain ⟨o, e, _⟩ := st7.obj b hb
        exact (pin' b hb o e).2
      cases bb with
      | false =>
        simp only [Bool.false_eq_true, if_false] at q9 ⊢
        exact fin I9 q9
      | true =>
        simp only [if_true] at q9 ⊢
        exact thnF (pe.run _ s9 σ8 H9 _ I9 q9) fun z s10 ⟨yv, H10, I10, r10, acc, hD10, hz10, nx⟩ => app_ok (X := X.blk s3 H3 scope cv [E0, J0]) I10 hD10 hz10 r10 fun s11 I11 => fin I11 nx
  obtain ⟨⟨o4, he4⟩, _⟩ := id st4
  exact codeAny_compStart_list loop (wpAny_pyIter_enum he4 loop)
theorem pe_lcEH {elt ce : Expr} {elts : List Expr} {kk : Nat} {tpos p1 p2 pos : Pos} {ifs : List Expr} {scope : Scope} {own : List (Str × Nat)} {ta : TA} {g : TG} {tt : TT} {te : TE} (hot : L2H.HotC X) (hN : X.N.Nodup) (hgl : Gl X "enumerate") (hm : X.mg "enumerate" = none) (ha : PA X [ce] ta) (ok : BlkOk X.N X.env.scope scope own)
    (hg : ∀ (s : Shared) (H : Hp) (C : Addr) (cl : List (Str × Addr)) (fp : List Addr), PGQ (X.blk s H scope (compEnvC scope cl C X.env) fp) (.Tuple elts kk tpos) g) (ht : ∀ (s : Shared) (H : Hp) (C : Addr) (cl : List (Str × Addr)) (fp : List Addr), PTs (X.blk s H scope (compEnvC scope cl C X.env) fp) ifs tt)
    (he : ∀ (s : Shared) (H : Hp) (C : Addr) (cl : List (Str × Addr)) (fp : List Addr), PE (X.blk s H scope (compEnvC scope cl C X.env) fp) elt te) (hs : ∀ x, foldedSetIterable (.Call (.Name "enumerate" p1) [ce] [] p2) X.env x = pure x := by intro _; rfl) (hst : starEach [ce] X.env = [(false, eval ce X.env)] := by rfl) :
    PE X (.ListComp elt [⟨.Tuple elts kk tpos, .Call (.Name "enumerate" p1) [ce] [] p2, ifs, 0⟩] scope pos) (tLc (iEnum X.K ta) g tt te (own.map (·.2))) := ⟨fun pins s σ H Q I h => by
  rw [eval_ListComp]
  refine lc_hot hot hN I hgl hm ha ok hg ht he hs hst h fun D C s' m H' I' q hn f => ⟨m, hn, fun h'' sb => ?_⟩
  obtain ⟨f0, f1, f2, f3, f4, f5⟩ := f
  exact ⟨.ref D, H', I'.turned (t' := s'.toks) (fun b o hb e => (sb.2 b hb).trans e) f0 f1 f3 f4 f5, rfl, q⟩⟩
end
/-! ### name = [.. for .. in enumerate(..)] where an exception is handled -/
section
open L2H
variable {X : Cx}
theorem ps_setLcEH {i : Nat} {y : Str} {py spos : Pos} {elt ce : Expr} {elts : List Expr} {kk : Nat} {tpos p1 p2 pos : Pos} {ifs : List Expr} {scope : Scope} {own : List (Str × Nat)} {ta : TA} {g : TG} {tt : TT} {te : TE} (hot : L2H.HotC X) (hN : X.N.Nodup) (hy : X.N[i]? = some y) (hyl : X.env.scope.names.lookup y = some .local)
    (hsw : swapsWith (.ListComp elt [⟨.Tuple elts kk tpos, .Call (.Name "enumerate" p1) [ce] [] p2, ifs, 0⟩] scope pos) (some (.Name y py)) spos.line X.env = pure true) (hgl : Gl X "enumerate") (hm : X.mg "enumerate" = none) (ha : PA X [ce] ta) (ok : BlkOk X.N X.env.scope scope own)
    (hg : ∀ (s : Shared) (H : Hp) (C : Addr) (cl : List (Str × Addr)) (fp : List Addr), PGQ (X.blk s H scope (compEnvC scope cl C X.env) fp) (.Tuple elts kk tpos) g) (ht : ∀ (s : Shared) (H : Hp) (C : Addr) (cl : List (Str × Addr)) (fp : List Addr), PTs (X.blk s H scope (compEnvC scope cl C X.env) fp) ifs tt)
    (he : ∀ (s : Shared) (H : Hp) (C : Addr) (cl : List (Str × Addr)) (fp : List Addr), PE (X.blk s H scope (compEnvC scope cl C X.env) fp) elt te) (hs : ∀ x, foldedSetIterable (.Call (.Name "enumerate" p1) [ce] [] p2) X.env x = pure x := by intro _; rfl) (hst : starEach [ce] X.env = [(false, eval ce X.env)] := by rfl) :
    PS X (.Assign [.Name y py] (.ListComp elt [⟨.Tuple elts kk tpos, .Call (.Name "enumerate" p1) [ce] [] p2, ifs, 0⟩] scope pos) spos) (tAsg (tLc (iEnum X.K ta) g tt te (own.map (·.2))) (gName i)) := by
  refine ⟨fun pins s σ H D I h => ?_⟩
  rw [exec_Assign_Name_used _ _ _ _ hsw]
  refine wpAny_bind (wpAny_standAt (wpAny_bind ?_))
  have h : tLc (iEnum X.K ta) g tt te (own.map (·.2)) σ H (fun x H1 => gName i x σ H1 D.nx) := h
  refine wpAny_bind (thn (lc_hot (Qf := fun _ s' => SP X pins D .next s') hot hN I hgl hm ha ok hg ht he hs hst h fun L C s' m H' I' q hn f => ?_) fun _ s' hq => wpAny_pure (wpAny_pure hq))
  show wpAny _ _ (assign (.Name y py) X.env (.ref L)) _ _ _
  refine wpAny_assign_Name (store_ok2 (v := V.ref L) I' hN hy (.inl hyl) rfl (fun s2 I2 ⟨a, sb, ha⟩ => ?_) (.inr hyl))
  obtain ⟨f0, f1, f2, f3, f4, f5⟩ := f
  have haC : C ≠ a := by
    rcases ha with z | z
    · rw [z]; exact f1
    · exact fun e => f4 y a z e.symm
  refine ⟨m, hn.sameBut sb haC, fun h3 sb3 => ?_⟩
  exact ⟨_, H', I2.turned (t' := s2.toks) (fun b o hb e => (sb3.2 b hb).trans e) f0 f1 f3 f4 f5, q⟩
end
/-! ### defs called with the exception that is handled -/
structure FnE (P : Program) (w : World) (K : PySem.W.Frag) (mg : Str → Option Value) (base : Heap) (k : Nat) (f : Addr) (fd : FuncData) (ps : List Str) (sp : Addr → Value → Sp) : Prop where
  ln : ∀ a cls vs H Q E, sp a cls vs H Q E → vs.length = ps.length
  go : ∀ (A : Around) (outer : List Env) (s : Shared) (H : Hp) (args : Args) (us : List Value) (vs : List V) (Q : VK) (E : XK) (a : Addr) (oe : Obj) (cls : Value), L2H.RoomH k A → L2N.Zn cls none oe → (∃ u, oe.data = .fields u) → L2H.PinOk outer H s (a, oe) → Env0 P w K mg base A outer s H → BindsTo s fd args (ps.zip us) → Vals vs us → sp a cls vs H Q E → codeAny (model P w) A (.call (.ref f) args) (CR CX0 outer P w H s Q E) s
section
variable {P : Program} {w : World} {K : PySem.W.Frag} {mg : Str → Option Value} {base : Heap}
theorem okE {x : Str} {st : Stmt} {f : Addr} {fd : FuncData} {N ps : List Str} {k : Nat} {sp : Addr → Value → Sp} (F : Fun K x x st f fd) (S : FnScope N ps (defScope st)) (ln : ∀ a cls vs H Q E, sp a cls vs H Q E → vs.length = ps.length)
    (bd : ∀ (cdv : Value) (A : Around) (outer : List Env) (s : Shared) (H : Hp) (vs : List V) (Q : VK) (E : XK) (a : Addr) (oe : Obj) (cls : Value), L2N.Zn cls none oe → (∃ u, oe.data = .fields u) → L2H.RoomH k (A.deeper (envOfC x (defScope st) s.heap.objs.size f cdv)) → sp a cls vs H Q E → ∃ t, PSs (L2H.cxH CX0 P w K mg base N x (defScope st) f cdv A outer s H E (a, oe)).nox (defBody st) t ∧ t { nx := fun _ H' => Q .non H', rt := Q } (start N vs) H) :
    FnE P w K mg base (k + 1) f fd ps sp := by
  obtain ⟨oc, od, kV, doc, pm, an, cdv, ct, osl, rfl, lk, hcd⟩ := F.ex
  refine ⟨ln, fun A outer s H args us vs Q E a oe cls hr hz hf hpin e0 hb r hsp => ?_⟩
  have up : ∀ b o, base.get? b = some o → s.heap.get? b = some o := fun b o z => (e0.bs b o z).1
  have KX : K.In s.heap := e0.mod.kin.keeps up
  have par : ∀ y ∈ ps.zip us, (defScope st).names.lookup y.1 = some .local ∨ ((defScope st).names.lookup y.1 = some .cell ∧ ((cellsFrom (s.heap.objs.size + 1) (defScope st).names []).lookup y.1).isSome = true) := fun y hy =>
    (S.par y.1 (List.of_mem_zip (show (y.1, y.2) ∈ ps.zip us from hy)).1).imp id fun q => ⟨q, PySem.W.cellsFrom_some _ _ _ (.inl q)⟩
  refine codeAny_call_function hr.depth (KX _ _ lk) rfl S.co S.gen rfl (PySem.W.codeRec_of KX hcd) (hb _ _ _ _ (wpAny_newFunctionEnv_cells S.kind par fun env he s1 z => ?_))
  subst he
  obtain ⟨t, ht, hq⟩ := bd cdv A outer s H vs Q E a oe cls hz hf (hr.deeper _) hsp
  have I := L2H.inv_startH (CX := CX0) (E := E) S hpin e0 (ln _ _ _ _ _ _ hsp) r z
  refine ⟨(e0.mod.nolimit.keeps up).keeps z.toInCall.keep, codeAny_func (wpAny_mono (ht.nox.run [] s1 (start N vs) H _ I hq) (fun fl s' hs => ?_) fun e s' hs => hs)⟩
  match fl, hs with
  | .ret u, ⟨v, σ', H', J, rv, q⟩ => exact ⟨v, H', J.os, J.bare, J.base, J.hok, rv, q⟩
  | .next, ⟨σ', H', J, q⟩ => exact ⟨.non, H', J.os, J.bare, J.base, J.hok, rfl, q⟩
  | .brk, ⟨_, _, _, q⟩ => exact q.elim
  | .cont, ⟨_, _, _, q⟩ => exact q.elim
/-- a def that may raise -/
theorem okN {x : Str} {st : Stmt} {f : Addr} {fd : FuncData} {N ps : List Str} {k : Nat} {sp : Sp} (F : Fun K x x st f fd) (S : FnScope N ps (defScope st)) (ln : ∀ vs H Q E, sp vs H Q E → vs.length = ps.length)
    (bd : ∀ (cdv : Value) (A : Around) (outer : List Env) (s : Shared) (H : Hp) (vs : List V) (Q : VK) (E : XK), Room k (A.deeper (envOfC x (defScope st) s.heap.objs.size f cdv)) → sp vs H Q E → ∃ t, PSs (cxOf (L2N.CX P w) P w K mg base N x (defScope st) f cdv A outer s H E) (defBody st) t ∧ t { nx := fun _ H' => Q .non H', rt := Q } (start N vs) H) :
    FnOk P w K mg base (L2N.CX P w) (k + 1) f fd ps sp := by
  obtain ⟨oc, od, kV, doc, pm, an, cdv, ct, osl, rfl, lk, hcd⟩ := F.ex
  exact fn_of lk hcd S ln fun A outer s H vs Q E hr hsp => bd cdv A outer s H vs Q E hr hsp
end
section
variable {X : Cx} {k : Nat} {f a : Addr} {oe : Obj} {cls : Value} {fd : FuncData} {ps : List Str} {sp : Addr → Value → Sp} {x : Str} {p pos : Pos} {e : Expr} {es : List Expr} {t : TA}
theorem pe_callE (F : FnE X.prog X.w X.K X.mg X.base k f fd ps sp) (hz : L2N.Zn cls none oe) (hf : ∃ u, oe.data = .fields u) (hp : (a, oe) ∈ X.pn) (hr : L2H.RoomH k X.A) (hg : Gl X x) (hm : X.mg x = some (.ref f)) (hk : PySem.W.keepIn X.K (.ref f) = true) (hb : Binds X.K fd ps []) (ha : PA X (e :: es) t)
    (hdb : (x == ("__debug__" : Str)) = false := by decide) (he : starEach (e :: es) X.env = (false, eval e X.env) :: starEach es X.env := by rfl) (hpl : (backTo pos (starEach es X.env)).any (·.1) = false := by rfl) : PE X (.Call (.Name x p) (e :: es) [] pos) (tCall (sp a cls) [] E0 t) := ⟨fun pins s σ H Q I h => by
  refine wpAny_Call_Name_kw (ld_glob I hg hm (PySem.W.callWith_K (h₀ := X.base) I.ok.mod.kin hk (thn (ha.run pos pins s σ H _ I h) fun us s1 ⟨vs, H1, I1, r, q⟩ => ⟨I1.kIn, ?_⟩) he hpl) hdb)
  have q : sp a cls (vs ++ []) H1 Q E0 := q
  rw [List.append_nil] at q
  have hl : (us ++ []).length = ps.length := by rw [List.append_nil, ← r.length]; exact F.ln _ _ _ _ _ _ q
  have bt := hb s1 us I1.kIn hl
  rw [List.append_nil] at bt
  have P1 := I1.pin (a, oe) (List.mem_append_left _ hp)
  refine wpAny_call (codeAny_mono (F.go X.A X.stack s1 H1 ⟨us, []⟩ us vs Q E0 a oe cls hr hz hf ⟨P1.1, P1.2.1, fun hm => (List.mem_cons.mp (I1.stkSub a hm)).elim P1.2.2.1 P1.2.2.2.1, P1.2.2.2.2⟩ I1.env0 bt r q) fun r s' z => ?_)
  match r, z with
  | .ok (.ret u), z => exact I1.after z
  | .ok .next, z => exact z.elim
  | .ok .brk, z => exact z.elim
  | .ok .cont, z => exact z.elim
  | .error e, z => exact z.elim⟩
/-- isinstance(e, c), e pinned -/
theorem call_isP {D : Addr} (hp : (a, oe) ∈ X.pn) (C : ExcC X.K D) (hz : L2N.Zn (.ref D) none oe) (hf : ∃ u, oe.data = .fields u) : CallR X (.builtin "isinstance") (rIsE X.K D a) := by
  intro pins s σ H xs us Q I r h
  obtain ⟨c, cv, b, rfl, hcv, e, q⟩ := h
  match us, r with
  | [_, _], .cons rx (.cons rt .nil) =>
    cases rx
    have ec := hcv _ rt
    subst ec
    obtain ⟨hget, _⟩ := I.pin (a, oe) (List.mem_append_left _ hp)
    obtain ⟨vs, hv⟩ := hf
    have J : PySem.W.InstAt s.heap a oe D none := by
      obtain ⟨oc, od, oda, osl⟩ := oe
      obtain ⟨h1, h2, _⟩ := hz
      dsimp only at h1 h2 hv
      subst h1 h2 hv
      exact ⟨hget, rfl, rfl, trivial⟩
    exact PySem.W.kia_one (PySem.W.handS_kitx_exc C.hg C.hk C.hs C.hd C.ha C.hn C.ht C.hm) I.kIn J e (fun z => nomatch z) fun tk => ⟨.bl b, H, I.kept (t' := tk) fun _ _ z => z, rfl, q⟩
end
theorem ev_isE {K : PySem.W.Frag} {D a : Addr} {σ : L2.St} {H : Hp} {ta tb : TE} {c : V} {cv : Value} {b : Bool} (ha : Ev ta σ H (.ref a)) (hb : Ev tb σ H c) (hc : ∀ u, RelV c u → u = cv) (hk : PySem.W.kitOne K (.ref D) cv = some b) : Ev (tCB (rIsE K D a) (tCons ta (tCons tb tNil))) σ H (.bl b) := fun H1 e Q q =>
  ha H1 e _ fun H2 e2 => hb H2 (e.trans e2) _ fun H3 e3 => ⟨c, cv, b, rfl, hc, hk, q H3 (e2.trans e3)⟩
/-! ### a lambda handed to a def that calls it; what it raises has no context -/
section
open LamX
/-- the context of the lambda's body -/
def lamCxN (X : Cx) (A : Around) (outer : List Env) (s : Shared) (H : Hp) (E : XK) (scope : Scope) (f c' : Addr) : Cx :=
  (lamCx X A outer s H E scope f c').wish fun e s' => wpAny (model X.prog X.w) (A.deeper (lamEnv X scope s.heap.objs.size f c')) (leaving (lamEnv X scope s.heap.objs.size f c') e) (fun _ s'' => L2N.CX X.prog X.w outer H s E e s'') (fun e' s'' => L2N.CX X.prog X.w outer H s E e' s'') s'
variable {X : Cx} {pins : List (Addr × Obj)} {σ : L2.St} {H : Hp} {s : Shared}
theorem pe_actN {Ng : List Str} {qg : Str} {sg : Scope} {g f c' : Addr} {cdg pm ctv : Value} {params : Arguments} {body : Expr} {scope : Scope} {k i : Nat} {a : Str} {pn : List (Addr × Obj)} {xe : Value → Shared → Prop} {W : WX} {E : XK} {tb : TE} {p1 p2 : Pos}
    (I : Inv X pins σ H s) (L : LamS X.env.scope scope) (hf : s.heap.get? f = some (PySem.W.kla_obj "<lambda>" (X.env.qual ++ "<lambda>") params body scope (cloFrom X.env.cells scope.names []) pm c' ctv)) (hfn : H f = none) (hfr : f ∉ frs X.stack)
    (bind0 : bindArgs (PySem.W.kla_fn "<lambda>" (X.env.qual ++ "<lambda>") params body scope (cloFrom X.env.cells scope.names []) pm (.ref c') ctv) ⟨[], []⟩ = pure [])
    (tk : L2N.Takes ((cxOf CX0 X.prog X.w X.K X.mg X.base Ng qg sg g cdg X.A X.stack s H E0).tr pn xe) W) (hW : ∀ cls d σ' H', E cls d H' → W cls d σ' H') (hr : Room (k + 1) (X.A.deeper (envOfC qg sg s.heap.objs.size g cdg)))
    (bodyOk : ∀ (A : Around) (outer : List Env) (s : Shared) (H : Hp), Room k (A.deeper (lamEnv X scope s.heap.objs.size f c')) → PE (lamCxN X A outer s H E scope f c') body tb)
    (hN : Ng[i]? = some a) (hv : Vis sg a) (hd : (a == ("__debug__" : Str)) = false := by decide) (hcd : (a == ("__classdict__" : Str)) = false := by decide) :
    PE ((cxOf CX0 X.prog X.w X.K X.mg X.base Ng qg sg g cdg X.A X.stack s H E0).tr pn xe) (.Call (.Name a p1) [] [] p2) (fun σZ HZ Q => σZ[i]? = some (some (.ref f)) ∧ HZ c' = some (CodeO c' (X.env.qual ++ "<lambda>")) ∧ tb σ HZ Q) := ⟨fun pinsZ sZ σZ HZ Q IZ h => by
  obtain ⟨hs, hc, ht⟩ := h
  refine wpAny_Call_Name_kw (thn ((pe_var (pos := p1) (i := i) hN hv hd hcd).run pinsZ sZ σZ HZ (fun v H1 => v = .ref f ∧ H1 = HZ) IZ ⟨.ref f, hs, rfl, rfl⟩) fun u s1 ⟨v, H1, I1, r1, q1, q2⟩ => ?_)
  subst q1
  rw [q2] at I1
  obtain rfl : u = Value.ref f := r1
  have of1 := I1.base.keep f _ hf hfn hfr (fun z => nomatch (show f ∈ ([] : List Addr) from z))
  have un : Un (frs X.stack) [] H HZ s.heap s1.heap := I1.base
  obtain ⟨⟨oc, vs, t, hoc, hdc, hvc⟩, _, _⟩ := I1.hok c' _ hc
  have rc : codeAny (model X.prog X.w) (X.A.deeper (envOfC qg sg s.heap.objs.size g cdg)) (.call (.ref f) ⟨[], []⟩) (CR (L2N.CX X.prog X.w) (envOfC qg sg s.heap.objs.size g cdg :: X.stack) X.prog X.w HZ s1 Q E) s1 := by
    refine PySem.W.kla_callFunE hr.depth of1 rfl L.co L.gen rfl ⟨c', oc, vs, t, rfl, hoc, hdc, hvc⟩ ?_
    rw [bind0]
    refine wpAny_pure (wpAny_newFunctionEnv (fun y hy => (L.own y hy).2) (fun y hy => absurd hy (by simp)) (fun h₁ hns hsb => ⟨I1.nolimit.fresh _ hsb, ?_⟩) L.kind)
    show codeAny _ _ (.expr body (lamEnv X scope s1.heap.objs.size f c')) _ _
    have J := (lam_start2 (E := E) (f := f) (c' := c') (tk := s1.toks + ([] : List (Str × Value)).length) I L I1.env0 hr.hd un hns fun b o e => hsb.extBut b o (Nat.ne_of_lt (Heap.lt_size e)) (Heap.get?_push_of_some _ e)).wish (lamCxN X (X.A.deeper (envOfC qg sg s.heap.objs.size g cdg)) (envOfC qg sg s.heap.objs.size g cdg :: X.stack) s1 HZ E scope f c').xe
    exact PySem.W.kla_codeExpr (wpAny_mono ((bodyOk _ _ s1 HZ (hr.deeper _)).run [] _ _ HZ Q J ht) (fun v s' ⟨w', H', J', rv, q⟩ => ⟨w', H', J'.os, J'.bare, J'.base, J'.hok, rv, q⟩) fun e s' hq => hq)
  refine PySem.W.callWith_F0 ⟨_, _, _, _, of1⟩ (wpAny_call (codeAny_mono rc fun r s' hq => ?_))
  match r, hq with
  | .error e, hq => exact L2N.passes_call tk hW pinsZ σZ HZ s1 e s' I1 hq
  | .ok (.ret u), hq => exact I1.after hq
  | .ok .next, hq => exact hq.elim
  | .ok .brk, hq => exact hq.elim
  | .ok .cont, hq => exact hq.elim⟩
/-- the def that calls what it got; TT: what it makes of the lambda's reading -/
def GivesN (X : Cx) (Ng : List Str) (x : Str) (sg : Scope) (g : Addr) (cdg : Value) (bg : List Stmt) (a : Str) (q : Str) (TT : (XK → Hp → VK → Prop) → Hp → VK → Prop) : Prop :=
  ∀ (f c' : Addr) (s : Shared) (H : Hp) (Q : VK) (tl : XK → Hp → VK → Prop),
    (∀ (W : WX) (pn : List (Addr × Obj)) (xe : Value → Shared → Prop) (E : XK) (p1 p2 : Pos), L2N.Takes ((cxOf CX0 X.prog X.w X.K X.mg X.base Ng x sg g cdg X.A X.stack s H E0).tr pn xe) W → (∀ cls d σ' H', E cls d H' → W cls d σ' H') →
      PE ((cxOf CX0 X.prog X.w X.K X.mg X.base Ng x sg g cdg X.A X.stack s H E0).tr pn xe) (.Call (.Name a p1) [] [] p2) (fun σZ HZ Q => σZ[0]? = some (some (.ref f)) ∧ HZ c' = some (CodeO c' q) ∧ tl E HZ Q)) →
    H c' = some (CodeO c' q) → TT tl H Q → ∃ t, PSs (cxOf CX0 X.prog X.w X.K X.mg X.base Ng x sg g cdg X.A X.stack s H E0).nox bg t ∧ t { nx := fun _ H' => Q .non H', rt := Q } (L2.start Ng [.ref f]) H
/-- x(lambda: body) -/
theorem pe_lamN {T : List (Addr × Str)} {TT : (XK → Hp → VK → Prop) → Hp → VK → Prop} {x a : Str} {st : Stmt} {g c P : Addr} {fd : FuncData} {k : Nat} {Ng : List Str} {params : Arguments} {body : Expr} {scope : Scope} {t : XK → TE} {p lpos pos : Pos}
    (D : Fun X.K x x st g fd) (hg : Gl X x) (hm : X.mg x = some (.ref g)) (hb : L2.Binds X.K fd [a] []) (Sg : FnScope Ng [a] (defScope st)) (hNg : Ng[0]? = some a) (hva : Vis (defScope st) a) (hG : ∀ cdv, GivesN X Ng x (defScope st) g cdv (defBody st) a (X.env.qual ++ "<lambda>") TT)
    (TB : TabB X.base X.mg c P) (hcode : X.env.code = .ref c) (hmT : (P, X.env.qual ++ "<lambda>") ∈ T) (hu : ∀ p ∈ T, p.1 = P → p.2 = X.env.qual ++ "<lambda>") (hr : Room (k + 2) X.A) (L : LamS X.env.scope scope) (hdef : defaultsOf params X.env = ([], []))
    (bind0 : ∀ (q : Str) (cl : List (Str × Addr)) (pm cv ctv : Value), bindArgs (PySem.W.kla_fn "<lambda>" q params body scope cl pm cv ctv) ⟨[], []⟩ = pure [])
    (bodyOk : ∀ (A : Around) (outer : List Env) (s : Shared) (H : Hp) (E : XK) (f c' : Addr), Room k (A.deeper (lamEnv X scope s.heap.objs.size f c')) → PE (lamCxN X A outer s H E scope f c') body (t E))
    (hdb : (x == ("__debug__" : Str)) = false := by decide) (hd : (a == ("__debug__" : Str)) = false := by decide) (hcd : (a == ("__classdict__" : Str)) = false := by decide) : PE X (.Call (.Name x p) [.Lambda params body scope lpos] [] pos) (tLam T TT t) := ⟨fun pins s σ H Q I h => by
  obtain ⟨hT, h⟩ := h
  obtain ⟨oc, od, kV, doc, pm, an, cdv, ct, osl, efd, lk, hcg⟩ := D.ex
  refine wpAny_Call_Name_kw (ld_glob I hg hm (PySem.W.callWith_K (h₀ := X.base) I.ok.mod.kin D.kp ?_ (by rfl) (by rfl)) hdb)
  show wpAny _ _ (spliced ((false, eval (.Lambda params body scope lpos) X.env) :: backTo pos (starEach [] X.env))) _ _ s
  refine Calls.spliced_cons (lam_make2 I TB hcode hmT hu hT hdef (L.has I.ok) fun f c' pm' ctv H1 s' I1 eN T1 hf hfn hfr hco => Calls.spliced_nil ⟨I1.kIn, ?_⟩)
  have rc : codeAny (model X.prog X.w) X.A (.call (.ref g) ⟨[.ref f], []⟩) (CR CX0 X.stack X.prog X.w H1 s' Q E0) s' := by
    subst efd
    refine run_ofS (N := Ng) (ps := [a]) (us := [.ref f]) (vs := [.ref f]) lk hcg Sg hr I1.env0 (hb s' [.ref f] I1.kIn rfl) (.cons rfl .nil) rfl fun hr' => ?_
    obtain ⟨t', ht', hq'⟩ := hG cdv f c' s' H1 Q (fun E H' Q' => t E σ H' Q') (fun W pn xe E p1 p2 tk hW => pe_actN (i := 0) I1 L hf hfn hfr (bind0 _ _ _ _ _) tk hW hr' (fun A outer s H hr2 => bodyOk A outer s H E f c' hr2) hNg hva hd hcd) hco (h H1 eN T1)
    exact ⟨t', ht'.nox, hq'⟩
  refine wpAny_call (codeAny_mono rc fun r s2 hq => ?_)
  match r, hq with
  | .error e, hq => exact (show False from hq).elim
  | .ok (.ret u), hq => exact I1.after hq
  | .ok .next, hq => exact hq.elim
  | .ok .brk, hq => exact hq.elim
  | .ok .cont, hq => exact hq.elim⟩
theorem takes0N {X : Cx} : L2N.Takes X (fun _ _ _ _ => False) := fun _ _ x => by
  obtain ⟨_, _, _, _, _, _, _, _, _, _, _, _, _, _, _, _, z⟩ := x
  exact z.elim
end
/-! ### the classes of a refusal -/
/-- what isinstance answers of D's instances at the classes Cs: the n-th alone -/
def OnlyAt (K : PySem.W.Frag) (D : Addr) (Cs : List Addr) (n : Nat) : Prop := ∀ i C, Cs[i]? = some C → PySem.W.kitOne K (.ref D) (.ref C) = some (decide (i = n))
def placeD (n : Nat) : List PyData := (List.range 15).map fun i => .bool (decide (i = n))
def spClasses (K : PySem.W.Frag) (Cs : List Addr) : Addr → Value → Sp := fun a cls vs H Q _ => vs = [.ref a] ∧ ∃ (D : Addr) (n : Nat), cls = .ref D ∧ ExcC K D ∧ OnlyAt K D Cs n ∧ ∀ p xs H2, H p = none → Ex H H2 → H2 p = some (.lst xs) → DtAll K H2 xs (placeD n) → Q (.ref p) H2
structure Cls15 (mg : Str → Option Value) (Cs : List Addr) : Prop where
  g : ∃ c_NoCurve c_NoLot c_NoPane c_NoFace c_NoCell c_NoCorner c_NoNumber c_NoCounts c_NoCover c_NoTurn c_NoCut c_NoOrder c_TooMany c_NoText c_NoLine : Addr, Cs = [c_NoCurve, c_NoLot, c_NoPane, c_NoFace, c_NoCell, c_NoCorner, c_NoNumber, c_NoCounts, c_NoCover, c_NoTurn, c_NoCut, c_NoOrder, c_TooMany, c_NoText, c_NoLine] ∧ mg "NoCurve" = some (.ref c_NoCurve) ∧ mg "NoLot" = some (.ref c_NoLot) ∧ mg "NoPane" = some (.ref c_NoPane) ∧ mg "NoFace" = some (.ref c_NoFace) ∧ mg "NoCell" = some (.ref c_NoCell) ∧ mg "NoCorner" = some (.ref c_NoCorner) ∧ mg "NoNumber" = some (.ref c_NoNumber) ∧ mg "NoCounts" = some (.ref c_NoCounts) ∧ mg "NoCover" = some (.ref c_NoCover) ∧ mg "NoTurn" = some (.ref c_NoTurn) ∧ mg "NoCut" = some (.ref c_NoCut) ∧ mg "NoOrder" = some (.ref c_NoOrder) ∧ mg "TooMany" = some (.ref c_TooMany) ∧ mg "NoText" = some (.ref c_NoText) ∧ mg "NoLine" = some (.ref c_NoLine)
section
variable {P : Program} {w : World} {K : PySem.W.Frag} {mg : Str → Option Value} {base : Heap}
theorem okk_classes {f : Addr} {fd : FuncData} {k : Nat} {Cs : List Addr} (D0 : Df K mg "_law_classes" s__law_classes ["_law_e"] f fd) (B : Bt mg) (C : Cls15 mg Cs) : FnE P w K mg base (k + 1) f fd ["_law_e"] (spClasses K Cs) := by
  obtain ⟨c_NoCurve, c_NoLot, c_NoPane, c_NoFace, c_NoCell, c_NoCorner, c_NoNumber, c_NoCounts, c_NoCover, c_NoTurn, c_NoCut, c_NoOrder, c_TooMany, c_NoText, c_NoLine, rfl, g_NoCurve, g_NoLot, g_NoPane, g_NoFace, g_NoCell, g_NoCorner, g_NoNumber, g_NoCounts, g_NoCover, g_NoTurn, g_NoCut, g_NoOrder, g_TooMany, g_NoText, g_NoLine⟩ := C.g
  refine okE D0.F sc__law_classes (fun a cls vs H Q E h => ?_) (fun cdv A outer s H vs Q E a oe cls hz hf hr h => ?_)
  · rw [h.1]
    rfl
  · obtain ⟨rfl, D, n, rfl, XC, hk, q⟩ := h
    refine ⟨_, (pss_cons (ps_set (i := 1) sc__law_classes.nd rfl (.inl rfl) (pe_lst (pa_cons (pe_callB (show CallR _ _ (rIsE K D a) from call_isP List.mem_cons_self XC hz hf) (by rfl) B.isinstance_ (by decide +kernel) (pa_cons (pv 0) (pa_cons (pe_glob (v := .ref c_NoCurve) rfl g_NoCurve rfl) pa_nil))) (pa_cons (pe_callB (show CallR _ _ (rIsE K D a) from call_isP List.mem_cons_self XC hz hf) (by rfl) B.isinstance_ (by decide +kernel) (pa_cons (pv 0) (pa_cons (pe_glob (v := .ref c_NoLot) rfl g_NoLot rfl) pa_nil))) (pa_cons (pe_callB (show CallR _ _ (rIsE K D a) from call_isP List.mem_cons_self XC hz hf) (by rfl) B.isinstance_ (by decide +kernel) (pa_cons (pv 0) (pa_cons (pe_glob (v := .ref c_NoPane) rfl g_NoPane rfl) pa_nil))) (pa_cons (pe_callB (show CallR _ _ (rIsE K D a) from call_isP List.mem_cons_self XC hz hf) (by rfl) B.isinstance_ (by decide +kernel) (pa_cons (pv 0) (pa_cons (pe_glob (v := .ref c_NoFace) rfl g_NoFace rfl) pa_nil))) pa_nil))))))  (pss_cons (ps_set (i := 1) sc__law_classes.nd rfl (.inl rfl) (pe_op op_cat (pv 1) (pe_lst (pa_cons (pe_callB (show CallR _ _ (rIsE K D a) from call_isP List.mem_cons_self XC hz hf) (by rfl) B.isinstance_ (by decide +kernel) (pa_cons (pv 0) (pa_cons (pe_glob (v := .ref c_NoCell) rfl g_NoCell rfl) pa_nil))) (pa_cons (pe_callB (show CallR _ _ (rIsE K D a) from call_isP List.mem_cons_self XC hz hf) (by rfl) B.isinstance_ (by decide +kernel) (pa_cons (pv 0) (pa_cons (pe_glob (v := .ref c_NoCorner) rfl g_NoCorner rfl) pa_nil))) (pa_cons (pe_callB (show CallR _ _ (rIsE K D a) from call_isP List.mem_cons_self XC hz hf) (by rfl) B.isinstance_ (by decide +kernel) (pa_cons (pv 0) (pa_cons (pe_glob (v := .ref c_NoNumber) rfl g_NoNumber rfl) pa_nil))) (pa_cons (pe_callB (show CallR _ _ (rIsE K D a) from call_isP List.mem_cons_self XC hz hf) (by rfl) B.isinstance_ (by decide +kernel) (pa_cons (pv 0) (pa_cons (pe_glob (v := .ref c_NoCounts) rfl g_NoCounts rfl) pa_nil))) pa_nil)))))))  (pss_cons (ps_set (i := 1) sc__law_classes.nd rfl (.inl rfl) (pe_op op_cat (pv 1) (pe_lst (pa_cons (pe_callB (show CallR _ _ (rIsE K D a) from call_isP List.mem_cons_self XC hz hf) (by rfl) B.isinstance_ (by decide +kernel) (pa_cons (pv 0) (pa_cons (pe_glob (v := .ref c_NoCover) rfl g_NoCover rfl) pa_nil))) (pa_cons (pe_callB (show CallR _ _ (rIsE K D a) from call_isP List.mem_cons_self XC hz hf) (by rfl) B.isinstance_ (by decide +kernel) (pa_cons (pv 0) (pa_cons (pe_glob (v := .ref c_NoTurn) rfl g_NoTurn rfl) pa_nil))) (pa_cons (pe_callB (show CallR _ _ (rIsE K D a) from call_isP List.mem_cons_self XC hz hf) (by rfl) B.isinstance_ (by decide +kernel) (pa_cons (pv 0) (pa_cons (pe_glob (v := .ref c_NoCut) rfl g_NoCut rfl) pa_nil))) (pa_cons (pe_callB (show CallR _ _ (rIsE K D a) from call_isP List.mem_cons_self XC hz hf) (by rfl) B.isinstance_ (by decide +kernel) (pa_cons (pv 0) (pa_cons (pe_glob (v := .ref c_NoOrder) rfl g_NoOrder rfl) pa_nil))) pa_nil)))))))  (pss_one (ps_ret (pe_op op_cat (pv 1) (pe_lst (pa_cons (pe_callB (show CallR _ _ (rIsE K D a) from call_isP List.mem_cons_self XC hz hf) (by rfl) B.isinstance_ (by decide +kernel) (pa_cons (pv 0) (pa_cons (pe_glob (v := .ref c_TooMany) rfl g_TooMany rfl) pa_nil))) (pa_cons (pe_callB (show CallR _ _ (rIsE K D a) from call_isP List.mem_cons_self XC hz hf) (by rfl) B.isinstance_ (by decide +kernel) (pa_cons (pv 0) (pa_cons (pe_glob (v := .ref c_NoText) rfl g_NoText rfl) pa_nil))) (pa_cons (pe_callB (show CallR _ _ (rIsE K D a) from call_isP List.mem_cons_self XC hz hf) (by rfl) B.isinstance_ (by decide +kernel) (pa_cons (pv 0) (pa_cons (pe_glob (v := .ref c_NoLine) rfl g_NoLine rfl) pa_nil))) pa_nil)))))))))), ?_⟩
    have hu : ∀ {c : Addr} (u : Value), RelV (.ref c) u → u = .ref c := fun u r => r
    refine q_asgF (K := K) (ef_lst (eb_cons (ed_bl (ev_isE (ev_var rfl) ev_c hu (hk 0 _ rfl))) (eb_cons (ed_bl (ev_isE (ev_var rfl) ev_c hu (hk 1 _ rfl))) (eb_cons (ed_bl (ev_isE (ev_var rfl) ev_c hu (hk 2 _ rfl))) (eb_cons (ed_bl (ev_isE (ev_var rfl) ev_c hu (hk 3 _ rfl))) eb_nil)))) (by show 4 ≤ 100000; decide)) fun p1 xs1 H1 n1 e1 h1 x1 => ?_
    refine q_asgF (K := K) (ef_catLF (ev_var rfl) h1 x1 (ef_lst (eb_cons (ed_bl (ev_isE (ev_var rfl) ev_c hu (hk 4 _ rfl))) (eb_cons (ed_bl (ev_isE (ev_var rfl) ev_c hu (hk 5 _ rfl))) (eb_cons (ed_bl (ev_isE (ev_var rfl) ev_c hu (hk 6 _ rfl))) (eb_cons (ed_bl (ev_isE (ev_var rfl) ev_c hu (hk 7 _ rfl))) eb_nil)))) (by show 4 ≤ 100000; decide)) (by show 8 ≤ 100000; decide)) fun p2 xs2 H2 n2 e2 h2 x2 => ?_
    refine q_asgF (K := K) (ef_catLF (ev_var rfl) h2 x2 (ef_lst (eb_cons (ed_bl (ev_isE (ev_var rfl) ev_c hu (hk 8 _ rfl))) (eb_cons (ed_bl (ev_isE (ev_var rfl) ev_c hu (hk 9 _ rfl))) (eb_cons (ed_bl (ev_isE (ev_var rfl) ev_c hu (hk 10 _ rfl))) (eb_cons (ed_bl (ev_isE (ev_var rfl) ev_c hu (hk 11 _ rfl))) eb_nil)))) (by show 4 ≤ 100000; decide)) (by show 12 ≤ 100000; decide)) fun p3 xs3 H3 n3 e3 h3 x3 => ?_
    refine s_retF (K := K) (ef_catLF (ev_var rfl) h3 x3 (ef_lst (eb_cons (ed_bl (ev_isE (ev_var rfl) ev_c hu (hk 12 _ rfl))) (eb_cons (ed_bl (ev_isE (ev_var rfl) ev_c hu (hk 13 _ rfl))) (eb_cons (ed_bl (ev_isE (ev_var rfl) ev_c hu (hk 14 _ rfl))) eb_nil))) (by show 3 ≤ 100000; decide)) (by show 15 ≤ 100000; decide)) fun p4 xs4 H4 n4 e4 h4 x4 => ?_
    have ee := (e1.trans e2).trans e3
    exact q p4 xs4 H4 (fresh_back ee n4) (ee.trans e4) h4 x4
/-- [place for place, own in enumerate(l) if own] -/
theorem ef_places {ta : TA} {y0 y1 y2 y3 : Option V} {H : Hp} {bs : List Bool} (h : ∀ H1, Ex H H1 → ∀ Q : List V → Hp → Prop, (∀ p xs H2, Ex H1 H2 → H2 p = some (.lst xs) → DtAll K H2 xs (bs.map PyData.bool) → Q [.ref p] H2) → ta [y0, y1, y2, y3] H1 Q) (hz : bs.length < 1000) :
    EvF K (tLc (iEnum K ta) (gTup K 2 (gCons (gName 2) (gCons (gName 3) gNil))) (tB (tVar 3)) (tVar 2) [2, 3]) [y0, y1, y2, y3] H (((List.range bs.length).filter fun i => bs.getD i false).map fun (i : Nat) => .int (i : Int)) := fun H0 e Q q => h H0 e _ fun p xs H1 e1 hp hx => ⟨p, xs, rfl, sq_of hp, fun Dl hD => by
  have hl : xs.length = bs.length := by rw [dta_len hx, List.length_map]
  refine lc_it (walk_enum (K := K) (a := p) (xs := xs)) (fun i H' => Cd K H1 Dl ((((List.range bs.length).take i).filter fun i => bs.getD i false).map fun (i : Nat) => .int (i : Int)) H') ⟨hD, Ex.new hD, [], upd_same, .nil⟩ (fun i H' _ p' => sq_of (p'.2.1 p _ hp)) (fun i v H' H2 hi pc hY => ?_) (fun H' p' => ?_)
  · obtain ⟨T, x, y, rfl, hT, rfl, ex, ey⟩ := hY
    cases ex
    have hib : i < bs.length := by omega
    obtain ⟨d, hd1, hd2⟩ := dta_get (dta_ex pc.2.1 hx) ey
    rw [List.getElem?_map, List.getElem?_eq_getElem hib] at hd1
    cases hd1
    have hy : y = .bl bs[i] := by
      cases hd2
      rfl
    subst hy
    have hgd : bs.getD i false = bs[i] := by
      rw [List.getD_eq_getElem?_getD, List.getElem?_eq_getElem hib]
      rfl
    have eT : Ex H' (upd H' T (.tup [.int (i : Nat), .bl bs[i]])) := Ex.new hT
    have pc2 : Cd K H1 Dl ((((List.range bs.length).take i).filter fun i => bs.getD i false).map fun (i : Nat) => .int (i : Int)) (upd H' T (.tup [.int (i : Nat), .bl bs[i]])) := by
      obtain ⟨c1, c2, acc, c3, c4⟩ := pc
      exact ⟨c1, c2.trans eT, acc, eT Dl _ c3, dta_ex eT c4⟩
    refine ⟨T, _, rfl, st_of upd_same, rfl, _, _, rfl, _, _, rfl, rfl, rfl, ?_⟩
    refine cd_step (f := fun i => bs.getD i false) (g := fun (i : Nat) => PyData.int (i : Int)) (l := List.range bs.length) pc2 (by rw [List.length_range]; omega) (List.getElem?_range hib) ?_ (fun _ => ed_int (ev_var rfl))
    exact et_is (et_B (b := bs[i]) (ev_var rfl)) hgd.symm
  · obtain ⟨p1, p2, acc, p3, p4⟩ := p'
    have e5 : (List.range bs.length).take xs.length = List.range bs.length := List.take_of_length_le (by rw [List.length_range, hl]; exact Nat.le_refl _)
    rw [e5] at p4
    exact q Dl acc H' (fresh_back e1 p1) (e1.trans p2) p3 p4⟩
theorem places_one : ((List.range 15).all fun n => decide (((List.range 15).filter fun i => (((List.range 15).map fun i => decide (i = n)).getD i false)) = [n])) = true := by decide +kernel
/-- the def that tells the places: of what a lambda raises, of what it doesn't -/
def Eref (K : PySem.W.Frag) (CE : Addr) (Cs : List Addr) (Q : VK) : XK := fun cls d H' => ∃ (D : Addr) (n : Nat), d = none ∧ cls = .ref D ∧ ExcC K D ∧ PySem.W.exmOne K (.ref D) (.ref CE) = some true ∧ PySem.W.kitOne K (.ref D) (.type "ValueError") = some true ∧ OnlyAt K D Cs n ∧ n < 15 ∧ ∀ p H2, H' p = none → Ex H' H2 → H2 p = some (.lst [.int (n : Int)]) → Q (.ref p) H2
def TTref (K : PySem.W.Frag) (CE : Addr) (Cs : List Addr) : (XK → Hp → VK → Prop) → Hp → VK → Prop := fun tl H Q =>
  tl (Eref K CE Cs Q) H (fun _ H' => ([] : List V).length ≤ sizeLine ∧ ∀ p, H' p = none → Q (.ref p) (upd H' p (.lst [])))
end
section
variable {P : Program} {w : World} {K : PySem.W.Frag} {mg : Str → Option Value} {base : Heap}
/-- [place for place, own in enumerate(l) if own] -/
theorem ef_places5 {ta : TA} {y0 y1 y2 y3 y4 : Option V} {H : Hp} {bs : List Bool} (h : ∀ H1, Ex H H1 → ∀ Q : List V → Hp → Prop, (∀ p xs H2, Ex H1 H2 → H2 p = some (.lst xs) → DtAll K H2 xs (bs.map PyData.bool) → Q [.ref p] H2) → ta [y0, y1, y2, y3, y4] H1 Q) (hz : bs.length < 1000) :
    EvF K (tLc (iEnum K ta) (gTup K 2 (gCons (gName 3) (gCons (gName 4) gNil))) (tB (tVar 4)) (tVar 3) [3, 4]) [y0, y1, y2, y3, y4] H (((List.range bs.length).filter fun i => bs.getD i false).map fun (i : Nat) => .int (i : Int)) := fun H0 e Q q => h H0 e _ fun p xs H1 e1 hp hx => ⟨p, xs, rfl, sq_of hp, fun Dl hD => by
  have hl : xs.length = bs.length := by rw [dta_len hx, List.length_map]
  refine lc_it (walk_enum (K := K) (a := p) (xs := xs)) (fun i H' => Cd K H1 Dl ((((List.range bs.length).take i).filter fun i => bs.getD i false).map fun (i : Nat) => .int (i : Int)) H') ⟨hD, Ex.new hD, [], upd_same, .nil⟩ (fun i H' _ p' => sq_of (p'.2.1 p _ hp)) (fun i v H' H2 hi pc hY => ?_) (fun H' p' => ?_)
  · obtain ⟨T, x, y, rfl, hT, rfl, ex, ey⟩ := hY
    cases ex
    have hib : i < bs.length := by omega
    obtain ⟨d, hd1, hd2⟩ := dta_get (dta_ex pc.2.1 hx) ey
    rw [List.getElem?_map, List.getElem?_eq_getElem hib] at hd1
    cases hd1
    have hy : y = .bl bs[i] := by
      cases hd2
      rfl
    subst hy
    have hgd : bs.getD i false = bs[i] := by
      rw [List.getD_eq_getElem?_getD, List.getElem?_eq_getElem hib]
      rfl
    have eT : Ex H' (upd H' T (.tup [.int (i : Nat), .bl bs[i]])) := Ex.new hT
    have pc2 : Cd K H1 Dl ((((List.range bs.length).take i).filter fun i => bs.getD i false).map fun (i : Nat) => .int (i : Int)) (upd H' T (.tup [.int (i : Nat), .bl bs[i]])) := by
      obtain ⟨c1, c2, acc, c3, c4⟩ := pc
      exact ⟨c1, c2.trans eT, acc, eT Dl _ c3, dta_ex eT c4⟩
    refine ⟨T, _, rfl, st_of upd_same, rfl, _, _, rfl, _, _, rfl, rfl, rfl, ?_⟩
    refine cd_step (f := fun i => bs.getD i false) (g := fun (i : Nat) => PyData.int (i : Int)) (l := List.range bs.length) pc2 (by rw [List.length_range]; omega) (List.getElem?_range hib) ?_ (fun _ => ed_int (ev_var rfl))
    exact et_is (et_B (b := bs[i]) (ev_var rfl)) hgd.symm
  · obtain ⟨p1, p2, acc, p3, p4⟩ := p'
    have e5 : (List.range bs.length).take xs.length = List.range bs.length := List.take_of_length_le (by rw [List.length_range, hl]; exact Nat.le_refl _)
    rw [e5] at p4
    exact q Dl acc H' (fresh_back e1 p1) (e1.trans p2) p3 p4⟩
/-- the def that tells what a lambda gives, or the place of what it raises -/
def TTtold (K : PySem.W.Frag) (CE : Addr) (Cs : List Addr) : (XK → Hp → VK → Prop) → Hp → VK → Prop := fun tl H Q => tl (Eref K CE Cs Q) H Q
theorem told_gives {X : Cx} {g fc CE : Addr} {fdc : FuncData} {cdg : Value} {q : Str} {Cs : List Addr} (B : Bt X.mg) (D__law_classes : Df X.K X.mg "_law_classes" s__law_classes ["_law_e"] fc fdc) (C : Cls15 X.mg Cs) (hCE : X.mg "CurveError" = some (.ref CE)) (hr : ∀ env, L2H.RoomH 1 (X.A.deeper env)) :
    GivesN X N__law_told "_law_told" (defScope s__law_told) g cdg (defBody s__law_told) "_law_call" q (TTtold X.K CE Cs) := by
  intro f c' s H Q tl act hc h
  have G__law_classes : FnE X.prog X.w X.K X.mg X.base 1 fc fdc ["_law_e"] (spClasses X.K Cs) := okk_classes (k := 0) D__law_classes B C
  refine ⟨_, pss_one (L2N.ps_try_as (i := 1) (c := .ref CE) (Wout := fun _ _ _ _ => False) (tb := fun W D σ H => ∃ Ech : XK, (∀ cls d σ' H', Ech cls d H' → W cls d σ' H') ∧ σ[0]? = some (some (.ref f)) ∧ H c' = some (LamX.CodeO c' q) ∧ tl Ech H (fun v H' => D.rt v H'))
      (ts := fun a cls d D' σ H => (∃ σ0 : L2.St, σ = σ0.set 1 (some (.ref a))) ∧ ∃ (D : Addr) (n : Nat), d = none ∧ cls = .ref D ∧ ExcC X.K D ∧ PySem.W.kitOne X.K (.ref D) (.type "ValueError") = some true ∧ OnlyAt X.K D Cs n ∧ n < 15 ∧ ∀ p H2, H p = none → Ex H H2 → H2 p = some (.lst [.int (n : Int)]) → D'.rt (.ref p) H2)
      rfl rfl sc__law_told.nd rfl rfl ⟨rfl, by decide, .inl hCE⟩ takes0N (fun W pn xe tk _ => ?_) (fun a oe cls d pn hz hf => ?_)), ?_⟩
  · refine ⟨fun pins s' σ H' D I h' => ?_⟩
    obtain ⟨Ech, hW, h1, h2, h3⟩ := h'
    exact (pss_one (ps_ret (act W pn xe Ech _ _ tk hW))).run pins s' σ H' D I ⟨h1, h2, h3⟩
  · refine ⟨fun pins s' σ H' D' I h' => ?_⟩
    obtain ⟨⟨σ0, rfl⟩, D, n, rfl, rfl, XC, hv, hk, n15, k⟩ := h'
    obtain ⟨y0, y1, y2, y3, y4, rfl⟩ : ∃ y0 y1 y2 y3 y4, σ0 = [y0, y1, y2, y3, y4] := by
      have l : (σ0.set 1 (some (V.ref a))).length = 5 := I.len
      rw [List.length_set] at l
      match σ0, l with
      | [y0, y1, y2, y3, y4], _ => exact ⟨y0, y1, y2, y3, y4, rfl⟩
    have hot : L2H.HotC ((cxOf CX0 X.prog X.w X.K X.mg X.base N__law_told "_law_told" (defScope s__law_told) g cdg X.A X.stack s H E0).nox.suite a ((a, oe) :: pn)) := by
      obtain ⟨u, hu⟩ := hf
      exact ⟨(a, oe), ⟨rfl, u, hu, hz.2.2 u hu⟩, List.mem_cons_self⟩
    have hr1 : L2H.RoomH 1 ((cxOf CX0 X.prog X.w X.K X.mg X.base N__law_told "_law_told" (defScope s__law_told) g cdg X.A X.stack s H E0).nox.suite a ((a, oe) :: pn)).A := ⟨(hr (envOfC "_law_told" (defScope s__law_told) s.heap.objs.size g cdg)).dp, (hr (envOfC "_law_told" (defScope s__law_told) s.heap.objs.size g cdg)).un⟩
    suffices hh : ∃ t, PSs ((cxOf CX0 X.prog X.w X.K X.mg X.base N__law_told "_law_told" (defScope s__law_told) g cdg X.A X.stack s H E0).nox.suite a ((a, oe) :: pn)) _ t ∧ t D' ([y0, some (.ref a), y2, y3, y4] : L2.St) H' by
      obtain ⟨t, h1, h2⟩ := hh
      exact h1.run pins s' _ H' D' I h2
    refine ⟨_, (pss_cons (ps_if (pt_not (pt_val (pe_callB (show CallR _ _ (rIsE X.K D a) from call_isP List.mem_cons_self XC hz hf) (by rfl) B.isinstance_ (by decide +kernel) (pa_cons (pv 1) (pa_cons (pe_bltn (v := .ty "ValueError") (by rfl) B.ValueError_ (by decide +kernel) rfl) pa_nil))))) (pss_one (ps_ret (pe_lst (pa_cons pe_int pa_nil)))) pss_nil)
      (pss_cons (ps_setLcEH (i := 2) (own := [("_law_place", 3), ("_law_mark", 4)]) (g := gTup X.K 2 (gCons (gName 3) (gCons (gName 4) gNil))) hot sc__law_told.nd rfl rfl (sw_true rfl rfl rfl (by decide +kernel)) (by rfl) B.enumerate_ (pa_cons (pe_callE G__law_classes hz hf List.mem_cons_self hr1 (by rfl) D__law_classes.g D__law_classes.F.kp D__law_classes.b (pa_cons (pv 1) pa_nil)) pa_nil)
        (blkOk_by (own := [("_law_place", 3), ("_law_mark", 4)]) (N := N__law_told) (sc := defScope s__law_told) (by decide +kernel)) (fun _ _ _ _ _ => pgq_tup (pgs_cons (pg_name (i := 3) sc__law_told.nd rfl (.inl rfl)) (pgs_cons (pg_name (i := 4) sc__law_told.nd rfl (.inl rfl)) pgs_nil))) (fun _ _ _ _ _ => pts_one (pt_val (pv 4))) (fun _ _ _ _ _ => pv 3))
      (pss_one (ps_ret (pe_ifExp (pt_cmpR op_eq (pe_callB (show CallR _ _ (rLenS X.K) from call_len_seq) (by rfl) B.len_ (by decide +kernel) (pa_cons (pv 2) pa_nil)) pe_int (nomark _)) (pv 2) (pe_lst (pa_cons pe_int pa_nil))))))), ?_⟩
    refine q_when (b := false) (et_not (et_B (ev_isE (c := .ty "ValueError") (cv := .type "ValueError") (ev_var rfl) ev_c (fun u r => r) hv))) (fun hb => by cases hb) (fun _ H1 e1 => ?_)
    refine q_asgF (K := X.K) (ef_places5 (bs := (List.range 15).map fun i => decide (i = n)) (fun H2 e2 Q' q' => ⟨_, rfl, rfl, D, n, rfl, XC, hk, fun p xs H3 np e3 hp hx => q' p xs H3 e3 hp (by rw [List.map_map]; exact hx)⟩) (by rw [List.length_map, List.length_range]; decide)) fun p xs H2 np e2 hp hx => ?_
    have h1 := of_decide_eq_true (List.all_eq_true.mp places_one n (List.mem_range.mpr n15))
    rw [List.length_map, List.length_range, h1] at hx
    have hxs : xs = [.int (n : Int)] := dta_ints_inv (l := [(n : Int)]) hx
    subst hxs
    refine s_ret (v := .ref p) (ev_if (b := true) (et_is (et_test (ev_op (ev_len (ev_var rfl) (sq_of hp)) ev_c (rv_eq rfl))) (by rfl)) (fun _ => ev_var rfl) (fun hb => by cases hb)) fun H3 e3 => k p H3 (fresh_back e1 np) ((e1.trans e2).trans e3) (e3 _ _ hp)
  · refine ⟨Eref X.K CE Cs Q, fun cls d σ' H' ⟨D, n, k1, k2, k3, k4, k5, k6, k7, k8⟩ => ?_, rfl, hc, h⟩
    subst k2
    exact ⟨true, k4, fun _ a ha => ⟨⟨σ', rfl⟩, D, n, k1, rfl, k3, k5, k6, k7, k8⟩, fun z => nomatch z⟩
end
/-! ### where the tables of code objects grow: all else stays -/
theorem Dc.okG {P : Program} {w : World} {K : PySem.W.Frag} {mg : Str → Option Value} {base : Heap} {x : Str} {st : Stmt} {f c : Addr} {fd : FuncData} {N ps : List Str} {k : Nat} {sp : Sp} (D : Dc K mg x st ps f fd c) (S : FnScope N ps (defScope st)) (ln : ∀ vs H Q E, sp vs H Q E → vs.length = ps.length)
    (bd : ∀ (A : Around) (outer : List Env) (s : Shared) (H : Hp) (vs : List V) (Q : VK) (E : XK), A.guards = some [] → Room k (A.deeper (envOfC x (defScope st) s.heap.objs.size f (.ref c))) → sp vs H Q E → ∃ t, PSs (cxOf CX0 P w K mg base N x (defScope st) f (.ref c) A outer s H E).nox (defBody st) t ∧ t { nx := fun _ H' => Q .non H', rt := Q } (start N vs) H) :
    FnG P w K mg base (k + 1) f fd ps sp := by
  obtain ⟨oc, od, kV, doc, pm, an, ct, osl, rfl, lk, hcd⟩ := D.cd
  exact fnG_of lk hcd S ln bd
section
open LamX
variable {K : PySem.W.Frag} {H H' : Hp}
theorem nx_ex (e : Ex H H') : ExtN H H' := fun b o h _ => e b o h
theorem tx_n (e : ExtN H H') : Tx H H' := fun a u h => h.elim (fun h => .inl (e _ _ h fun _ z => nomatch z)) fun ⟨o, h⟩ => .inr ⟨o, e _ _ h fun _ z => nomatch z⟩
theorem dt_n (e : ExtN H H') {v : V} {d : PyData} (h : Dt K H v d) : Dt K H' v d := dt_tx (tx_n e) h
theorem dta_n (e : ExtN H H') {vs : List V} {ds : List PyData} (h : DtAll K H vs ds) : DtAll K H' vs ds := dta_tx (tx_n e) h
theorem lst_n (e : ExtN H H') {a : Addr} {xs : List V} (h : H a = some (.lst xs)) : H' a = some (.lst xs) := e _ _ h fun _ z => nomatch z
theorem sql_n (e : ExtN H H') {a : Addr} {xs : List V} (h : SqL K H a xs) : SqL K H' a xs := h.elim (fun h => .inl (h.elim (fun h => .inl (e _ _ h fun _ z => nomatch z)) fun ⟨o, h⟩ => .inr ⟨o, e _ _ h fun _ z => nomatch z⟩)) .inr
theorem box_n (e : ExtN H H') {b : Addr} (h : BoxAt H b) : BoxAt H' b := by
  obtain ⟨x, y, h⟩ := h
  exact ⟨x, y, lst_n e h⟩
theorem tab_n (e : ExtN H H') {p : Addr} (h : H p = some (TabO p)) : H' p = some (TabO p) := e _ _ h fun _ z => nomatch z
theorem none_n (e : ExtN H H') {p : Addr} (h : H' p = none) (hT : ∀ ps, H p ≠ some (.tbl ps)) : H p = none := by
  cases q : H p with
  | none => rfl
  | some o =>
    rw [e p o q fun ps z => hT ps (by rw [q, z])] at h
    cases h
/-- the code objects' tables hold, all else stays -/
structure Nx (T : List (Addr × Str)) (H H' : Hp) : Prop where
  x : ExtN H H'
  t : Tabs T H'
theorem Nx.refl {T : List (Addr × Str)} (t : Tabs T H) : Nx T H H := ⟨ExtN.refl H, t⟩
theorem Nx.trans {T : List (Addr × Str)} {H1 H2 : Hp} (a : Nx T H H1) (b : Nx T H1 H2) : Nx T H H2 := ⟨a.x.trans b.x, b.t⟩
theorem Nx.ex {T : List (Addr × Str)} {H1 H2 : Hp} (a : Nx T H H1) (e : Ex H1 H2) : Nx T H H2 := ⟨a.x.trans (nx_ex e), a.t.ext e⟩
theorem nx_of {T : List (Addr × Str)} (t : Tabs T H) (e : Ex H H') : Nx T H H' := ⟨nx_ex e, t.ext e⟩
end
section
variable {K : PySem.W.Frag} {σ : L2.St} {H : Hp} {T : List (Addr × Str)} {tl te : TE} {t : TT} {ds : List PyData} {D : Ends} {tz tu tv : TS}
theorem s_forFN {g : TG} (h : EvF K tl σ H ds) (hT : LamX.Tabs T H) (Pv : Nat → L2.St → Hp → Prop) (h0 : ∀ H1, Ex H H1 → Pv 0 σ H1)
    (hs : ∀ H1 i x d σ' H', Ex H H1 → Nx T H1 H' → ds[i]? = some d → Dt K H' x d → Pv i σ' H' → g x σ' H' fun σ2 H2 => tu { D with nx := fun σ3 H3 => Nx T H1 H3 ∧ Pv (i + 1) σ3 H3, ct := fun σ3 H3 => Nx T H1 H3 ∧ Pv (i + 1) σ3 H3, bk := D.nx } σ2 H2)
    (hd : ∀ σ' H', Nx T H H' → Pv ds.length σ' H' → D.nx σ' H') : tFor (iList K tl) g tu D σ H :=
  h H (Ex.refl H) _ fun p xs H1 np e1 hp hx => ⟨p, rfl, ⟨xs, sq_of hp⟩, for_list (xs := xs) (fun i σ' H' => Nx T H1 H' ∧ Pv i σ' H') ⟨Nx.refl (hT.ext e1), h0 H1 e1⟩ (fun i σ' H' _ hw => sq_of (lst_n hw.1.x hp)) (fun i x σ' H' hi hw => by
      obtain ⟨d, h1, h2⟩ := dta_get (dta_n hw.1.x hx) hi
      exact hs H1 i x d σ' H' e1 hw.1 h1 h2 hw.2) (fun σ' H' hw => hd σ' H' ⟨(nx_ex e1).trans hw.1.x, hw.1.t⟩ (by rw [← dta_len hx]; exact hw.2))⟩
theorem q_forFN {g : TG} (h : EvF K tl σ H ds) (hT : LamX.Tabs T H) (Pv : Nat → L2.St → Hp → Prop) (h0 : ∀ H1, Ex H H1 → Pv 0 σ H1)
    (hs : ∀ H1 i x d σ' H', Ex H H1 → Nx T H1 H' → ds[i]? = some d → Dt K H' x d → Pv i σ' H' → g x σ' H' fun σ2 H2 => tu { D with nx := fun σ3 H3 => Nx T H1 H3 ∧ Pv (i + 1) σ3 H3, ct := fun σ3 H3 => Nx T H1 H3 ∧ Pv (i + 1) σ3 H3, bk := tz D } σ2 H2)
    (hd : ∀ σ' H', Nx T H H' → Pv ds.length σ' H' → tz D σ' H') : tSeq (tFor (iList K tl) g tu) tz D σ H := s_forFN (D := { D with nx := tz D }) h hT Pv h0 hs hd
/-- a test that comes out as b, the tables growing -/
def EvTN (T : List (Addr × Str)) (t : TT) (σ : L2.St) (H : Hp) (b : Bool) : Prop := ∀ H1, Nx T H H1 → ∀ Q : Bool → Hp → Prop, (∀ H2, Nx T H1 H2 → Q b H2) → t σ H1 Q
theorem q_whenN {b : Bool} (hT : LamX.Tabs T H) (h : EvTN T t σ H b) (h1 : b = true → ∀ H1, Nx T H H1 → tu { D with nx := tz D } σ H1) (h2 : b = false → ∀ H1, Nx T H H1 → tz D σ H1) : tSeq (tIfS t tu tNext) tz D σ H := h H (Nx.refl hT) _ fun H1 n => by
  cases b with
  | true => exact iteT (h1 rfl H1 n)
  | false => exact iteF (h2 rfl H1 n)
theorem s_whenN {b : Bool} (hT : LamX.Tabs T H) (h : EvTN T t σ H b) (h1 : b = true → ∀ H1, Nx T H H1 → tu D σ H1) (h2 : b = false → ∀ H1, Nx T H H1 → D.nx σ H1) : tIfS t tu tNext D σ H := h H (Nx.refl hT) _ fun H1 n => by
  cases b with
  | true => exact iteT (h1 rfl H1 n)
  | false => exact iteF (h2 rfl H1 n)
/-- a lambda's body that raises D -/
def RaisesN (tb : XK → TE) (σ : L2.St) (H : Hp) (D : Addr) : Prop := ∀ H1, LamX.ExtN H H1 → ∀ (E : XK) (Q : VK), (∀ H2, Ex H1 H2 → E (.ref D) none H2) → tb E σ H1 Q
/-- a class of refusals -/
structure ExD (K : PySem.W.Frag) (CE : Addr) (Cs : List Addr) (D : Addr) (n : Nat) : Prop where
  c : ExcC K D
  m : PySem.W.exmOne K (.ref D) (.ref CE) = some true
  v : PySem.W.kitOne K (.ref D) (.type "ValueError") = some true
  o : OnlyAt K D Cs n
  l : n < 15
theorem passN0 {X : Cx} : Passes (L2N.CX X.prog X.w) X E0 := fun _ _ _ _ _ _ _ h => by
  obtain ⟨_, _, _, _, _, _, _, _, _, _, _, _, z⟩ := h
  exact z.elim
end
/-! ### things: data with lists and dicts, apart from the box at b; c: no list stands at the modules' place -/
def keyD : Key → PyData
  | .inl i => .int i
  | .inr x => .str x
def dictD (ks : List (Key × Int)) : PyData := .dict (ks.map fun p => (keyD p.1, .int p.2))
mutual
inductive Od (K : PySem.W.Frag) (b : Addr) (c : Bool) (H : Hp) : V → PyData → Prop
  | non : Od K b c H .non .none
  | bl (x : Bool) : Od K b c H (.bl x) (.bool x)
  | int (i : Int) : Od K b c H (.int i) (.int i)
  | str (x : Str) : Od K b c H (.str x) (.str x)
  | tup {a : Addr} {xs : List V} {ds : List PyData} : SqT K H a xs → OdAll K b c H xs ds → Od K b c H (.ref a) (.tuple ds)
  | lst {a : Addr} {xs : List V} {ds : List PyData} : a ≠ b → H a = some (.lst xs) → (c = true → a ≠ sysModules) → OdAll K b c H xs ds → Od K b c H (.ref a) (.list ds)
  | dct {a : Addr} {ks : List (Key × Int)} : a ≠ b → H a = some (.dK (ks.map fun p => (p.1, V.int p.2))) → Od K b c H (.ref a) (dictD ks)
inductive OdAll (K : PySem.W.Frag) (b : Addr) (c : Bool) (H : Hp) : List V → List PyData → Prop
  | nil : OdAll K b c H [] []
  | cons {v : V} {vs : List V} {d : PyData} {ds : List PyData} : Od K b c H v d → OdAll K b c H vs ds → OdAll K b c H (v :: vs) (d :: ds)
end
section
variable {K : PySem.W.Frag} {b : Addr} {c : Bool} {H H' : Hp}
mutual
theorem od_bk (x : Bk b H H') : ∀ {v : V} {d : PyData}, Od K b c H v d → Od K b c H' v d
  | _, _, .non => .non
  | _, _, .bl y => .bl y
  | _, _, .int i => .int i
  | _, _, .str y => .str y
  | _, _, .tup h a => .tup (tx_sq x.tx h) (oda_bk x a)
  | _, _, .lst n h m a => .lst n (x.bx _ _ n h) m (oda_bk x a)
  | _, _, .dct n h => .dct n (x.bx _ _ n h)
theorem oda_bk (x : Bk b H H') : ∀ {vs : List V} {ds : List PyData}, OdAll K b c H vs ds → OdAll K b c H' vs ds
  | _, _, .nil => .nil
  | _, _, .cons h t => .cons (od_bk x h) (oda_bk x t)
end
theorem od_ex (e : Ex H H') {v : V} {d : PyData} (h : Od K b c H v d) : Od K b c H' v d := od_bk (bk_ex e) h
theorem oda_ex (e : Ex H H') {vs : List V} {ds : List PyData} (h : OdAll K b c H vs ds) : OdAll K b c H' vs ds := oda_bk (bk_ex e) h
mutual
theorem od_dt : ∀ {v : V} {d : PyData}, Dt K H v d → Od K b c H v d
  | _, _, .non => .non
  | _, _, .bl y => .bl y
  | _, _, .int i => .int i
  | _, _, .str y => .str y
  | _, _, .tup h a => .tup h (oda_dt a)
theorem oda_dt : ∀ {vs : List V} {ds : List PyData}, DtAll K H vs ds → OdAll K b c H vs ds
  | _, _, .nil => .nil
  | _, _, .cons h t => .cons (od_dt h) (oda_dt t)
end
theorem oda_len : ∀ {vs : List V} {ds : List PyData}, OdAll K b c H vs ds → vs.length = ds.length
  | _, _, .nil => rfl
  | _, _, .cons _ t => by rw [List.length_cons, List.length_cons, oda_len t]
theorem oda_get : ∀ {vs : List V} {ds : List PyData} {i : Nat} {v : V}, OdAll K b c H vs ds → vs[i]? = some v → ∃ d, ds[i]? = some d ∧ Od K b c H v d
  | _, _, _, _, .nil, e => by simp at e
  | _, _, 0, _, .cons h _, e => by simp at e; subst e; exact ⟨_, rfl, h⟩
  | _, _, i + 1, v, .cons _ t, e => by
    obtain ⟨d, h1, h2⟩ := oda_get (i := i) (v := v) t (by simpa using e)
    exact ⟨d, by simpa using h1, h2⟩
theorem oda_get' : ∀ {vs : List V} {ds : List PyData} {i : Nat} {d : PyData}, OdAll K b c H vs ds → ds[i]? = some d → ∃ v, vs[i]? = some v ∧ Od K b c H v d
  | _, _, _, _, .nil, e => by simp at e
  | _, _, 0, _, .cons h _, e => by simp at e; subst e; exact ⟨_, rfl, h⟩
  | _, _, i + 1, d, .cons _ t, e => by
    obtain ⟨v, h1, h2⟩ := oda_get' (i := i) (d := d) t (by simpa using e)
    exact ⟨v, by simpa using h1, h2⟩
theorem oda_app : ∀ {vs ws : List V} {ds es : List PyData}, OdAll K b c H vs ds → OdAll K b c H ws es → OdAll K b c H (vs ++ ws) (ds ++ es)
  | _, _, _, _, .nil, s => s
  | _, _, _, _, .cons h t, s => .cons h (oda_app t s)
theorem oda_take : ∀ {vs : List V} {ds : List PyData} (n : Nat), OdAll K b c H vs ds → OdAll K b c H (vs.take n) (ds.take n)
  | _, _, 0, _ => .nil
  | _, _, _ + 1, .nil => .nil
  | _, _, n + 1, .cons h t => .cons h (oda_take n t)
/-- the type of a thing -/
def tyD : PyData → String
  | .none => "NoneType"
  | .bool _ => "bool"
  | .int _ => "int"
  | .str _ => "str"
  | .list _ => "list"
  | .tuple _ => "tuple"
  | .dict _ => "dict"
theorem tyD_in (d : PyData) : tyD d ∈ tyNames := by cases d <;> simp [tyD, tyNames]
theorem od_ty {v : V} {d : PyData} (h : Od K b c H v d) : TyX K H v (.type (tyD d)) := by
  cases h with
  | non => exact .base .non
  | bl y => exact .base (.bl y)
  | int i => exact .base (.int i)
  | str y => exact .base (.str y)
  | tup h a =>
    rcases h with (h | ⟨o, h⟩) | ⟨o, its, n, hk, hc, _⟩
    · exact .base (.tup h)
    · exact .fTuple h
    · exact .kTuple hk hc
  | lst n h m a => exact .base (.lst h)
  | dct n h => exact .base (.dK h)
end
section
variable {X : Cx} {pins : List (Addr × Obj)} {σ : L2.St} {H : Hp} {s : Shared} {b : Addr} {c : Bool}
theorem pairs_read {es : List DictEntry} {kvs : List (Key × Value)} (p : Pairs (mixKind X.prog X.w) es kvs) : ∀ {ks : List (Key × Int)}, KV (ks.map fun p => (p.1, V.int p.2)) kvs → ReadsAll s.heap (es.map (·.key)) (ks.map fun p => keyD p.1) [] ∧ ReadsAll s.heap (es.map (·.val)) (ks.map fun p => PyData.int p.2) [] := by
  induction p with
  | nil =>
    intro ks r
    cases ks with
    | nil => exact ⟨.nil, .nil⟩
    | cons p r' => cases r
  | @cons e kv es kvs h1 h2 _ ih =>
    intro ks r
    cases ks with
    | nil => cases r
    | cons q r' =>
      cases r with
      | cons a t =>
        obtain ⟨g1, g2⟩ := ih t
        have hk : Reads s.heap e.key (keyD q.1) [] := by
          have h1 : keyIs kv.1 e.key = true := h1
          rw [← show q.1 = kv.1 from a.1] at h1
          rcases keyIs_shape h1 with ⟨i, t, z1, z2⟩ | ⟨y, t, z1, z2⟩
          · rw [z1, z2]; exact .int i t
          · rw [z1, z2]; exact .str y t
        have hv : Reads s.heap e.val (.int q.2) [] := by
          obtain ⟨t, z⟩ := a.2
          rw [h2, z]
          exact .int _ t
        exact ⟨.cons (as := []) (bs := []) hk g1, .cons (as := []) (bs := []) hv g2⟩
mutual
theorem od_reads (I : Inv X pins σ H s) : ∀ {v : V} {d : PyData} {u : Value}, Od X.K b c H v d → RelV v u → ∃ as, Reads s.heap u d as ∧ (c = true → sysModules ∉ as)
  | _, _, _, .non, r => by
    cases r
    exact ⟨_, .none, fun _ z => nomatch z⟩
  | _, _, _, .bl y, r => by
    cases r
    exact ⟨_, .bool y, fun _ z => nomatch z⟩
  | _, _, _, .int i, r => by
    obtain ⟨t, rfl⟩ := r
    exact ⟨_, .int i t, fun _ z => nomatch z⟩
  | _, _, _, .str y, r => by
    obtain ⟨t, rfl⟩ := r
    exact ⟨_, .str y t, fun _ z => nomatch z⟩
  | _, _, _, .tup hs ha, r => by
    cases r
    obtain ⟨its, rv, ⟨o, ho, hc, n, hd⟩, _⟩ := I.tuple hs
    obtain ⟨as, hr, hn⟩ := oda_reads I ha rv
    exact ⟨_, .tuple ho hc hd hr, hn⟩
  | _, _, _, .lst _ hs hm ha, r => by
    cases r
    obtain ⟨its, rv, ⟨o, n, ho, hc, _, hd⟩, _⟩ := I.list (sq_of hs)
    obtain ⟨as, hr, hn⟩ := oda_reads I ha rv
    refine ⟨_, .list ho hc hd hr, fun hc z => ?_⟩
    rcases List.mem_cons.mp z with z | z
    · exact hm hc z.symm
    · exact hn hc z
  | _, _, _, .dct _ hs, r => by
    cases r
    obtain ⟨_, hsys, vs, kv, o, es, ep, ho, hx, hd, _, hp, _⟩ := dk_of I.hok hs
    obtain ⟨g1, g2⟩ := pairs_read (X := X) (s := s) hp kv
    refine ⟨_, .dict (as := []) (bs := []) ho hx.1 hd (by rw [List.map_map]; exact g1) (by rw [List.map_map]; exact g2), fun _ z => ?_⟩
    have z' : sysModules ∈ [_] := z
    rw [← List.mem_singleton.mp z'] at hsys
    cases hsys
theorem oda_reads (I : Inv X pins σ H s) : ∀ {vs : List V} {ds : List PyData} {us : List Value}, OdAll X.K b c H vs ds → Vals vs us → ∃ as, ReadsAll s.heap us ds as ∧ (c = true → sysModules ∉ as)
  | _, _, _, .nil, r => by
    cases r
    exact ⟨_, .nil, fun _ z => nomatch z⟩
  | _, _, _, .cons h t, r => by
    cases r with
    | cons r1 r2 =>
      obtain ⟨as, q1, n1⟩ := od_reads I h r1
      obtain ⟨bs, q2, n2⟩ := oda_reads I t r2
      exact ⟨_, .cons q1 q2, fun hc z => (List.mem_append.mp z).elim (n1 hc) (n2 hc)⟩
end
/-! repr -/
def showOk (d : PyData) : Prop := d.showable = true ∧ d.depth ≤ 40 ∧ d.shown.length ≤ sizeLine
def rRep (K : PySem.W.Frag) : List V → Hp → VK → Prop := fun xs H Q => ∃ (b : Addr) (c : Bool) (v : V) (d : PyData), xs = [v] ∧ Od K b c H v d ∧ (c = true ∨ d.hasDict = false) ∧ showOk d ∧ Q (.str d.shown) H
theorem call_rep (gd : X.A.guards = some []) (hu : X.A.units + 64 < cLine) : CallR X (.builtin "repr") (rRep X.K) := by
  intro pins s σ H xs us Q I r h
  obtain ⟨b, c, v, d, rfl, hd, hc, ⟨h1, h2, h3⟩, q⟩ := h
  obtain ⟨u, rfl, ru⟩ := vals1 r
  obtain ⟨as, hr, hn⟩ := od_reads I hd ru
  have sm : d.hasDict = true → sysModules ∉ as := fun z => hc.elim hn fun y => by rw [z] at y; cases y
  cases hr with
  | none => exact PySem.P.repr_of_none ⟨.str _, H, I.tok _, ⟨_, rfl⟩, q⟩
  | bool y => exact PySem.P.repr_of_bool ⟨.str _, H, I.tok _, ⟨_, rfl⟩, q⟩
  | int i t => exact PySem.P.repr_of_int (of_decide_eq_true h1) ⟨.str _, H, I.tok _, ⟨_, rfl⟩, q⟩
  | str y t => exact PySem.P.repr_of_str ⟨.str _, H, I.tok _, ⟨_, rfl⟩, q⟩ h3
  | list e1 e2 e3 e4 => exact repr_of_reads' (.list e1 e2 e3 e4) h1 sm gd (by omega) (fun _ _ e => e) (fun h' u tk hk => ⟨.str _, H, I.kept hk, ⟨_, rfl⟩, q⟩) h3
  | tuple e1 e2 e3 e4 => exact repr_of_reads' (.tuple e1 e2 e3 e4) h1 sm gd (by omega) (fun _ _ e => e) (fun h' u tk hk => ⟨.str _, H, I.kept hk, ⟨_, rfl⟩, q⟩) h3
  | dict e1 e2 e3 e4 e5 => exact repr_of_reads' (.dict e1 e2 e3 e4 e5) h1 sm gd (by omega) (fun _ _ e => e) (fun h' u tk hk => ⟨.str _, H, I.kept hk, ⟨_, rfl⟩, q⟩) h3
/-! l != [] -/
def rNe0 (K : PySem.W.Frag) : R2 := fun x y H Q => ∃ (p q : Addr) (xs : List V), x = .ref p ∧ y = .ref q ∧ SqL K H p xs ∧ SqL K H q [] ∧ Q (.bl (!xs.isEmpty)) H
theorem op_ne0 (hu : X.A.units + 64 < cLine) : OpR X (compareOp .NotEq) (rNe0 X.K) := by
  intro pins s σ H x y v u Q I rx ry h
  obtain ⟨p, q, xs, rfl, rfl, hp, hq, k⟩ := h
  cases rx
  cases ry
  obtain ⟨its, rv, l1, _⟩ := I.list hp
  obtain ⟨its2, rv2, l2, _⟩ := I.list hq
  cases rv2
  cases xs with
  | nil =>
    cases rv
    obtain ⟨o, n, ho, hc, _, hd⟩ := l1
    obtain ⟨o2, n2, ho2, hc2, _, hd2⟩ := l2
    exact SeqAt.compareNe_shaped (.list ho hc hd .nil) (.list ho2 hc2 hd2 .nil) (by decide +kernel) (by decide +kernel) hu ⟨.bl _, H, I, rfl, k⟩
  | cons z zs =>
    cases rv
    exact SeqAt.RcNeAt.lists_lengths l1.isList l2.isList (by simp) (by omega) X.prog X.w _ _ ⟨.bl _, H, I, rfl, k⟩
/-! a list that is made stands elsewhere than the modules -/
def tLstB (t : TA) : TE := fun σ H Q => t σ H fun xs H1 => xs.length ≤ sizeLine ∧ ∀ p, H1 p = none → p ≠ sysModules → Q (.ref p) (upd H1 p (.lst xs))
theorem pe_lstB {es : List Expr} {t : TA} {pos : Pos} (h : PA X es t) : PE X (.List es pos) (tLstB t) := ⟨fun pins s σ H Q I hq => wpAny_List_spliced (thn (h.run pos pins s σ H _ I hq) fun us s1 ⟨xs, H1, I1, r, z, q⟩ => ⟨by rw [← r.length]; exact z,
  .ref s1.heap.objs.size, upd H1 s1.heap.objs.size (.lst xs), I1.laid (t' := s1.toks) (fun b u e => Heap.get?_push_of_some _ e) (Nat.le_refl _) ⟨z, us, 0, r, Heap.get?_push_size _ rfl⟩, rfl, q _ (I1.hok.fresh (Nat.le_refl _)) (Nat.ne_of_gt I1.big)⟩)⟩
end
/-! ### what evaluates to which thing -/
theorem any_filter {α : Type} (f : α → Bool) : ∀ xs : List α, (!(xs.filter f).isEmpty) = xs.any f
  | [] => rfl
  | x :: xs => by
    rw [List.filter_cons, List.any_cons]
    cases f x with
    | true => rfl
    | false => exact any_filter f xs
def EvO (K : PySem.W.Frag) (b : Addr) (c : Bool) (te : TE) (σ : L2.St) (H : Hp) (d : PyData) : Prop := ∀ H1, Ex H H1 → ∀ Q : VK, (∀ v H2, Ex H1 H2 → Od K b c H2 v d → Q v H2) → te σ H1 Q
def EvOB (K : PySem.W.Frag) (b : Addr) (c : Bool) (ta : TA) (σ : L2.St) (H : Hp) (ds : List PyData) : Prop := ∀ H1, Ex H H1 → ∀ Q : List V → Hp → Prop, (∀ vs H2, Ex H1 H2 → OdAll K b c H2 vs ds → Q vs H2) → ta σ H1 Q
section
variable {K : PySem.W.Frag} {b : Addr} {c : Bool} {σ : L2.St} {H H' : Hp} {ta tb te tl : TE} {t : TT} {v : V} {d : PyData} {ds es : List PyData}
theorem EvO.mono (e : Ex H H') (h : EvO K b c te σ H d) : EvO K b c te σ H' d := fun H1 a Q q => h H1 (e.trans a) Q q
theorem eo_d (h : EvD K te σ H d) : EvO K b c te σ H d := fun H1 e Q q => h H1 e Q fun v H2 e2 hv => q v H2 e2 (od_dt hv)
theorem eo_var {i : Nat} (h : σ[i]? = some (some v)) (hd : Od K b c H v d) : EvO K b c (tVar i) σ H d := fun H1 e _ q => ⟨v, h, q v H1 (Ex.refl H1) (od_ex e hd)⟩
theorem eo_is {e : PyData} (h : EvO K b c te σ H d) (q : d = e) : EvO K b c te σ H e := q ▸ h
theorem ob_nil : EvOB K b c tNil σ H [] := fun H1 _ _ q => q [] H1 (Ex.refl H1) .nil
theorem ob_cons {tr : TA} (h : EvO K b c ta σ H d) (hr : EvOB K b c tr σ H ds) : EvOB K b c (tCons ta tr) σ H (d :: ds) := fun H1 e _ q =>
  h H1 e _ fun v H2 e2 hd => hr H2 (e.trans e2) _ fun vs H3 e3 ha => q (v :: vs) H3 (e2.trans e3) (.cons (od_ex e3 hd) ha)
theorem eo_non : EvO K b c (tC .non) σ H .none := fun H1 _ _ q => q _ H1 (Ex.refl H1) .non
theorem eo_bl {x : Bool} : EvO K b c (tC (.bl x)) σ H (.bool x) := fun H1 _ _ q => q _ H1 (Ex.refl H1) (.bl x)
theorem eo_str {x : Str} : EvO K b c (tC (.str x)) σ H (.str x) := fun H1 _ _ q => q _ H1 (Ex.refl H1) (.str x)
theorem eo_int {i : Int} (h : Ev te σ H (.int i)) : EvO K b c te σ H (.int i) := eo_d (ed_int h)
theorem eo_tup {ta : TA} (h : EvOB K b c ta σ H ds) (hl : ds.length ≤ 100000) : EvO K b c (tTup ta) σ H (.tuple ds) := fun H1 e _ q =>
  h H1 e _ fun vs H2 e2 ha => ⟨sz_of (by rw [oda_len ha]; exact hl), fun p hp => q _ _ (e2.trans (Ex.new hp)) (.tup (.inl (.inl upd_same)) (oda_ex (Ex.new hp) ha))⟩
theorem eo_lst {ta : TA} (hb : BoxAt H b) (h : EvOB K b c ta σ H ds) (hl : ds.length ≤ 100000) : EvO K b c (tLstB ta) σ H (.list ds) := fun H1 e _ q =>
  h H1 e _ fun vs H2 e2 ha => ⟨sz_of (by rw [oda_len ha]; exact hl), fun p hp hs => q _ _ (e2.trans (Ex.new hp)) (.lst (box_ne (hb.ex (e.trans e2)) hp) upd_same (fun _ => hs) (oda_ex (Ex.new hp) ha))⟩
theorem eo_dict0 (hb : BoxAt H b) : EvO K b c tDNewK σ H (dictD []) := fun H1 e _ q p hp => q _ _ (Ex.new hp) (.dct (ks := []) (box_ne (hb.ex e) hp) upd_same)
theorem eo_dict1 {i j : Int} (hb : BoxAt H b) : EvO K b c (tDisp [(tC (.int i), tC (.int j))]) σ H (dictD [(.inl i, j)]) := fun H1 e _ q p hp =>
  ⟨upd_same, [(.inl i, .int j)], rfl, by show 1 ≤ 15; decide, q _ _ (Ex.mut (Ex.new hp) hp) (.dct (ks := [(.inl i, j)]) (box_ne (hb.ex e) hp) upd_same)⟩
theorem eo_dict2 {i j k l : Int} (hb : BoxAt H b) (hk : i ≠ k) : EvO K b c (tDisp [(tC (.int i), tC (.int j)), (tC (.int k), tC (.int l))]) σ H (dictD [(.inl i, j), (.inl k, l)]) := fun H1 e _ q p hp =>
  ⟨upd_same, [(.inl i, .int j), (.inl k, .int l)], rfl, by show 2 ≤ 15; decide, q _ _ (Ex.mut (Ex.new hp) hp) (.dct (ks := [(.inl i, j), (.inl k, l)]) (box_ne (hb.ex e) hp) (by
    rw [upd_same]
    congr 2
    show putK (putK ([] : List (Key × V)) (Sum.inl i) (.int j)) (Sum.inl k) (.int l) = _
    have e1 : putK ([] : List (Key × V)) (Sum.inl i) (.int j) = [(Sum.inl i, .int j)] := rfl
    rw [e1, putK_new (.int l) (by rw [valV_neg (fun z => hk (Sum.inl.inj z))]; rfl)]
    rfl))⟩
theorem eo_cat {xs ys : List PyData} (ha : EvO K b c ta σ H (.tuple xs)) (hb : EvO K b c tb σ H (.tuple ys)) (hl : xs.length + ys.length ≤ 100000) : EvO K b c (tOp (rCatA K) ta tb) σ H (.tuple (xs ++ ys)) := fun H1 e Q q =>
  ha H1 e _ fun v H2 e2 hv => hb H2 (e.trans e2) _ fun w H3 e3 hw => by
    have hv := od_ex e3 hv
    cases hv with
    | tup hs hx =>
      cases hw with
      | tup ht hy =>
        refine ⟨_, _, _, _, rfl, rfl, hs, ht, sz_of (by rw [oda_len hx, oda_len hy]; exact hl), fun z => ?_, fun _ z => ?_, fun _ _ p hp => ?_⟩
        · subst z
          cases hx
          exact q _ _ (e2.trans e3) (.tup ht hy)
        · subst z
          cases hy
          rw [List.append_nil] at q
          exact q _ _ (e2.trans e3) (.tup hs hx)
        · exact q _ _ ((e2.trans e3).trans (Ex.new hp)) (.tup (.inl (.inl upd_same)) (oda_ex (Ex.new hp) (oda_app hx hy)))
/-- list(t), of a tuple -/
theorem eo_list (hb : BoxAt H b) (h : EvO K b false te σ H (.tuple ds)) : EvO K b false (tCB (rListS K) (tCons te tNil)) σ H (.list ds) := fun H1 e Q q =>
  h H1 e _ fun v H2 e2 hv => by
    cases hv with
    | tup hs hx => exact ⟨_, _, rfl, .inr hs, fun p hp => q _ _ (e2.trans (Ex.new hp)) (.lst (box_ne (hb.ex (e.trans e2)) hp) upd_same (fun z => nomatch z) (oda_ex (Ex.new hp) hx))⟩
theorem cutV_take (xs : List V) (n : Nat) : cutV xs none (some (n : Int)) = xs.take n := by
  unfold cutV
  rw [HT.sIx_none, show HT.sIx xs.length xs.length (some (n : Int)) = min n xs.length from HT.sIx_nat xs.length xs.length n]
  show (xs.drop 0).take (min n xs.length - 0) = xs.take n
  rw [List.drop_zero, Nat.sub_zero, List.take_eq_take_iff]
  simp
/-- t[:n] -/
theorem eo_cut {n : Nat} {tn : TE} (h : EvO K b c te σ H (.tuple ds)) (hn : Ev tn σ H (.int (n : Int))) : EvO K b c (tSl (rSlA K) te tNoPart (tPart tn)) σ H (.tuple (ds.take n)) := fun H1 e Q q =>
  h H1 e _ fun v H2 e2 hv => hn H2 (e.trans e2) _ fun H3 e3 => by
    have hv := od_ex e3 hv
    cases hv with
    | tup hs hx =>
      rename_i a xs
      refine ⟨_, rfl, _, _, rfl, hs, fun hw => ?_, fun hw p hp => ?_⟩
      · have h2 := hw.2
        rw [show HT.sIx xs.length xs.length (some (n : Int)) = min n xs.length from HT.sIx_nat xs.length xs.length n] at h2
        have : ds.take n = ds := List.take_of_length_le (by rw [← oda_len hx]; omega)
        rw [this] at q
        exact q _ _ (e2.trans e3) (.tup hs hx)
      · refine q _ _ ((e2.trans e3).trans (Ex.new hp)) (.tup (.inl (.inl (by rw [upd_same, cutV_take]))) (oda_ex (Ex.new hp) (oda_take n hx)))
/-- range from below nought on -/
theorem s_forRN {D : Ends} {tu : TS} {ta : TA} {j : Nat} {lo n : Int} (h : EvA ta σ H [.int lo, .int n]) (hn : -1000 ≤ lo ∧ lo ≤ 1000 ∧ -1000 ≤ n ∧ n ≤ 1000) (Pv : Nat → L2.St → Hp → Prop) (h0 : ∀ H1, Ex H H1 → Pv 0 σ H1)
    (hs : ∀ (i : Nat) σ' H', lo + (i : Int) < n → Pv i σ' H' → tu { D with nx := Pv (i + 1), ct := Pv (i + 1), bk := D.nx } (σ'.set j (some (.int (lo + (i : Int))))) H') (hd : ∀ σ' H', Pv (n - lo).toNat σ' H' → D.nx σ' H') : tFor (iRng2 ta) (gName j) tu D σ H :=
  h H (Ex.refl H) _ fun H1 e => ⟨lo, n, rfl, ⟨by omega, by omega, by omega, by omega⟩, for_range (lo := lo) (n := (n - lo).toNat) Pv (h0 H1 e) (fun i σ' H' hi p => hs i σ' H' (by omega) p) hd⟩
theorem q_forRN {D : Ends} {tu tz : TS} {ta : TA} {j : Nat} {lo n : Int} (h : EvA ta σ H [.int lo, .int n]) (hn : -1000 ≤ lo ∧ lo ≤ 1000 ∧ -1000 ≤ n ∧ n ≤ 1000) (Pv : Nat → L2.St → Hp → Prop) (h0 : ∀ H1, Ex H H1 → Pv 0 σ H1)
    (hs : ∀ (i : Nat) σ' H', lo + (i : Int) < n → Pv i σ' H' → tu { D with nx := Pv (i + 1), ct := Pv (i + 1), bk := tz D } (σ'.set j (some (.int (lo + (i : Int))))) H') (hd : ∀ σ' H', Pv (n - lo).toNat σ' H' → tz D σ' H') : tSeq (tFor (iRng2 ta) (gName j) tu) tz D σ H := s_forRN (D := { D with nx := tz D }) h hn Pv h0 hs hd
end
/-! things for the asking -/
def Tg (K : PySem.W.Frag) (b : Addr) (H : Hp) (v : V) (d : PyData) : Prop := ∃ c, Od K b c H v d ∧ (c = true ∨ d.hasDict = false)
inductive TgAll (K : PySem.W.Frag) (b : Addr) (H : Hp) : List V → List PyData → Prop
  | nil : TgAll K b H [] []
  | cons {v : V} {vs : List V} {d : PyData} {ds : List PyData} : Tg K b H v d → TgAll K b H vs ds → TgAll K b H (v :: vs) (d :: ds)
def EvTB (K : PySem.W.Frag) (b : Addr) (ta : TA) (σ : L2.St) (H : Hp) (ds : List PyData) : Prop := ∀ H1, Ex H H1 → ∀ Q : List V → Hp → Prop, (∀ vs H2, Ex H1 H2 → TgAll K b H2 vs ds → Q vs H2) → ta σ H1 Q
def EvTF (K : PySem.W.Frag) (b : Addr) (te : TE) (σ : L2.St) (H : Hp) (ds : List PyData) : Prop := ∀ H1, Ex H H1 → ∀ Q : VK, (∀ p xs H2, H1 p = none → Ex H1 H2 → H2 p = some (.lst xs) → TgAll K b H2 xs ds → Q (.ref p) H2) → te σ H1 Q
section
variable {K : PySem.W.Frag} {b : Addr} {c : Bool} {σ : L2.St} {H H' : Hp} {ta tb te tl : TE} {t : TT} {v : V} {d : PyData} {ds es : List PyData} {D : Ends} {tz tu : TS} {i : Nat}
theorem tg_bk (x : Bk b H H') (h : Tg K b H v d) : Tg K b H' v d := by
  obtain ⟨c, h1, h2⟩ := h
  exact ⟨c, od_bk x h1, h2⟩
theorem tg_ex (e : Ex H H') (h : Tg K b H v d) : Tg K b H' v d := tg_bk (bk_ex e) h
theorem tga_ex (e : Ex H H') : ∀ {vs : List V} {ds : List PyData}, TgAll K b H vs ds → TgAll K b H' vs ds
  | _, _, .nil => .nil
  | _, _, .cons h t => .cons (tg_ex e h) (tga_ex e t)
theorem tga_len : ∀ {vs : List V} {ds : List PyData}, TgAll K b H vs ds → vs.length = ds.length
  | _, _, .nil => rfl
  | _, _, .cons _ t => by rw [List.length_cons, List.length_cons, tga_len t]
theorem tga_get : ∀ {vs : List V} {ds : List PyData} {i : Nat} {v : V}, TgAll K b H vs ds → vs[i]? = some v → ∃ d, ds[i]? = some d ∧ Tg K b H v d
  | _, _, _, _, .nil, e => by simp at e
  | _, _, 0, _, .cons h _, e => by simp at e; subst e; exact ⟨_, rfl, h⟩
  | _, _, i + 1, v, .cons _ t, e => by
    obtain ⟨d, h1, h2⟩ := tga_get (i := i) (v := v) t (by simpa using e)
    exact ⟨d, by simpa using h1, h2⟩
theorem tga_app : ∀ {vs ws : List V} {ds es : List PyData}, TgAll K b H vs ds → TgAll K b H ws es → TgAll K b H (vs ++ ws) (ds ++ es)
  | _, _, _, _, .nil, s => s
  | _, _, _, _, .cons h t, s => .cons h (tga_app t s)
theorem tb_nil : EvTB K b tNil σ H [] := fun H1 _ _ q => q [] H1 (Ex.refl H1) .nil
theorem tb_cons {tr : TA} (h : EvO K b true ta σ H d) (hr : EvTB K b tr σ H ds) : EvTB K b (tCons ta tr) σ H (d :: ds) := fun H1 e _ q =>
  h H1 e _ fun v H2 e2 hd => hr H2 (e.trans e2) _ fun vs H3 e3 ha => q (v :: vs) H3 (e2.trans e3) (.cons ⟨true, od_ex e3 hd, .inl rfl⟩ ha)
theorem tb_consF {tr : TA} (h : EvO K b false ta σ H d) (hd : d.hasDict = false) (hr : EvTB K b tr σ H ds) : EvTB K b (tCons ta tr) σ H (d :: ds) := fun H1 e _ q =>
  h H1 e _ fun v H2 e2 ho => hr H2 (e.trans e2) _ fun vs H3 e3 ha => q (v :: vs) H3 (e2.trans e3) (.cons ⟨false, od_ex e3 ho, .inr hd⟩ ha)
theorem tf_lst {ta : TA} (h : EvTB K b ta σ H ds) (hl : ds.length ≤ 100000) : EvTF K b (tLst ta) σ H ds := fun H1 e _ q =>
  h H1 e _ fun vs H2 e2 ha => ⟨sz_of (by rw [tga_len ha]; exact hl), fun p hp => q p vs _ (fresh_back e2 hp) (e2.trans (Ex.new hp)) upd_same (tga_ex (Ex.new hp) ha)⟩
theorem tf_catLF {p : Addr} {xs : List V} (ha : Ev ta σ H (.ref p)) (hp : H p = some (.lst xs)) (hx : TgAll K b H xs ds) (hb : EvTF K b tb σ H es) (hl : ds.length + es.length ≤ 100000) : EvTF K b (tOp rCat ta tb) σ H (ds ++ es) := fun H1 e Q q =>
  ha H1 e _ fun H2 e2 => hb H2 (e.trans e2) _ fun r ys H3 _ e3 hr hy =>
    ⟨_, _, _, _, rfl, rfl, ((e.trans e2).trans e3) p _ hp, hr, sz_of (by rw [tga_len hx, tga_len hy]; exact hl), fun n hn =>
      q n _ _ (fresh_back (e2.trans e3) hn) ((e2.trans e3).trans (Ex.new hn)) upd_same (tga_ex (Ex.new hn) (tga_app (tga_ex ((e.trans e2).trans e3) hx) hy))⟩
theorem q_asgTF (h : EvTF K b te σ H ds) (k : ∀ p xs H1, H p = none → Ex H H1 → H1 p = some (.lst xs) → TgAll K b H1 xs ds → tz D (σ.set i (some (.ref p))) H1) : tSeq (tAsg te (gName i)) tz D σ H := h H (Ex.refl H) _ k
theorem s_forTg {g : TG} (h : EvTF K b tl σ H ds) (Pv : Nat → L2.St → Hp → Prop) (h0 : ∀ H1, Ex H H1 → Pv 0 σ H1)
    (hs : ∀ H1 i x d σ' H', Ex H H1 → Ex H1 H' → ds[i]? = some d → Tg K b H' x d → Pv i σ' H' → g x σ' H' fun σ2 H2 => tu { D with nx := fun σ3 H3 => Ex H1 H3 ∧ Pv (i + 1) σ3 H3, ct := fun σ3 H3 => Ex H1 H3 ∧ Pv (i + 1) σ3 H3, bk := D.nx } σ2 H2)
    (hd : ∀ σ' H', Ex H H' → Pv ds.length σ' H' → D.nx σ' H') : tFor (iList K tl) g tu D σ H :=
  h H (Ex.refl H) _ fun p xs H1 np e1 hp hx => ⟨p, rfl, ⟨xs, sq_of hp⟩, for_list (xs := xs) (fun i σ' H' => Ex H1 H' ∧ Pv i σ' H') ⟨Ex.refl _, h0 H1 e1⟩ (fun i σ' H' _ hw => sq_of (hw.1 p _ hp)) (fun i x σ' H' hi hw => by
      obtain ⟨d, h1, h2⟩ := tga_get (tga_ex hw.1 hx) hi
      exact hs H1 i x d σ' H' e1 hw.1 h1 h2 hw.2) (fun σ' H' hw => hd σ' H' (e1.trans hw.1) (by rw [← tga_len hx]; exact hw.2))⟩
/-- [..][take], things in the list -/
theorem q_menuO {ta : TA} {tk : TE} (hl : EvOB K b true ta σ H ds) (hz : ds.length ≤ 1000) (hb : BoxAt H b) (hi : ∀ H', Ex H H' → BoxAt H' b → EvK K b tk σ H' (fun d => ∃ r : Int, d = .int r ∧ 0 ≤ r ∧ r < (ds.length : Int)))
    (k : ∀ v d H2, d ∈ ds → Od K b true H2 v d → BoxAt H2 b → Bk b H H2 → tz D (σ.set i (some v)) H2) : tSeq (tAsg (tOp (rIxL K) (tLst ta) tk) (gName i)) tz D σ H :=
  hl H (Ex.refl H) _ fun xs H1 e1 hx => ⟨sz_of (by rw [oda_len hx]; omega), fun p hp => hi _ (e1.trans (Ex.new hp)) (hb.ex (e1.trans (Ex.new hp))) _ fun v d H2 hr hv hb2 x2 => by
    obtain ⟨r, rfl, r0, r1⟩ := hr
    cases hv
    obtain ⟨m, rfl⟩ : ∃ m : Nat, r = (m : Int) := ⟨r.toNat, by omega⟩
    have hm : m < ds.length := by omega
    have np : p ≠ b := box_ne (hb.ex e1) hp
    obtain ⟨w, hw, hd⟩ := oda_get' (oda_bk x2 (oda_ex (Ex.new hp) hx)) (List.getElem?_eq_getElem hm)
    exact ⟨p, xs, (m : Int), w, rfl, rfl, sq_of (x2.bx p _ np upd_same), atI_nat hw, k w _ H2 (List.getElem_mem hm) hd hb2 ((bk_ex (e1.trans (Ex.new hp))).trans x2)⟩⟩
/-- repr(x) -/
theorem ev_rep (h : Ev te σ H v) (hv : Tg K b H v d) (hs : showOk d) : Ev (tCB (rRep K) (tCons te tNil)) σ H (.str d.shown) := fun H1 e Q q => h H1 e _ fun H2 e2 => by
  obtain ⟨c, h1, h2⟩ := hv
  exact ⟨b, c, v, d, rfl, od_ex (e.trans e2) h1, h2, hs, q H2 e2⟩
/-- the items of a tuple that pass, as they are -/
theorem ne_lcT {a : Addr} {xs : List V} {j : Nat} {vs : List Nat} (f : V → Bool) (h : Ev tl σ H (.ref a)) (hx : SqT K H a xs) (hz : xs.length < 50000) (hw : ∀ x, wipe ((wipe σ vs).set j (some x)) vs = wipe σ vs) (hj : ∀ x, ((wipe σ vs).set j (some x))[j]? = some (some x))
    (ht : ∀ (x : V) H1, Ex H H1 → x ∈ xs → EvT t ((wipe σ vs).set j (some x)) H1 (f x)) : Ev (tOp (rNe0 K) (tLc (iTup K tl) (gName j) t (tVar j) vs) (tLst tNil)) σ H (.bl (xs.any f)) := fun H0 e Q q => h H0 e _ fun H1 e1 => ⟨a, rfl, ⟨xs, ex_t (e.trans e1) hx⟩, fun Dl hD => by
  have e01 := e.trans e1
  refine lc_tup (xs := xs) (fun i H' => H1 Dl = none ∧ Ex H1 H' ∧ H' Dl = some (.lst ((xs.take i).filter f))) ⟨hD, Ex.new hD, upd_same⟩ (fun i H' _ p => ex_t (e01.trans p.2.1) hx) (fun i x H' hi p => ⟨hw x, ?_⟩) (fun H' p => ?_)
  · obtain ⟨p1, p2, p3⟩ := p
    refine ht x H' (e01.trans p2) (List.mem_of_getElem? hi) H' (Ex.refl H') _ fun H3 e3 => ?_
    have en := filter_take_succ (f := f) hi
    cases hb : f x with
    | true =>
      rw [hb, if_pos rfl] at en
      refine iteT ⟨x, hj x, _, e3 Dl _ p3, sz_lt ?_, p1, Ex.mut (p2.trans e3) p1, by rw [upd_same, en]⟩
      have h1 := List.length_filter_le f (xs.take i)
      have h2 : (xs.take i).length ≤ xs.length := by rw [List.length_take]; exact Nat.min_le_right _ _
      omega
    | false =>
      rw [hb, if_neg Bool.false_ne_true, List.append_nil] at en
      refine iteF ⟨p1, p2.trans e3, by rw [en]; exact e3 Dl _ p3⟩
  · obtain ⟨p1, p2, p3⟩ := p
    rw [List.take_of_length_le (Nat.le_refl _)] at p3
    refine ⟨sz_of (by show 0 ≤ 100000; decide), fun r hr => ⟨Dl, r, _, rfl, rfl, sq_of (Ex.new hr Dl _ p3), sq_of upd_same, ?_⟩⟩
    rw [any_filter f xs]
    exact q _ ((e1.trans p2).trans (Ex.new hr))⟩
end
/-! ### things short enough to be shown -/
mutual
def leafOk : PyData → Bool
  | .none => true
  | .bool _ => true
  | .int i => decide (i.natAbs < 10 ^ 40)
  | .str x => x.cps.toList.all fun c => decide (c < 16 ^ 8)
  | .list xs => leafOkAll xs
  | .tuple xs => leafOkAll xs
  | .dict kvs => leafOkKv kvs
def leafOkAll : List PyData → Bool
  | [] => true
  | x :: xs => leafOk x && leafOkAll xs
def leafOkKv : List (PyData × PyData) → Bool
  | [] => true
  | (k, v) :: r => leafOk k && leafOk v && leafOkKv r
end
mutual
theorem leaf_of : ∀ d : PyData, leafOk d = true → d.leavesShort 50 = true ∧ d.showable = true
  | .none, _ => ⟨rfl, rfl⟩
  | .bool _, _ => ⟨rfl, rfl⟩
  | .int i, h => by
    have h : i.natAbs < 10 ^ 40 := by simpa [leafOk] using h
    refine ⟨?_, ?_⟩
    · have e := int_text_length_le10 (k := 40) (by decide) h
      have e2 : (PyData.shown (.int i)).length ≤ 50 := by
        show (Str.ofString (toString i)).length ≤ 50
        rw [PySem.ofString_length]
        omega
      simpa [PyData.leavesShort] using e2
    · have : i.natAbs.log2 < 1920 := PySem.Spec.log2_small (Nat.lt_trans h (by decide +kernel))
      simpa [PyData.showable] using this
  | .str x, h => ⟨by simpa [leafOk, PyData.leavesShort] using h, rfl⟩
  | .list xs, h => by
    have := leaf_all xs (by simpa [leafOk] using h)
    exact ⟨by simpa [PyData.leavesShort] using this.1, by simpa [PyData.showable] using this.2⟩
  | .tuple xs, h => by
    have := leaf_all xs (by simpa [leafOk] using h)
    exact ⟨by simpa [PyData.leavesShort] using this.1, by simpa [PyData.showable] using this.2⟩
  | .dict kvs, h => by
    have := leaf_kv kvs (by simpa [leafOk] using h)
    exact ⟨by simpa [PyData.leavesShort] using this.1, by simpa [PyData.showable] using this.2⟩
theorem leaf_all : ∀ xs : List PyData, leafOkAll xs = true → PyData.leavesShortAll 50 xs = true ∧ PyData.showableAll xs = true
  | [], _ => ⟨rfl, rfl⟩
  | x :: xs, h => by
    have h : leafOk x = true ∧ leafOkAll xs = true := by simpa [leafOkAll] using h
    have h1 := leaf_of x h.1
    have h2 := leaf_all xs h.2
    exact ⟨by simp [PyData.leavesShortAll, h1.1, h2.1], by simp [PyData.showableAll, h1.2, h2.2]⟩
theorem leaf_kv : ∀ kvs : List (PyData × PyData), leafOkKv kvs = true → PyData.leavesShortKv 50 kvs = true ∧ PyData.showableKv kvs = true
  | [], _ => ⟨rfl, rfl⟩
  | (k, v) :: r, h => by
    have h : (leafOk k = true ∧ leafOk v = true) ∧ leafOkKv r = true := by simpa [leafOkKv] using h
    have h1 := leaf_of k h.1.1
    have h2 := leaf_of v h.1.2
    have h3 := leaf_kv r h.2
    exact ⟨by simp [PyData.leavesShortKv, h1.1, h2.1, h3.1], by simp [PyData.showableKv, h1.2, h2.2, h3.2]⟩
end
def okT (d : PyData) : Bool := leafOk d && decide (d.bulk ≤ 10000) && decide (d.depth ≤ 40)
theorem show_of {d : PyData} (h : okT d = true) : showOk d := by
  unfold okT at h
  simp only [Bool.and_eq_true, decide_eq_true_eq] at h
  obtain ⟨⟨h1, h2⟩, h3⟩ := h
  obtain ⟨g1, g2⟩ := leaf_of d h1
  have g3 := PyData.shown_le_bulk 50 (by decide) d g1
  refine ⟨g2, h3, Nat.le_trans g3 ?_⟩
  have : sizeLine = 16777216 := rfl
  rw [this]
  omega
theorem bk_free0 {b q : Addr} {H H' : Hp} (x : Bk b H H') (hb : BoxAt H' b) (n : H' q = none) : H q = none := by
  cases e : H q with
  | none => rfl
  | some o =>
    have nq : q ≠ b := box_ne hb n
    rw [x.bx q o nq e] at n
    cases n
/-! ### what is no curve, and what is too great -/
def isCurveD : PyData → Bool
  | .tuple [.int m, .int d] => decide (1 ≤ d) && decide (d ≤ 6) && (decide (d < m) && decide (m ≤ 9))
  | _ => false
section
variable {K : PySem.W.Frag} {b : Addr} {c : Bool} {H : Hp} {σ : L2.St}
theorem eo_lstF {ta : TA} {ds : List PyData} (hb : BoxAt H b) (h : EvOB K b false ta σ H ds) (hl : ds.length ≤ 100000) : EvO K b false (tLst ta) σ H (.list ds) := fun H1 e _ q =>
  h H1 e _ fun vs H2 e2 ha => ⟨sz_of (by rw [oda_len ha]; exact hl), fun p hp => q _ _ (e2.trans (Ex.new hp)) (.lst (box_ne (hb.ex (e.trans e2)) hp) upd_same (fun z => nomatch z) (oda_ex (Ex.new hp) ha))⟩
theorem q_asgOL {D : Ends} {tz : TS} {i : Nat} {ta : TA} {ds : List PyData} (h : EvOB K b c ta σ H ds) (hl : ds.length ≤ 100000) (k : ∀ p vs H1, H p = none → Ex H H1 → H1 p = some (.lst vs) → OdAll K b c H1 vs ds → tz D (σ.set i (some (.ref p))) H1) : tSeq (tAsg (tLst ta) (gName i)) tz D σ H :=
  h H (Ex.refl H) _ fun vs H1 e1 ha => ⟨sz_of (by rw [oda_len ha]; exact hl), fun p hp => k p vs _ (fresh_back e1 hp) (e1.trans (Ex.new hp)) upd_same (oda_ex (Ex.new hp) ha)⟩
theorem curve_eq2 : ∀ {xs : List V} {ds : List PyData}, OdAll K b c H xs ds → curveB xs = isCurveD (.tuple ds) := by
  intro xs ds h
  cases h with
  | nil => rfl
  | cons h1 h2 =>
    cases h2 with
    | nil => cases h1 <;> rfl
    | cons h2 h3 =>
      cases h3 with
      | nil => cases h1 <;> cases h2 <;> rfl
      | cons h3 h4 => cases h1 <;> cases h2 <;> rfl
theorem oda_typed2 : ∀ {xs : List V} {ds : List PyData}, OdAll K b c H xs ds → ∀ y ∈ xs, Typed K H y
  | _, _, .nil => fun y hy => nomatch hy
  | _, _, .cons h t => fun y hy => by
    rcases List.mem_cons.mp hy with rfl | hy
    · exact ⟨_, tyD_in _, od_ty h⟩
    · exact oda_typed2 t y hy
theorem th_of2 {v : V} {d : PyData} (h : Od K b c H v d) : ThC K H v (isCurveD d) := by
  cases h with
  | tup hs ha => exact .inr ⟨_, _, rfl, hs, oda_typed2 ha, (curve_eq2 ha).symm⟩
  | non => exact .inl ⟨_, tyD_in .none, by decide, od_ty (b := b) (c := c) .non, rfl⟩
  | bl x => exact .inl ⟨_, tyD_in (.bool x), by show "bool" ≠ "tuple"; decide, od_ty (b := b) (c := c) (.bl x), rfl⟩
  | int i => exact .inl ⟨_, tyD_in (.int i), by show "int" ≠ "tuple"; decide, od_ty (b := b) (c := c) (.int i), rfl⟩
  | str x => exact .inl ⟨_, tyD_in (.str x), by show "str" ≠ "tuple"; decide, od_ty (b := b) (c := c) (.str x), rfl⟩
  | lst n h m a => exact .inl ⟨"list", by decide, by decide, od_ty (Od.lst (c := c) n h m a), rfl⟩
  | dct n h => exact .inl ⟨"dict", by decide, by decide, od_ty (Od.dct (c := c) n h), rfl⟩
end
def badDs : List PyData := [.none, curveD 3 3, curveD 10 2, curveD 8 7, curveD 3 0, .list [.int 5, .int 2], .tuple [.int 5, .bool true], .tuple [.int 5], .tuple [.int 5, .int 2, .int 1], .str "52", dictD [], curveD 5 (2 - 4), .tuple [.int 5, .none]]
def greatDs : List PyData := [curveD 8 2, curveD 9 4, curveD 8 1, curveD 6 5, curveD 7 6, curveD 9 6, curveD 7 5]
theorem bad_no {d : PyData} (h : d ∈ badDs) : isCurveD d = false := by
  simp only [badDs, List.mem_cons, List.not_mem_nil, or_false] at h
  rcases h with rfl | rfl | rfl | rfl | rfl | rfl | rfl | rfl | rfl | rfl | rfl | rfl | rfl <;> rfl
theorem great_yes {d : PyData} (h : d ∈ greatDs) : ∃ m n, d = curveD m n ∧ okC m n ∧ (7 < m ∨ 4 < n) := by
  simp only [greatDs, List.mem_cons, List.not_mem_nil, or_false] at h
  rcases h with rfl | rfl | rfl | rfl | rfl | rfl | rfl <;> exact ⟨_, _, rfl, by unfold okC; decide, by decide⟩
section
variable {P : Program} {w : World} {K : PySem.W.Frag} {mg : Str → Option Value} {base : Heap}
/-- the drawn thing v, its due place n -/
def BadAt (K : PySem.W.Frag) (b : Addr) (H : Hp) (v : V) (n : Int) : Prop := (n = 0 ∧ ∃ d, Od K b false H v d ∧ isCurveD d = false) ∨ (n = 12 ∧ ∃ m d, Dt K H v (curveD m d) ∧ okC m d ∧ (7 < m ∨ 4 < d))
theorem BadAt.bk {b : Addr} {H H' : Hp} {v : V} {n : Int} (x : Bk b H H') (h : BadAt K b H v n) : BadAt K b H' v n := by
  rcases h with ⟨h1, d, h2, h3⟩ | ⟨h1, m, d, h2, h3⟩
  · exact .inl ⟨h1, d, od_bk x h2, h3⟩
  · exact .inr ⟨h1, m, d, dt_tx x.tx h2, h3⟩
def spBad (K : PySem.W.Frag) : Sp := fun vs H Q _ => ∃ b, vs = [.ref b] ∧ BoxAt H b ∧ ∀ t v l n H2, H t = none → H l = none → H2 t = some (.tup [v, .ref l]) → H2 l = some (.lst [.int n]) → BadAt K b H2 v n → BoxAt H2 b → Bk b H H2 → Q (.ref t) H2
theorem ok__law_bad_curve (L : All K mg) {k : Nat} : FnOk P w K mg base CX0 (k + 2) L.f__law_bad_curve L.fd__law_bad_curve ["_law_box_here"] (spBad K) := by
  have B := L.B
  have D__law_take := L.D__law_take
  have G__law_take := ok__law_take (P := P) (w := w) (base := base) L (k := 0)
  refine L.D__law_bad_curve.F.ok sc__law_bad_curve (fun vs H Q E h => ?_) (fun cdv A outer s H vs Q E hr h => ?_)
  · obtain ⟨b, rfl, _⟩ := h
    rfl
  · obtain ⟨b, rfl, hb, q⟩ := h
    refine ⟨_, (pss_cons (ps_set (i := 1) sc__law_bad_curve.nd rfl (.inl rfl) (pe_lst (pa_cons pe_non (pa_cons (pe_tup (pa_cons pe_int (pa_cons pe_int pa_nil))) (pa_cons (pe_tup (pa_cons pe_int (pa_cons pe_int pa_nil))) (pa_cons (pe_tup (pa_cons pe_int (pa_cons pe_int pa_nil))) (pa_cons (pe_tup (pa_cons pe_int (pa_cons pe_int pa_nil))) (pa_cons (pe_lst (pa_cons pe_int (pa_cons pe_int pa_nil))) (pa_cons (pe_tup (pa_cons pe_int (pa_cons pe_bl pa_nil))) (pa_cons (pe_tup (pa_cons pe_int pa_nil)) (pa_cons (pe_tup (pa_cons pe_int (pa_cons pe_int (pa_cons pe_int pa_nil)))) (pa_cons pe_str (pa_cons pe_dnewK (pa_cons (pe_tup (pa_cons pe_int (pa_cons (pe_op op_sub pe_int pe_int) pa_nil))) (pa_cons (pe_tup (pa_cons pe_int (pa_cons pe_non pa_nil))) pa_nil)))))))))))))))  (pss_cons (ps_set (i := 2) sc__law_bad_curve.nd rfl (.inl rfl) (pe_lst (pa_cons (pe_tup (pa_cons pe_int (pa_cons pe_int pa_nil))) (pa_cons (pe_tup (pa_cons pe_int (pa_cons pe_int pa_nil))) (pa_cons (pe_tup (pa_cons pe_int (pa_cons pe_int pa_nil))) (pa_cons (pe_tup (pa_cons pe_int (pa_cons pe_int pa_nil))) (pa_cons (pe_tup (pa_cons pe_int (pa_cons pe_int pa_nil))) (pa_cons (pe_tup (pa_cons pe_int (pa_cons pe_int pa_nil))) (pa_cons (pe_tup (pa_cons pe_int (pa_cons pe_int pa_nil))) pa_nil)))))))))  (pss_cons (ps_if (pt_cmpR op_eq (pe_call G__law_take (hr.mono (by omega)) (by rfl) D__law_take.g D__law_take.F.kp D__law_take.b .nil pass0 (pa_cons (pv 0) (pa_cons pe_int pa_nil))) pe_int (nomark _))   (pss_one (ps_ret (pe_tup (pa_cons (pe_ix (show IxR _ (rIxL K) from ix_list) (pv 1) (pe_call G__law_take (hr.mono (by omega)) (by rfl) D__law_take.g D__law_take.F.kp D__law_take.b .nil pass0 (pa_cons (pv 0) (pa_cons pe_int pa_nil))) (fun _ _ => rfl)) (pa_cons (pe_lst (pa_cons pe_int pa_nil)) pa_nil)))))   pss_nil)  (pss_one (ps_ret (pe_tup (pa_cons (pe_ix (show IxR _ (rIxL K) from ix_list) (pv 2) (pe_call G__law_take (hr.mono (by omega)) (by rfl) D__law_take.g D__law_take.F.kp D__law_take.b .nil pass0 (pa_cons (pv 0) (pa_cons pe_int pa_nil))) (fun _ _ => rfl)) (pa_cons (pe_lst (pa_cons pe_int pa_nil)) pa_nil)))))))), ?_⟩
    refine q_asgOL (K := K) (b := b) (c := false) (ds := badDs) (ob_cons eo_non (ob_cons (eo_d (ed_tup (eb_cons (ed_int ev_c) (eb_cons (ed_int ev_c) eb_nil)) (by decide))) (ob_cons (eo_d (ed_tup (eb_cons (ed_int ev_c) (eb_cons (ed_int ev_c) eb_nil)) (by decide))) (ob_cons (eo_d (ed_tup (eb_cons (ed_int ev_c) (eb_cons (ed_int ev_c) eb_nil)) (by decide))) (ob_cons (eo_d (ed_tup (eb_cons (ed_int ev_c) (eb_cons (ed_int ev_c) eb_nil)) (by decide))) (ob_cons (eo_lstF hb (ob_cons (eo_int ev_c) (ob_cons (eo_int ev_c) ob_nil)) (by decide)) (ob_cons (eo_tup (ob_cons (eo_int ev_c) (ob_cons eo_bl ob_nil)) (by decide)) (ob_cons (eo_tup (ob_cons (eo_int ev_c) ob_nil) (by decide)) (ob_cons (eo_tup (ob_cons (eo_int ev_c) (ob_cons (eo_int ev_c) (ob_cons (eo_int ev_c) ob_nil))) (by decide)) (ob_cons eo_str (ob_cons (eo_dict0 hb) (ob_cons (eo_d (ed_tup (eb_cons (ed_int ev_c) (eb_cons (ed_int (ev_op ev_c ev_c rv_I0)) eb_nil)) (by decide))) (ob_cons (eo_tup (ob_cons (eo_int ev_c) (ob_cons eo_non ob_nil)) (by decide)) ob_nil))))))))))))) (by decide) fun p1 vs1 H1 np1 e1 hp1' hv1 => ?_
    have hb1 := hb.ex e1
    refine q_asgF (K := K) (ds := greatDs) (ef_lst (eb_cons (ed_tup (eb_cons (ed_int ev_c) (eb_cons (ed_int ev_c) eb_nil)) (by decide)) (eb_cons (ed_tup (eb_cons (ed_int ev_c) (eb_cons (ed_int ev_c) eb_nil)) (by decide)) (eb_cons (ed_tup (eb_cons (ed_int ev_c) (eb_cons (ed_int ev_c) eb_nil)) (by decide)) (eb_cons (ed_tup (eb_cons (ed_int ev_c) (eb_cons (ed_int ev_c) eb_nil)) (by decide)) (eb_cons (ed_tup (eb_cons (ed_int ev_c) (eb_cons (ed_int ev_c) eb_nil)) (by decide)) (eb_cons (ed_tup (eb_cons (ed_int ev_c) (eb_cons (ed_int ev_c) eb_nil)) (by decide)) (eb_cons (ed_tup (eb_cons (ed_int ev_c) (eb_cons (ed_int ev_c) eb_nil)) (by decide)) eb_nil))))))) (by decide)) fun p2 xs2 H2 np2 e2 hp2 hx2 => ?_
    have hb2 := hb1.ex e2
    have hp1 : H2 p1 = some (.lst vs1) := e2 _ _ hp1'
    have hv2 := oda_ex e2 hv1
    have n1 : p1 ≠ b := box_ne hb np1
    have n2 : p2 ≠ b := box_ne hb1 np2
    refine (ek_take (K := K) (σ := [some (.ref b), some (.ref p1), some (.ref p2)]) (ta := tC (.int 2)) (j := 0) (E := E0) (wd := 2) rfl hb2 ev_c (by decide) (by decide)) _ fun v dv H3 hm hv hb3 x3 => ?_
    obtain ⟨r, rfl, r0, r1⟩ := hm
    obtain rfl := dt_int hv
    refine ⟨rfl, _, rfl, ?_⟩
    have eH2 : Ex H H2 := e1.trans e2
    by_cases hr0 : r = 0
    · rw [decide_eq_true (by rw [hr0])]
      refine iteT ?_
      refine ⟨_, rfl, ?_⟩
      refine (ek_take (K := K) (σ := [some (.ref b), some (.ref p1), some (.ref p2)]) (ta := tC (.int 13)) (j := 0) (E := E0) (wd := 13) rfl hb3 ev_c (by decide) (by decide)) _ fun v dv H4 hm hv hb4 x4 => ?_
      obtain ⟨k, rfl, k0, k1⟩ := hm
      obtain rfl := dt_int hv
      have x24 := x3.trans x4
      have hv4 := oda_bk x24 hv2
      obtain ⟨kn, rfl⟩ : ∃ kn : Nat, k = (kn : Int) := ⟨k.toNat, by omega⟩
      have hlen1 : vs1.length = 13 := oda_len hv1
      have hlt : kn < vs1.length := by omega
      obtain ⟨dd, hd1, hd2⟩ := oda_get hv4 (List.getElem?_eq_getElem hlt)
      refine ⟨p1, vs1, _, vs1[kn], rfl, rfl, sq_of (x24.bx p1 _ n1 hp1), atI_nat (List.getElem?_eq_getElem hlt), ?_⟩
      refine ⟨sz_of (by show 1 ≤ 100000; decide), fun l hl => ⟨sz_of (by show 2 ≤ 100000; decide), fun t ht => ?_⟩⟩
      have eL := Ex.new (o := .lst [.int 0]) hl
      have eT := Ex.new (o := .tup [vs1[kn], .ref l]) ht
      have fr : ∀ {a : Addr}, H4 a = none → H a = none := fun h => fresh_back eH2 (bk_free0 x24 hb4 h)
      exact q t _ l 0 _ (fr (fresh_back eL ht)) (fr hl) upd_same (eT _ _ upd_same) (.inl ⟨rfl, dd, od_ex (eL.trans eT) hd2, bad_no (List.mem_of_getElem? hd1)⟩) (hb4.ex (eL.trans eT)) ((bk_ex eH2).trans (x24.trans (bk_ex (eL.trans eT))))
    · rw [decide_eq_false (fun z => hr0 (V.int.inj z))]
      refine iteF ?_
      refine ⟨_, rfl, ?_⟩
      refine (ek_take (K := K) (σ := [some (.ref b), some (.ref p1), some (.ref p2)]) (ta := tC (.int 7)) (j := 0) (E := E0) (wd := 7) rfl hb3 ev_c (by decide) (by decide)) _ fun v dv H4 hm hv hb4 x4 => ?_
      obtain ⟨k, rfl, k0, k1⟩ := hm
      obtain rfl := dt_int hv
      have x24 := x3.trans x4
      have hx4 := dta_tx x24.tx hx2
      obtain ⟨kn, rfl⟩ : ∃ kn : Nat, k = (kn : Int) := ⟨k.toNat, by omega⟩
      have hlen2 : xs2.length = 7 := dta_len hx2
      have hlt : kn < xs2.length := by omega
      obtain ⟨dd, hd1, hd2⟩ := dta_get hx4 (List.getElem?_eq_getElem hlt)
      obtain ⟨m, d, rfl, hc, hg⟩ := great_yes (List.mem_of_getElem? hd1)
      refine ⟨p2, xs2, _, xs2[kn], rfl, rfl, sq_of (x24.bx p2 _ n2 hp2), atI_nat (List.getElem?_eq_getElem hlt), ?_⟩
      refine ⟨sz_of (by show 1 ≤ 100000; decide), fun l hl => ⟨sz_of (by show 2 ≤ 100000; decide), fun t ht => ?_⟩⟩
      have eL := Ex.new (o := .lst [.int 12]) hl
      have eT := Ex.new (o := .tup [xs2[kn], .ref l]) ht
      have fr : ∀ {a : Addr}, H4 a = none → H a = none := fun h => fresh_back eH2 (bk_free0 x24 hb4 h)
      exact q t _ l 12 _ (fr (fresh_back eL ht)) (fr hl) upd_same (eT _ _ upd_same) (.inr ⟨rfl, m, d, dt_ex (eL.trans eT) hd2, hc, hg⟩) (hb4.ex (eL.trans eT)) ((bk_ex eH2).trans (x24.trans (bk_ex (eL.trans eT))))
end
/-! ### a drawn lot -/
theorem bk_mut {b D : Addr} {H H' : Hp} {o : HO} (x : Bk b H H') (n : H D = none) : Bk b H (upd H' D o) := ⟨fun c u hc h => by rw [upd_ne (ne_of_none h n)]; exact x.bx c u hc h, fun c u r => by
  have nc : c ≠ D := fun z => by
    subst z
    rcases r with r | ⟨o, r⟩ <;> (rw [n] at r; cases r)
  rcases x.tx c u r with r | ⟨o, r⟩
  · exact .inl (by rw [upd_ne nc]; exact r)
  · exact .inr ⟨o, by rw [upd_ne nc]; exact r⟩⟩
def subs : List Int → List (List Int)
  | [] => [[]]
  | x :: r => (subs r).map (x :: ·) ++ subs r
theorem subs_of {l r : List Int} (h : l.Sublist r) : l ∈ subs r := by
  induction h with
  | slnil => exact List.mem_singleton.mpr rfl
  | cons a _ ih => exact List.mem_append_right _ ih
  | cons_cons a _ ih => exact List.mem_append_left _ (List.mem_map.mpr ⟨_, ih, rfl⟩)
section
variable {P : Program} {w : World} {K : PySem.W.Frag} {mg : Str → Option Value} {base : Heap}
/-! displays some of whose items change the box -/
def EvKA (K : PySem.W.Frag) (b : Addr) (ta : TA) (σ : L2.St) (H : Hp) (p : List PyData → Prop) : Prop := ∀ Q : List V → Hp → Prop, (∀ vs ds H2, p ds → DtAll K H2 vs ds → BoxAt H2 b → Bk b H H2 → Q vs H2) → ta σ H Q
theorem ka_nil {σ : L2.St} {H : Hp} {b : Addr} (hb : BoxAt H b) : EvKA K b tNil σ H (fun ds => ds = []) := fun Q q => q [] [] H rfl .nil hb (Bk.refl b H)
theorem ka_cons {σ : L2.St} {H : Hp} {b : Addr} {te : TE} {tr : TA} {p1 : PyData → Prop} {p2 : List PyData → Prop} (h : EvK K b te σ H p1) (hr : ∀ H', Bk b H H' → BoxAt H' b → EvKA K b tr σ H' p2) : EvKA K b (tCons te tr) σ H (fun ds => ∃ d r, ds = d :: r ∧ p1 d ∧ p2 r) := fun Q q =>
  h _ fun v d H2 h1 hv hb2 x2 => hr H2 x2 hb2 _ fun vs ds H3 h2 hvs hb3 x3 => q (v :: vs) (d :: ds) H3 ⟨d, ds, rfl, h1, h2⟩ (.cons (dt_tx x3.tx hv) hvs) hb3 (x2.trans x3)
theorem ka_pure {σ : L2.St} {H : Hp} {b : Addr} {ta : TA} {ds : List PyData} (h : EvB K ta σ H ds) (hb : BoxAt H b) : EvKA K b ta σ H (fun es => es = ds) := fun Q q => h H (Ex.refl H) _ fun vs H2 e2 hvs => q vs ds H2 rfl hvs (hb.ex e2) (bk_ex e2)
def EvG (K : PySem.W.Frag) (b : Addr) (te : TE) (σ : L2.St) (H : Hp) (p : List PyData → Prop) : Prop := ∀ Q : VK, (∀ q xs ds H2, p ds → H q = none → H2 q = some (.lst xs) → DtAll K H2 xs ds → BoxAt H2 b → Bk b H H2 → Q (.ref q) H2) → te σ H Q
theorem bk_free {b q : Addr} {H H' : Hp} (x : Bk b H H') (hb : BoxAt H' b) (n : H' q = none) : H q = none := by
  cases e : H q with
  | none => rfl
  | some o =>
    have nq : q ≠ b := box_ne hb n
    rw [x.bx q o nq e] at n
    cases n
theorem eg_lst {σ : L2.St} {H : Hp} {b : Addr} {ta : TA} {p : List PyData → Prop} (h : EvKA K b ta σ H p) (hp : ∀ ds, p ds → ds.length ≤ 1000) : EvG K b (tLst ta) σ H p := fun Q q =>
  h _ fun vs ds H2 h1 hvs hb2 x2 => ⟨sz_of (by rw [dta_len hvs]; have := hp ds h1; omega), fun r hr => q r vs ds _ h1 (bk_free x2 hb2 hr) upd_same (dta_ex (Ex.new hr) hvs) (hb2.ex (Ex.new hr)) (x2.trans (bk_ex (Ex.new hr)))⟩
theorem ka_imp {σ : L2.St} {H : Hp} {b : Addr} {ta : TA} {p p' : List PyData → Prop} (h : EvKA K b ta σ H p) (hi : ∀ ds, p ds → p' ds) : EvKA K b ta σ H p' := fun Q q => h Q fun vs ds H2 hp => q vs ds H2 (hi ds hp)
theorem eg_imp {σ : L2.St} {H : Hp} {b : Addr} {te : TE} {p p' : List PyData → Prop} (h : EvG K b te σ H p) (hi : ∀ ds, p ds → p' ds) : EvG K b te σ H p' := fun Q q => h Q fun r xs ds H2 hp => q r xs ds H2 (hi ds hp)
theorem q_forG {σ : L2.St} {H : Hp} {b : Addr} {D : Ends} {tl : TE} {g : TG} {tu tz : TS} {p : List PyData → Prop} (h : EvG K b tl σ H p)
    (k : ∀ ds H1, p ds → BoxAt H1 b → Bk b H H1 → ∃ Pv : Nat → L2.St → Hp → Prop, Pv 0 σ H1 ∧ (∀ i x d σ' H', Ex H1 H' → ds[i]? = some d → Dt K H' x d → Pv i σ' H' → g x σ' H' fun σ2 H2 => tu { D with nx := fun σ3 H3 => Ex H1 H3 ∧ Pv (i + 1) σ3 H3, ct := fun σ3 H3 => Ex H1 H3 ∧ Pv (i + 1) σ3 H3, bk := tz D } σ2 H2) ∧ (∀ σ' H', Ex H1 H' → Pv ds.length σ' H' → tz D σ' H')) : tSeq (tFor (iList K tl) g tu) tz D σ H :=
  h _ fun r xs ds H1 h1 nr hr hx hb1 x1 => by
    obtain ⟨Pv, h0, hs, hd⟩ := k ds H1 h1 hb1 x1
    exact ⟨r, rfl, ⟨xs, sq_of hr⟩, for_list (xs := xs) (fun i σ' H' => Ex H1 H' ∧ Pv i σ' H') ⟨Ex.refl _, h0⟩ (fun i σ' H' _ hw => sq_of (hw.1 r _ hr)) (fun i x σ' H' hi hw => by
      obtain ⟨d, h1, h2⟩ := dta_get (dta_ex hw.1 hx) hi
      exact hs i x d σ' H' hw.1 h1 h2 hw.2) (fun σ' H' hw => hd σ' H' hw.1 (by rw [← dta_len hx]; exact hw.2))⟩
end
/-! ### told(lambda: ..) != due -/
section
open LamX
variable {K : PySem.W.Frag} {b : Addr} {c : Bool} {H H' : Hp}
mutual
theorem od_n (x : ExtN H H') : ∀ {v : V} {d : PyData}, Od K b c H v d → Od K b c H' v d
  | _, _, .non => .non
  | _, _, .bl y => .bl y
  | _, _, .int i => .int i
  | _, _, .str y => .str y
  | _, _, .tup h a => .tup (tx_sq (tx_n x) h) (oda_n x a)
  | _, _, .lst n h m a => .lst n (lst_n x h) m (oda_n x a)
  | _, _, .dct n h => .dct n (x _ _ h fun _ z => nomatch z)
theorem oda_n (x : ExtN H H') : ∀ {vs : List V} {ds : List PyData}, OdAll K b c H vs ds → OdAll K b c H' vs ds
  | _, _, .nil => .nil
  | _, _, .cons h t => .cons (od_n x h) (oda_n x t)
end
end
section
variable {K : PySem.W.Frag} {σ : L2.St} {H : Hp} {T : List (Addr × Str)}
theorem et_toldR {CE : Addr} {Cs : List Addr} {tb : XK → TE} {DD l : Addr} {n i : Nat} {k : Int} (h : RaisesN tb σ H DD) (X : ExD K CE Cs DD n) (hi : σ[i]? = some (some (.ref l))) (hl : H l = some (.lst [.int k])) : EvTN T (tTest (tOp (rNeD K) (LamX.tLam T (TTtold K CE Cs) tb) (tVar i))) σ H (!decide ((n : Int) = k)) := fun H1 n1 Q q =>
  ⟨n1.t, fun H2 x2 t2 => h H2 (n1.x.trans x2) _ _ fun H3 e3 => ⟨DD, n, rfl, rfl, X.c, X.m, X.v, X.o, X.l, fun p H4 np e4 hp => ⟨.ref l, hi,
    .list [.int (n : Int)], .list [.int k], .lst (sq_of hp) (.cons (.int _) .nil), .lst (sq_of (e4 _ _ (e3 _ _ (lst_n x2 (lst_n n1.x hl))))) (.cons (.int _) .nil), ints_shaped [(n : Int)], ints_shaped [k], _, rfl, by
      have e5 : PyData.eqv (.list [.int (n : Int)]) (.list [.int k]) = decide ((n : Int) = k) := by
        have e6 : PyData.eqv (.list [.int (n : Int)]) (.list [.int k]) = (((n : Int) == k) && true) := by simp only [PyData.eqv, PyData.eqvAll]
        rw [e6, Bool.and_true]
        rfl
      rw [e5]
      exact q _ ⟨x2.trans (nx_ex (e3.trans e4)), (t2.ext (e3.trans e4))⟩⟩⟩⟩
theorem ev_repF {te : TE} {ds : List PyData} (h : EvF K te σ H ds) (hs : showOk (.list ds)) (hd : (PyData.list ds).hasDict = false) : Ev (tCB (rRep K) (tCons te tNil)) σ H (.str (PyData.list ds).shown) := fun H1 e Q q =>
  h H1 e _ fun p xs H2 np e2 hp hx => ⟨p + 1, false, .ref p, .list ds, rfl, .lst (Nat.ne_of_lt (Nat.lt_succ_self p)) hp (fun z => nomatch z) (oda_dt hx), .inr hd, hs, q H2 e2⟩
theorem ev_repL {te : TE} {p : Addr} {xs : List V} {ds : List PyData} (h : Ev te σ H (.ref p)) (hp : H p = some (.lst xs)) (hx : DtAll K H xs ds) (hs : showOk (.list ds)) (hd : (PyData.list ds).hasDict = false) : Ev (tCB (rRep K) (tCons te tNil)) σ H (.str (PyData.list ds).shown) := fun H1 e Q q =>
  h H1 e _ fun H2 e2 => ⟨p + 1, false, .ref p, .list ds, rfl, .lst (Nat.ne_of_lt (Nat.lt_succ_self p)) ((e.trans e2) _ _ hp) (fun z => nomatch z) (oda_dt (dta_ex (e.trans e2) hx)), .inr hd, hs, q H2 e2⟩
theorem ek_curve {b : Addr} {j : Nat} {E : XK} (hj : σ[j]? = some (some (.ref b))) (hb : BoxAt H b) : EvK K b (tCall (spCurve K) [] E (tCons (tVar j) tNil)) σ H (fun x => ∃ m d, x = curveD m d ∧ okV m d) := fun Q q =>
  ⟨_, hj, b, rfl, hb, fun v m d H2 hV hd hb2 x2 => q v (curveD m d) H2 ⟨m, d, rfl, hV⟩ hd hb2 x2⟩
theorem s_forG {b : Addr} {D : Ends} {tl : TE} {g : TG} {tu : TS} {p : List PyData → Prop} (h : EvG K b tl σ H p)
    (k : ∀ ds H1, p ds → BoxAt H1 b → Bk b H H1 → ∃ Pv : Nat → L2.St → Hp → Prop, Pv 0 σ H1 ∧ (∀ i x d σ' H', Ex H1 H' → ds[i]? = some d → Dt K H' x d → Pv i σ' H' → g x σ' H' fun σ2 H2 => tu { D with nx := fun σ3 H3 => Ex H1 H3 ∧ Pv (i + 1) σ3 H3, ct := fun σ3 H3 => Ex H1 H3 ∧ Pv (i + 1) σ3 H3, bk := D.nx } σ2 H2) ∧ (∀ σ' H', Ex H1 H' → Pv ds.length σ' H' → D.nx σ' H')) : tFor (iList K tl) g tu D σ H :=
  h _ fun r xs ds H1 h1 nr hr hx hb1 x1 => by
    obtain ⟨Pv, h0, hs, hd⟩ := k ds H1 h1 hb1 x1
    exact ⟨r, rfl, ⟨xs, sq_of hr⟩, for_list (xs := xs) (fun i σ' H' => Ex H1 H' ∧ Pv i σ' H') ⟨Ex.refl _, h0⟩ (fun i σ' H' _ hw => sq_of (hw.1 r _ hr)) (fun i x σ' H' hi hw => by
      obtain ⟨d, h1, h2⟩ := dta_get (dta_ex hw.1 hx) hi
      exact hs i x d σ' H' hw.1 h1 h2 hw.2) (fun σ' H' hw => hd σ' H' hw.1 (by rw [← dta_len hx]; exact hw.2))⟩
end
theorem tabs_bk {T : List (Addr × Str)} {b : Addr} {H H' : Hp} (t : LamX.Tabs T H) (x : Bk b H H') (hb : BoxAt H b) : LamX.Tabs T H' := fun p hp => by
  obtain ⟨ps, h1, h2, h3⟩ := t p hp
  obtain ⟨z, _, hz⟩ := hb
  have ne : ∀ {a : Addr} {o : HO}, H a = some o → (∀ xs, o ≠ .lst xs) → a ≠ b := fun {a o} h n e => by
    subst e
    rw [hz] at h
    exact n _ (Option.some.inj h).symm
  refine ⟨ps, x.bx _ _ (ne h1 fun xs z => nomatch z) h1, h2, fun pos cv hc => ?_⟩
  obtain ⟨c, e1, e2⟩ := h3 pos cv hc
  exact ⟨c, e1, x.bx _ _ (ne e2 fun xs z => nomatch z) e2⟩
/-- the tables grow, then the box changes -/
theorem nx_bk {T : List (Addr × Str)} {b : Addr} {Hs H H' : Hp} (n : Nx T Hs H) (x : Bk b H H') (nb : Hs b = none) (hb : BoxAt H b) : Nx T Hs H' :=
  ⟨fun c o h z => x.bx c o (ne_of_none h nb) (n.x c o h z), tabs_bk n.t x hb⟩
/-- the name of a lambda in the law -/
abbrev lamQ : Str := (("law" : Str) ++ ".<locals>.") ++ "<lambda>"
abbrev tabL (PL : Addr) : List (Addr × Str) := [(PL, lamQ)]
def ends2 (m d : Int) : PyData := .list [coverD (endsL m d 0), coverD (endsL m d 1)]
def ok44 (m d : Int) : Bool := !(decide (m ≤ 7) && decide (d ≤ 4)) || (decide (lowF m (d + 1) = endsL m d 0) && decide (highF m (d + 1) = endsL m d 1) && okT (ends2 m d) && !(ends2 m d).hasDict)
def all44 : Bool := curvesAll.all fun p => ok44 p.1 p.2
theorem all_44 : all44 = true := by decide +kernel
section
variable {P : Program} {w : World} {K : PySem.W.Frag} {mg : Str → Option Value} {base : Heap}
theorem rz_cov (L : All K mg) {R : Int → Int → Hp → VK → Prop} {σ : L2.St} {H : Hp} {j : Nat} {b : Addr} {v : V} {n : Int} (hj : σ[j]? = some (some v)) (h : BadAt K b H v n) : ∃ k C, (n = 0 ∧ k = 0 ∧ C = L.C_NoCurve ∨ n = 12 ∧ k = 12 ∧ C = L.C_TooMany) ∧ RaisesN (fun E => tCall (sp_cov L R) [] E (tCons (tVar j) tNil)) σ H C := by
  rcases h with ⟨rfl, d, h2, h3⟩ | ⟨rfl, m, d, h2, h3, h4⟩
  · refine ⟨0, _, .inl ⟨rfl, rfl, rfl⟩, fun H1 x E Q k => ⟨v, hj, v, rfl, .inl ⟨?_, k⟩⟩⟩
    have := th_of2 (od_n x h2)
    rw [h3] at this
    exact this
  · exact ⟨12, _, .inr ⟨rfl, rfl, rfl⟩, fun H1 x E Q k => ⟨v, hj, v, rfl, .inr (.inl ⟨m, d, dt_n x h2, h3, h4, k⟩)⟩⟩
theorem ed_cov (L : All K mg) {f : Int → Int → PyData} {σ : L2.St} {H : Hp} {ta : TE} {m d : Int} (h : EvD K ta σ H (curveD m d)) (hV : okV m d) : EvD K (tCall (sp_cov L fun m d H Q => ∀ v H2, Ex H H2 → Dt K H2 v (f m d) → Q v H2) [] E0 (tCons ta tNil)) σ H (f m d) := fun H1 e Q q =>
  h H1 e _ fun v H2 e2 hv => ⟨v, rfl, .inr (.inr ⟨m, d, hv, hV, fun v H3 e3 h3 => q v H3 (e2.trans e3) h3⟩)⟩
theorem ok_law (L : All K mg) {f c PL CE : Addr} {Cs : List Addr} {fd : FuncData} (D : Dc K mg "law" s_law ["_law_script"] f fd c) (TBG : GxR.TabB base mg c PL) (CC : Cls15 mg Cs) (hCE : mg "CurveError" = some (.ref CE)) (X_NoCurve : ExD K CE Cs L.C_NoCurve 0) (X_TooMany : ExD K CE Cs L.C_TooMany 12) : FnG P w K mg base 9 f fd ["_law_script"] (spLawY K [] [PL]) := by
  have B := L.B
  have D_lowest := L.D_lowest
  have G_lowest := okN_lowest (P := P) (w := w) (base := base) L (k := 0)
  have D_highest := L.D_highest
  have G_highest := okN_highest (P := P) (w := w) (base := base) L (k := 0)
  have D__law_box := L.D__law_box
  have G__law_box := ok__law_box (P := P) (w := w) (base := base) L (k := 0)
  have D__law_take := L.D__law_take
  have G__law_take := ok__law_take (P := P) (w := w) (base := base) L (k := 0)
  have D__law_told := L.D__law_told
  have D__law_classes := L.D__law_classes
  have D__law_curve := L.D__law_curve
  have G__law_curve := ok__law_curve (P := P) (w := w) (base := base) L (k := 0)
  have D__law_end := L.D__law_end
  have G__law_end := ok__law_end (P := P) (w := w) (base := base) L (k := 0)
  have D__law_bad_curve := L.D__law_bad_curve
  have G__law_bad_curve := ok__law_bad_curve (P := P) (w := w) (base := base) L (k := 0)
  have TBL : LamX.TabB base mg c PL := ⟨TBG.code, TBG.bm, TBG.gP⟩
  refine D.okG sc_law (fun vs H Q E h => ?_) (fun A outer s H vs Q E gd hr h => ?_)
  · obtain ⟨a, ns, rfl, _⟩ := h
    rfl
  · obtain ⟨a, ns, rfl, hS, hlen, hPs, htbl, q⟩ := h
    have hT0 : LamX.Tabs (tabL PL) H := fun p hp => by
      rw [List.mem_singleton.mp hp]
      exact LamX.TabS.nil (htbl PL (by simp))
    refine ⟨_, (pss_cons (ps_for PassesOwn.never rfl (pi_range1 (by rfl) B.range_ (pa_cons (pe_callB (call_max2 rfl) (by rfl) B.max_ (by decide +kernel) (pa_cons pe_int (pa_cons (pe_callB (call_min2 rfl) (by rfl) B.min_ (by decide +kernel) (pa_cons (pe_callB (show CallR _ _ (rLenS K) from call_len_seq) (by rfl) B.len_ (by decide +kernel) (pa_cons (pv 0) pa_nil)) (pa_cons pe_int pa_nil))) pa_nil))) pa_nil)) (pg_name (i := 1) sc_law.nd rfl (.inl rfl))  (pss_cons (ps_set (i := 2) sc_law.nd rfl (.inl rfl) (pe_call G__law_box (hr.mono (by omega)) (by rfl) D__law_box.g D__law_box.F.kp D__law_box.b .nil pass0 (pa_cons (pv 0) (pa_cons (pv 1) pa_nil)))) (pss_cons (ps_asg (pe_call G__law_bad_curve (hr.mono (by omega)) (by rfl) D__law_bad_curve.g D__law_bad_curve.F.kp D__law_bad_curve.b .nil pass0 (pa_cons (pv 2) pa_nil)) (pg_tup (by rfl) (pgs_cons (pg_name (i := 3) sc_law.nd rfl (.inr rfl)) (pgs_cons (pg_name (i := 4) sc_law.nd rfl (.inl rfl)) pgs_nil)))) (pss_cons (ps_if (pt_cmpR (show OpR _ _ (rNeD K) from op_neD hr.units) (pe_lamN (T := tabL PL) (k := 6) D__law_told.F (by rfl) D__law_told.g D__law_told.b sc__law_told rfl (.inl rfl) (fun cdv => told_gives B D__law_classes CC hCE (fun env => L2H.RoomH.deeper (L2H.RoomH.mono (L2H.roomH_of hr) (by omega)) env)) TBL rfl (List.mem_singleton.mpr rfl) (fun p hp _ => by rw [List.mem_singleton.mp hp]; rfl) (hr.mono (by omega)) (LamX.lamS_by (sc := defScope s_law) (by decide +kernel)) rfl (fun _ _ _ _ _ => rfl) (fun A outer s H E f c' hr2 => (pe_call (E := E) G_lowest (hr2.mono (by omega)) (by rfl) D_lowest.g D_lowest.F.kp D_lowest.b .nil (L2N.passes_call (L2N.takes_of rfl rfl rfl rfl) (fun _ _ _ _ h => h)) (pa_cons (pv 3) pa_nil)))) (pv 4) (nomark _))  (pss_one (ps_ret pe_bl))  pss_nil) (pss_cons (ps_if (pt_cmpR (show OpR _ _ (rNeD K) from op_neD hr.units) (pe_lamN (T := tabL PL) (k := 6) D__law_told.F (by rfl) D__law_told.g D__law_told.b sc__law_told rfl (.inl rfl) (fun cdv => told_gives B D__law_classes CC hCE (fun env => L2H.RoomH.deeper (L2H.RoomH.mono (L2H.roomH_of hr) (by omega)) env)) TBL rfl (List.mem_singleton.mpr rfl) (fun p hp _ => by rw [List.mem_singleton.mp hp]; rfl) (hr.mono (by omega)) (LamX.lamS_by (sc := defScope s_law) (by decide +kernel)) rfl (fun _ _ _ _ _ => rfl) (fun A outer s H E f c' hr2 => (pe_call (E := E) G_highest (hr2.mono (by omega)) (by rfl) D_highest.g D_highest.F.kp D_highest.b .nil (L2N.passes_call (L2N.takes_of rfl rfl rfl rfl) (fun _ _ _ _ h => h)) (pa_cons (pv 3) pa_nil)))) (pv 4) (nomark _))  (pss_one (ps_ret pe_bl))  pss_nil) (pss_cons (ps_set (i := 5) sc_law.nd rfl (.inl rfl) (pe_op op_add pe_int (pe_call G__law_take (hr.mono (by omega)) (by rfl) D__law_take.g D__law_take.F.kp D__law_take.b .nil pass0 (pa_cons (pv 2) (pa_cons pe_int pa_nil))))) (pss_one (ps_for PassesOwn.never rfl (pi_list (pe_lst (pa_cons (pe_call G__law_curve (hr.mono (by omega)) (by rfl) D__law_curve.g D__law_curve.F.kp D__law_curve.b .nil pass0 (pa_cons (pv 2) pa_nil)) (pa_cons (pe_tup (pa_cons pe_int (pa_cons (pv 5) pa_nil))) (pa_cons (pe_tup (pa_cons (pe_op op_add (pv 5) pe_int) (pa_cons (pv 5) pa_nil))) (pa_cons (pe_tup (pa_cons (pe_op op_add (pv 5) pe_int) (pa_cons (pv 5) pa_nil))) pa_nil)))))) (pg_name (i := 6) sc_law.nd rfl (.inl rfl))  (pss_cons (ps_set (i := 7) sc_law.nd rfl (.inl rfl) (pe_lst (pa_cons (pe_call (E := E0) G_lowest (hr.mono (by omega)) (by rfl) D_lowest.g D_lowest.F.kp D_lowest.b .nil passN0 (pa_cons (pv 6) pa_nil)) (pa_cons (pe_call (E := E0) G_highest (hr.mono (by omega)) (by rfl) D_highest.g D_highest.F.kp D_highest.b .nil passN0 (pa_cons (pv 6) pa_nil)) pa_nil)))) (pss_one (ps_if (pt_cmpR op_ne (pe_callB (show CallR _ _ (rRep K) from call_rep gd hr.units) (by rfl) B.repr_ (by decide +kernel) (pa_cons (pv 7) pa_nil)) (pe_callB (show CallR _ _ (rRep K) from call_rep gd hr.units) (by rfl) B.repr_ (by decide +kernel) (pa_cons (pe_lst (pa_cons (pe_call G__law_end (hr.mono (by omega)) (by rfl) D__law_end.g D__law_end.F.kp D__law_end.b .nil pass0 (pa_cons (pv 6) (pa_cons pe_int pa_nil))) (pa_cons (pe_call G__law_end (hr.mono (by omega)) (by rfl) D__law_end.g D__law_end.F.kp D__law_end.b .nil pass0 (pa_cons (pv 6) (pa_cons pe_int pa_nil))) pa_nil))) pa_nil)) (nomark _))  (pss_one (ps_ret pe_bl))  pss_nil))))))))))) (pss_one (ps_ret pe_bl))), ?_⟩
    obtain ⟨n, n0, n1, hn⟩ := ev_cells (K := K) (H := H) (σ := L2.start N_law [.ref a]) (ta := tVar 0) (c := 4) (ev_var rfl) hS (by decide)
    refine q_forR1 (n := n) (ea_cons hn ea_nil) ⟨by omega, by omega⟩ (fun i σ' H' => ∃ y1 y2 y3 y4 y5 y6 y7 : Option V, σ' = [some (.ref a), y1, y2, y3, y4, y5, y6, y7] ∧ Nx (tabL PL) H H') (fun H2 e3 => ⟨_, _, _, _, _, _, _, rfl, nx_of hT0 e3⟩) ?_ ?_
    · rintro i σ' Hs hi ⟨y1, y2, y3, y4, y5, y6, y7, rfl, es⟩
      refine q_box (ev_var rfl) (sql_n es.x hS) (ev_var rfl) (by omega) (by omega) fun b H2 nb e2 hb => ?_
      refine ⟨_, rfl, b, rfl, hb, fun t v l nn H3 nt nl ht hl hbad hb3 x3 => ⟨t, _, rfl, st_of ht, rfl, _, _, rfl, _, _, rfl, rfl, ?_⟩⟩
      have e3 : Ex Hs H3 := ex_bx e2 x3 nb
      have nx3 := es.ex e3
      have hlb : l ≠ b := box_ne hb nl
      obtain ⟨k1, C1, hC1, hz1⟩ := rz_cov L (R := fun m d H Q => ∀ v H2, Ex H H2 → Dt K H2 v (coverD (lowF m (d + 1))) → Q v H2) (σ := [some (.ref a), some (.int (i : Int)), some (.ref b), some v, some (.ref l), y5, y6, y7]) (j := 3) rfl hbad
      have hX1 : ExD K CE Cs C1 k1 := by
        rcases hC1 with ⟨_, rfl, rfl⟩ | ⟨_, rfl, rfl⟩
        · exact X_NoCurve
        · exact X_TooMany
      have hk1 : (k1 : Int) = nn := by
        rcases hC1 with ⟨rfl, rfl, _⟩ | ⟨rfl, rfl, _⟩ <;> rfl
      refine q_whenN (T := tabL PL) nx3.t (et_toldR hz1 hX1 rfl hl) (fun hb => by rw [hk1] at hb; simp at hb) (fun _ H4 n4 => ?_)
      have hbad4 : BadAt K b H4 v nn := by
        rcases hbad with ⟨h1, d, h2, h3⟩ | ⟨h1, m, d, h2, h3⟩
        · exact .inl ⟨h1, d, od_n n4.x h2, h3⟩
        · exact .inr ⟨h1, m, d, dt_n n4.x h2, h3⟩
      obtain ⟨k2, C2, hC2, hz2⟩ := rz_cov L (R := fun m d H Q => ∀ v H2, Ex H H2 → Dt K H2 v (coverD (highF m (d + 1))) → Q v H2) (σ := [some (.ref a), some (.int (i : Int)), some (.ref b), some v, some (.ref l), y5, y6, y7]) (j := 3) rfl hbad4
      have hX2 : ExD K CE Cs C2 k2 := by
        rcases hC2 with ⟨_, rfl, rfl⟩ | ⟨_, rfl, rfl⟩
        · exact X_NoCurve
        · exact X_TooMany
      have hk2 : (k2 : Int) = nn := by
        rcases hC2 with ⟨rfl, rfl, _⟩ | ⟨rfl, rfl, _⟩ <;> rfl
      refine q_whenN (T := tabL PL) n4.t (et_toldR hz2 hX2 rfl (lst_n n4.x hl)) (fun hb => by rw [hk2] at hb; simp at hb) (fun _ H5 n5 => ?_)
      have n35 := n4.trans n5
      have hb5 := box_n n35.x hb3
      refine q_asgK (K := K) (b := b) (ek_opI (f := fun i j => i + j) ev_c fun H6 e6 => ek_take rfl (hb5.ex e6) ev_c (by decide) (by decide)) fun dv dd H6 hm hv hb6 x6 => ?_
      obtain ⟨rr, rfl, r0, r1⟩ := hm
      obtain rfl := dt_int hv
      have nb5 : Hs b = none := nb
      refine s_forG (K := K) (b := b) (p := fun ds => ∃ d r, ds = d :: r ∧ (∃ m n, d = curveD m n ∧ okV m n) ∧ r = [curveD 7 (1 + rr), curveD (1 + rr + 1) (1 + rr), curveD (1 + rr + 2) (1 + rr)]) (eg_lst (ka_cons (ek_curve rfl hb6) fun H7 x7 hb7 => ka_pure (eb_cons (ed_tup (eb_cons (ed_int ev_c) (eb_cons (ed_int (ev_var rfl)) eb_nil)) (by show 2 ≤ 100000; decide)) (eb_cons (ed_tup (eb_cons (ed_int (ev_op (ev_var rfl) ev_c rv_I0)) (eb_cons (ed_int (ev_var rfl)) eb_nil)) (by show 2 ≤ 100000; decide)) (eb_cons (ed_tup (eb_cons (ed_int (ev_op (ev_var rfl) ev_c rv_I0)) (eb_cons (ed_int (ev_var rfl)) eb_nil)) (by show 2 ≤ 100000; decide)) eb_nil))) hb7) (fun ds hds => by obtain ⟨d, r, rfl, _, rfl⟩ := hds; show 4 ≤ 1000; decide)) fun ds H7 hds hb7 x7 => ?_
      have hall : ∀ (u : Nat) (dx : PyData), ds[u]? = some dx → ∃ m d, dx = curveD m d ∧ okV m d := fun u dx hu => by
        obtain ⟨d0, r', rfl, hd0, rfl⟩ := hds
        rcases List.mem_cons.mp (List.mem_of_getElem? hu) with rfl | hu
        · exact hd0
        simp only [List.mem_cons, List.not_mem_nil, or_false] at hu
        rcases hu with rfl | rfl | rfl <;> exact ⟨_, _, rfl, ⟨by omega, by omega, by omega, by omega⟩, by omega, by omega⟩
      have nxs : Nx (tabL PL) Hs H5 := ⟨(nx_ex e3).trans n35.x, n35.t⟩
      have nx7 : Nx (tabL PL) H H7 := es.trans (nx_bk nxs (x6.trans x7) nb hb5)
      refine ⟨fun _ σ' H' => ∃ y6 y7 : Option V, σ' = [some (.ref a), some (.int (i : Int)), some (.ref b), some v, some (.ref l), some (.int (1 + rr)), y6, y7], ⟨_, _, rfl⟩, ?_, ?_⟩
      · rintro u x dx σ' H8 e8 hu hx ⟨y6, y7, rfl⟩
        obtain ⟨m, d, rfl, hV⟩ := hall u dx hu
        obtain ⟨hc, d4, m7⟩ := id hV
        have hok : ok44 m d = true := curve_all all_44 hc
        unfold ok44 at hok
        rw [decide_eq_true m7, decide_eq_true d4] at hok
        simp only [Bool.and_self, Bool.not_true, Bool.false_or, Bool.and_eq_true, decide_eq_true_eq] at hok
        obtain ⟨⟨⟨k1, k2⟩, k3⟩, k4⟩ := hok
        have k4 : (ends2 m d).hasDict = false := by simpa using k4
        refine q_asgF (K := K) (ds := [coverD (endsL m d 0), coverD (endsL m d 1)]) (ef_lst (eb_cons (ed_is (ed_cov L (f := fun m d => coverD (lowF m (d + 1))) (ed_var rfl hx) hV) (by rw [k1])) (eb_cons (ed_is (ed_cov L (f := fun m d => coverD (highF m (d + 1))) (ed_var rfl hx) hV) (by rw [k2])) eb_nil)) (by show 2 ≤ 100000; decide)) fun p7 xs7 H9 np7 e9 hp7 hx7 => ?_
        refine s_when (b := false) (et_is (et_test (ev_op (ev_repL (K := K) (ev_var rfl) hp7 hx7 (show_of k3) k4) (ev_repF (K := K) (ds := [coverD (endsL m d 0), coverD (endsL m d 1)]) (ef_lst (eb_cons (ev__law_end (K := K) (eb_cons (ed_var rfl (dt_ex e9 hx)) (eb_cons (ed_int ev_c) eb_nil)) (by first | assumption | omega | (refine ⟨?_, ?_⟩ <;> first | assumption | omega) | (refine ⟨?_, ?_, ?_⟩ <;> first | assumption | omega) | (refine ⟨?_, ?_, ?_, ?_⟩ <;> first | assumption | omega) | (repeat' apply And.intro) <;> first | assumption | omega)) (eb_cons (ev__law_end (K := K) (eb_cons (ed_var rfl (dt_ex e9 hx)) (eb_cons (ed_int ev_c) eb_nil)) (by first | assumption | omega | (refine ⟨?_, ?_⟩ <;> first | assumption | omega) | (refine ⟨?_, ?_, ?_⟩ <;> first | assumption | omega) | (refine ⟨?_, ?_, ?_, ?_⟩ <;> first | assumption | omega) | (repeat' apply And.intro) <;> first | assumption | omega)) eb_nil)) (by show 2 ≤ 100000; decide)) (show_of k3) k4) (rv_ne rfl))) ?_) (fun hb => by cases hb) (fun _ H10 e10 => ⟨(e8.trans e9).trans e10, _, _, rfl⟩)
        simp
      · rintro σ' H8 e8 ⟨y6, y7, rfl⟩
        exact ⟨_, _, _, _, _, _, _, rfl, nx7.ex e8⟩
    · rintro σ' H' ⟨y1, y2, y3, y4, y5, y6, y7, rfl, es⟩
      exact s_ret ev_c fun H2 e3 => q H2 (fun p hp => nomatch hp)
end
theorem onlyAt_mk {K : PySem.W.Frag} {D : Addr} {n : Nat} {c0 c1 c2 c3 c4 c5 c6 c7 c8 c9 c10 c11 c12 c13 c14 : Addr} {b0 b1 b2 b3 b4 b5 b6 b7 b8 b9 b10 b11 b12 b13 b14 : Bool} (h0 : PySem.W.kitOne K (.ref D) (.ref c0) = some b0) (h1 : PySem.W.kitOne K (.ref D) (.ref c1) = some b1) (h2 : PySem.W.kitOne K (.ref D) (.ref c2) = some b2) (h3 : PySem.W.kitOne K (.ref D) (.ref c3) = some b3) (h4 : PySem.W.kitOne K (.ref D) (.ref c4) = some b4) (h5 : PySem.W.kitOne K (.ref D) (.ref c5) = some b5) (h6 : PySem.W.kitOne K (.ref D) (.ref c6) = some b6) (h7 : PySem.W.kitOne K (.ref D) (.ref c7) = some b7) (h8 : PySem.W.kitOne K (.ref D) (.ref c8) = some b8) (h9 : PySem.W.kitOne K (.ref D) (.ref c9) = some b9) (h10 : PySem.W.kitOne K (.ref D) (.ref c10) = some b10) (h11 : PySem.W.kitOne K (.ref D) (.ref c11) = some b11) (h12 : PySem.W.kitOne K (.ref D) (.ref c12) = some b12) (h13 : PySem.W.kitOne K (.ref D) (.ref c13) = some b13) (h14 : PySem.W.kitOne K (.ref D) (.ref c14) = some b14) (e0 : b0 = decide (0 = n)) (e1 : b1 = decide (1 = n)) (e2 : b2 = decide (2 = n)) (e3 : b3 = decide (3 = n)) (e4 : b4 = decide (4 = n)) (e5 : b5 = decide (5 = n)) (e6 : b6 = decide (6 = n)) (e7 : b7 = decide (7 = n)) (e8 : b8 = decide (8 = n)) (e9 : b9 = decide (9 = n)) (e10 : b10 = decide (10 = n)) (e11 : b11 = decide (11 = n)) (e12 : b12 = decide (12 = n)) (e13 : b13 = decide (13 = n)) (e14 : b14 = decide (14 = n)) : OnlyAt K D [c0, c1, c2, c3, c4, c5, c6, c7, c8, c9, c10, c11, c12, c13, c14] n := by
  intro i C h
  match i, h with
  | 0, h => cases h; rw [h0, e0]
  | 1, h => cases h; rw [h1, e1]
  | 2, h => cases h; rw [h2, e2]
  | 3, h => cases h; rw [h3, e3]
  | 4, h => cases h; rw [h4, e4]
  | 5, h => cases h; rw [h5, e5]
  | 6, h => cases h; rw [h6, e6]
  | 7, h => cases h; rw [h7, e7]
  | 8, h => cases h; rw [h8, e8]
  | 9, h => cases h; rw [h9, e9]
  | 10, h => cases h; rw [h10, e10]
  | 11, h => cases h; rw [h11, e11]
  | 12, h => cases h; rw [h12, e12]
  | 13, h => cases h; rw [h13, e13]
  | 14, h => cases h; rw [h14, e14]
  | i + 15, h => simp at h
theorem all_mk {l : PySem.W.OpenLaw} {w : World} {K : PySem.W.Frag} {h : Heap} {mg : Str → Option Value} {fa f18 f19 f20 f21 f22 f23 f24 f28 f29 f33 f34 f35 f37 f38 f39 f40 f41 f42 f43 f44 f45 f50 f52 cc52 pp52 C_CurveError C_NoCurve C_NoLot C_NoPane C_NoFace C_NoCell C_NoCorner C_NoNumber C_NoCounts C_NoCover C_NoTurn C_NoCut C_NoOrder C_TooMany C_NoText C_NoLine : Addr} (X : K.In h) (G : h.Ns mainGlobals mg) (hfa : mg "law" = some (.ref fa)) (O : ∀ nm ∈ (["law"] : List Str), ∀ f, mg nm = some (.ref f) → LamX.OwnTab K f h)
    {od18 an18 od19 an19 od20 an20 od21 an21 od22 an22 od23 an23 od24 an24 od28 an28 od29 an29 od33 an33 od34 an34 od35 an35 od37 an37 od38 an38 od39 an39 od40 an40 od41 an41 od42 an42 od43 an43 od44 an44 od45 an45 od50 an50 od52 an52 gd52 : Option Addr} {sl18 sl19 sl20 sl21 sl22 sl23 sl24 sl28 sl29 sl33 sl34 sl35 sl37 sl38 sl39 sl40 sl41 sl42 sl43 sl44 sl45 sl50 sl52 gs52 : Array (Option Value)} {gv52 : Array Value} {oc18 kV18 dc18 pm18 cd18 ct18 oc19 kV19 dc19 pm19 cd19 ct19 oc20 kV20 dc20 pm20 cd20 ct20 oc21 kV21 dc21 pm21 cd21 ct21 oc22 kV22 dc22 pm22 cd22 ct22 oc23 kV23 dc23 pm23 cd23 ct23 oc24 kV24 dc24 pm24 cd24 ct24 oc28 kV28 dc28 pm28 cd28 ct28 oc29 kV29 dc29 pm29 cd29 ct29 oc33 kV33 dc33 pm33 cd33 ct33 oc34 kV34 dc34 pm34 cd34 ct34 oc35 kV35 dc35 pm35 cd35 ct35 oc37 kV37 dc37 pm37 cd37 ct37 oc38 kV38 dc38 pm38 cd38 ct38 oc39 kV39 dc39 pm39 cd39 ct39 oc40 kV40 dc40 pm40 cd40 ct40 oc41 kV41 dc41 pm41 cd41 ct41 oc42 kV42 dc42 pm42 cd42 ct42 oc43 kV43 dc43 pm43 cd43 ct43 oc44 kV44 dc44 pm44 cd44 ct44 oc45 kV45 dc45 pm45 cd45 ct45 oc50 kV50 dc50 pm50 cd50 ct50 oc52 kV52 dc52 pm52 ct52 ge52 : Value} {tk_MOST_DEEP tk_MOST_CORNERS tk_MOST_COVERED tk_MOST_DEEP_COVERED : Tok}
    (a18 : PySem.W.nsIn K mainGlobals "is_whole" = some (some (.ref f18))) (l18 : K.lookup f18 = some ⟨oc18, od18, .func (PySem.W.fnOf "is_whole" "is_whole" (defArgs s_is_whole) (defBody s_is_whole) (defScope s_is_whole) .none kV18 dc18 pm18 an18 cd18 ct18), sl18⟩) (c18 : PySem.W.codeIn K cd18 "is_whole" = true) (k18 : PySem.W.keepIn K (.ref f18) = true)
    (a19 : PySem.W.nsIn K mainGlobals "next_number" = some (some (.ref f19))) (l19 : K.lookup f19 = some ⟨oc19, od19, .func (PySem.W.fnOf "next_number" "next_number" (defArgs s_next_number) (defBody s_next_number) (defScope s_next_number) .none kV19 dc19 pm19 an19 cd19 ct19), sl19⟩) (c19 : PySem.W.codeIn K cd19 "next_number" = true) (k19 : PySem.W.keepIn K (.ref f19) = true)
    (a20 : PySem.W.nsIn K mainGlobals "choices" = some (some (.ref f20))) (l20 : K.lookup f20 = some ⟨oc20, od20, .func (PySem.W.fnOf "choices" "choices" (defArgs s_choices) (defBody s_choices) (defScope s_choices) .none kV20 dc20 pm20 an20 cd20 ct20), sl20⟩) (c20 : PySem.W.codeIn K cd20 "choices" = true) (k20 : PySem.W.keepIn K (.ref f20) = true)
    (a21 : PySem.W.nsIn K mainGlobals "paired" = some (some (.ref f21))) (l21 : K.lookup f21 = some ⟨oc21, od21, .func (PySem.W.fnOf "paired" "paired" (defArgs s_paired) (defBody s_paired) (defScope s_paired) .none kV21 dc21 pm21 an21 cd21 ct21), sl21⟩) (c21 : PySem.W.codeIn K cd21 "paired" = true) (k21 : PySem.W.keepIn K (.ref f21) = true)
    (a22 : PySem.W.nsIn K mainGlobals "ended" = some (some (.ref f22))) (l22 : K.lookup f22 = some ⟨oc22, od22, .func (PySem.W.fnOf "ended" "ended" (defArgs s_ended) (defBody s_ended) (defScope s_ended) .none kV22 dc22 pm22 an22 cd22 ct22), sl22⟩) (c22 : PySem.W.codeIn K cd22 "ended" = true) (k22 : PySem.W.keepIn K (.ref f22) = true)
    (a23 : PySem.W.nsIn K mainGlobals "low_lots" = some (some (.ref f23))) (l23 : K.lookup f23 = some ⟨oc23, od23, .func (PySem.W.fnOf "low_lots" "low_lots" (defArgs s_low_lots) (defBody s_low_lots) (defScope s_low_lots) .none kV23 dc23 pm23 an23 cd23 ct23), sl23⟩) (c23 : PySem.W.codeIn K cd23 "low_lots" = true) (k23 : PySem.W.keepIn K (.ref f23) = true)
    (a24 : PySem.W.nsIn K mainGlobals "high_lots" = some (some (.ref f24))) (l24 : K.lookup f24 = some ⟨oc24, od24, .func (PySem.W.fnOf "high_lots" "high_lots" (defArgs s_high_lots) (defBody s_high_lots) (defScope s_high_lots) .none kV24 dc24 pm24 an24 cd24 ct24), sl24⟩) (c24 : PySem.W.codeIn K cd24 "high_lots" = true) (k24 : PySem.W.keepIn K (.ref f24) = true)
    (a28 : PySem.W.nsIn K mainGlobals "is_curve" = some (some (.ref f28))) (l28 : K.lookup f28 = some ⟨oc28, od28, .func (PySem.W.fnOf "is_curve" "is_curve" (defArgs s_is_curve) (defBody s_is_curve) (defScope s_is_curve) .none kV28 dc28 pm28 an28 cd28 ct28), sl28⟩) (c28 : PySem.W.codeIn K cd28 "is_curve" = true) (k28 : PySem.W.keepIn K (.ref f28) = true)
    (a29 : PySem.W.nsIn K mainGlobals "need_curve" = some (some (.ref f29))) (l29 : K.lookup f29 = some ⟨oc29, od29, .func (PySem.W.fnOf "need_curve" "need_curve" (defArgs s_need_curve) (defBody s_need_curve) (defScope s_need_curve) .none kV29 dc29 pm29 an29 cd29 ct29), sl29⟩) (c29 : PySem.W.codeIn K cd29 "need_curve" = true) (k29 : PySem.W.keepIn K (.ref f29) = true)
    (a33 : PySem.W.nsIn K mainGlobals "need_covered" = some (some (.ref f33))) (l33 : K.lookup f33 = some ⟨oc33, od33, .func (PySem.W.fnOf "need_covered" "need_covered" (defArgs s_need_covered) (defBody s_need_covered) (defScope s_need_covered) .none kV33 dc33 pm33 an33 cd33 ct33), sl33⟩) (c33 : PySem.W.codeIn K cd33 "need_covered" = true) (k33 : PySem.W.keepIn K (.ref f33) = true)
    (a34 : PySem.W.nsIn K mainGlobals "lowest" = some (some (.ref f34))) (l34 : K.lookup f34 = some ⟨oc34, od34, .func (PySem.W.fnOf "lowest" "lowest" (defArgs s_lowest) (defBody s_lowest) (defScope s_lowest) .none kV34 dc34 pm34 an34 cd34 ct34), sl34⟩) (c34 : PySem.W.codeIn K cd34 "lowest" = true) (k34 : PySem.W.keepIn K (.ref f34) = true)
    (a35 : PySem.W.nsIn K mainGlobals "highest" = some (some (.ref f35))) (l35 : K.lookup f35 = some ⟨oc35, od35, .func (PySem.W.fnOf "highest" "highest" (defArgs s_highest) (defBody s_highest) (defScope s_highest) .none kV35 dc35 pm35 an35 cd35 ct35), sl35⟩) (c35 : PySem.W.codeIn K cd35 "highest" = true) (k35 : PySem.W.keepIn K (.ref f35) = true)
    (a37 : PySem.W.nsIn K mainGlobals "_law_box" = some (some (.ref f37))) (l37 : K.lookup f37 = some ⟨oc37, od37, .func (PySem.W.fnOf "_law_box" "_law_box" (defArgs s__law_box) (defBody s__law_box) (defScope s__law_box) .none kV37 dc37 pm37 an37 cd37 ct37), sl37⟩) (c37 : PySem.W.codeIn K cd37 "_law_box" = true) (k37 : PySem.W.keepIn K (.ref f37) = true)
    (a38 : PySem.W.nsIn K mainGlobals "_law_take" = some (some (.ref f38))) (l38 : K.lookup f38 = some ⟨oc38, od38, .func (PySem.W.fnOf "_law_take" "_law_take" (defArgs s__law_take) (defBody s__law_take) (defScope s__law_take) .none kV38 dc38 pm38 an38 cd38 ct38), sl38⟩) (c38 : PySem.W.codeIn K cd38 "_law_take" = true) (k38 : PySem.W.keepIn K (.ref f38) = true)
    (a39 : PySem.W.nsIn K mainGlobals "_law_classes" = some (some (.ref f39))) (l39 : K.lookup f39 = some ⟨oc39, od39, .func (PySem.W.fnOf "_law_classes" "_law_classes" (defArgs s__law_classes) (defBody s__law_classes) (defScope s__law_classes) .none kV39 dc39 pm39 an39 cd39 ct39), sl39⟩) (c39 : PySem.W.codeIn K cd39 "_law_classes" = true) (k39 : PySem.W.keepIn K (.ref f39) = true)
    (a40 : PySem.W.nsIn K mainGlobals "_law_told" = some (some (.ref f40))) (l40 : K.lookup f40 = some ⟨oc40, od40, .func (PySem.W.fnOf "_law_told" "_law_told" (defArgs s__law_told) (defBody s__law_told) (defScope s__law_told) .none kV40 dc40 pm40 an40 cd40 ct40), sl40⟩) (c40 : PySem.W.codeIn K cd40 "_law_told" = true) (k40 : PySem.W.keepIn K (.ref f40) = true)
    (a41 : PySem.W.nsIn K mainGlobals "_law_lots" = some (some (.ref f41))) (l41 : K.lookup f41 = some ⟨oc41, od41, .func (PySem.W.fnOf "_law_lots" "_law_lots" (defArgs s__law_lots) (defBody s__law_lots) (defScope s__law_lots) .none kV41 dc41 pm41 an41 cd41 ct41), sl41⟩) (c41 : PySem.W.codeIn K cd41 "_law_lots" = true) (k41 : PySem.W.keepIn K (.ref f41) = true)
    (a42 : PySem.W.nsIn K mainGlobals "_law_even" = some (some (.ref f42))) (l42 : K.lookup f42 = some ⟨oc42, od42, .func (PySem.W.fnOf "_law_even" "_law_even" (defArgs s__law_even) (defBody s__law_even) (defScope s__law_even) .none kV42 dc42 pm42 an42 cd42 ct42), sl42⟩) (c42 : PySem.W.codeIn K cd42 "_law_even" = true) (k42 : PySem.W.keepIn K (.ref f42) = true)
    (a43 : PySem.W.nsIn K mainGlobals "_law_gapped" = some (some (.ref f43))) (l43 : K.lookup f43 = some ⟨oc43, od43, .func (PySem.W.fnOf "_law_gapped" "_law_gapped" (defArgs s__law_gapped) (defBody s__law_gapped) (defScope s__law_gapped) .none kV43 dc43 pm43 an43 cd43 ct43), sl43⟩) (c43 : PySem.W.codeIn K cd43 "_law_gapped" = true) (k43 : PySem.W.keepIn K (.ref f43) = true)
    (a44 : PySem.W.nsIn K mainGlobals "_law_curve" = some (some (.ref f44))) (l44 : K.lookup f44 = some ⟨oc44, od44, .func (PySem.W.fnOf "_law_curve" "_law_curve" (defArgs s__law_curve) (defBody s__law_curve) (defScope s__law_curve) .none kV44 dc44 pm44 an44 cd44 ct44), sl44⟩) (c44 : PySem.W.codeIn K cd44 "_law_curve" = true) (k44 : PySem.W.keepIn K (.ref f44) = true)
    (a45 : PySem.W.nsIn K mainGlobals "_law_end" = some (some (.ref f45))) (l45 : K.lookup f45 = some ⟨oc45, od45, .func (PySem.W.fnOf "_law_end" "_law_end" (defArgs s__law_end) (defBody s__law_end) (defScope s__law_end) .none kV45 dc45 pm45 an45 cd45 ct45), sl45⟩) (c45 : PySem.W.codeIn K cd45 "_law_end" = true) (k45 : PySem.W.keepIn K (.ref f45) = true)
    (a50 : PySem.W.nsIn K mainGlobals "_law_bad_curve" = some (some (.ref f50))) (l50 : K.lookup f50 = some ⟨oc50, od50, .func (PySem.W.fnOf "_law_bad_curve" "_law_bad_curve" (defArgs s__law_bad_curve) (defBody s__law_bad_curve) (defScope s__law_bad_curve) .none kV50 dc50 pm50 an50 cd50 ct50), sl50⟩) (c50 : PySem.W.codeIn K cd50 "_law_bad_curve" = true) (k50 : PySem.W.keepIn K (.ref f50) = true)
    (a52 : PySem.W.nsIn K mainGlobals "law" = some (some (.ref f52))) (l52 : K.lookup f52 = some ⟨oc52, od52, .func (PySem.W.fnOf "law" "law" (defArgs s_law) (defBody s_law) (defScope s_law) .none kV52 dc52 pm52 an52 (.ref cc52) ct52), sl52⟩) (c52 : PySem.W.codeIn K (.ref cc52) "law" = true) (k52 : PySem.W.keepIn K (.ref f52) = true)
    (lc52 : K.lookup cc52 = some ⟨ge52, gd52, .fields gv52, gs52⟩) (v52 : gv52[11]? = some (.ref pp52)) (hh52 : PySem.W.codeHdIn K cc52 pp52 = true) (np52 : K.lookup pp52 = none)
    (z_isinstance : PySem.W.nsIn K mainGlobals "isinstance" = some none)    (z_int : PySem.W.nsIn K mainGlobals "int" = some none)    (z_bool : PySem.W.nsIn K mainGlobals "bool" = some none)    (z_range : PySem.W.nsIn K mainGlobals "range" = some none)    (z_enumerate : PySem.W.nsIn K mainGlobals "enumerate" = some none)    (z_len : PySem.W.nsIn K mainGlobals "len" = some none)    (z_tuple : PySem.W.nsIn K mainGlobals "tuple" = some none)    (z_divmod : PySem.W.nsIn K mainGlobals "divmod" = some none)    (z_ValueError : PySem.W.nsIn K mainGlobals "ValueError" = some none)    (z_sorted : PySem.W.nsIn K mainGlobals "sorted" = some none)    (z_list : PySem.W.nsIn K mainGlobals "list" = some none)    (z_repr : PySem.W.nsIn K mainGlobals "repr" = some none)    (z_max : PySem.W.nsIn K mainGlobals "max" = some none)    (z_min : PySem.W.nsIn K mainGlobals "min" = some none)    (y_MOST_DEEP : PySem.W.nsIn K mainGlobals "MOST_DEEP" = some (some (.int 6 tk_MOST_DEEP)))    (y_MOST_CORNERS : PySem.W.nsIn K mainGlobals "MOST_CORNERS" = some (some (.int 9 tk_MOST_CORNERS)))    (y_MOST_COVERED : PySem.W.nsIn K mainGlobals "MOST_COVERED" = some (some (.int 7 tk_MOST_COVERED)))    (y_MOST_DEEP_COVERED : PySem.W.nsIn K mainGlobals "MOST_DEEP_COVERED" = some (some (.int 4 tk_MOST_DEEP_COVERED)))
    (x_CurveError : PySem.W.nsIn K mainGlobals "CurveError" = some (some (.ref C_CurveError)))    (x_NoCurve : PySem.W.nsIn K mainGlobals "NoCurve" = some (some (.ref C_NoCurve)))    (x_NoLot : PySem.W.nsIn K mainGlobals "NoLot" = some (some (.ref C_NoLot)))    (x_NoPane : PySem.W.nsIn K mainGlobals "NoPane" = some (some (.ref C_NoPane)))    (x_NoFace : PySem.W.nsIn K mainGlobals "NoFace" = some (some (.ref C_NoFace)))    (x_NoCell : PySem.W.nsIn K mainGlobals "NoCell" = some (some (.ref C_NoCell)))    (x_NoCorner : PySem.W.nsIn K mainGlobals "NoCorner" = some (some (.ref C_NoCorner)))    (x_NoNumber : PySem.W.nsIn K mainGlobals "NoNumber" = some (some (.ref C_NoNumber)))    (x_NoCounts : PySem.W.nsIn K mainGlobals "NoCounts" = some (some (.ref C_NoCounts)))    (x_NoCover : PySem.W.nsIn K mainGlobals "NoCover" = some (some (.ref C_NoCover)))    (x_NoTurn : PySem.W.nsIn K mainGlobals "NoTurn" = some (some (.ref C_NoTurn)))    (x_NoCut : PySem.W.nsIn K mainGlobals "NoCut" = some (some (.ref C_NoCut)))    (x_NoOrder : PySem.W.nsIn K mainGlobals "NoOrder" = some (some (.ref C_NoOrder)))    (x_TooMany : PySem.W.nsIn K mainGlobals "TooMany" = some (some (.ref C_TooMany)))    (x_NoText : PySem.W.nsIn K mainGlobals "NoText" = some (some (.ref C_NoText)))    (x_NoLine : PySem.W.nsIn K mainGlobals "NoLine" = some (some (.ref C_NoLine)))
    (qr1_NoCurve : PySem.W.excIn K C_NoCurve [.type "ValueError", .type "Exception", .type "BaseException", .type "object"] "ValueError.__new__" = true)
    (qr2_NoCurve : PySem.W.keepIn K (.ref C_NoCurve) = true)
    (qr3_NoCurve : PySem.W.subIn K (.ref C_NoCurve) (.type "BaseException") = some true)
    (qr4_NoCurve : PySem.W.typeIn K (.ref C_NoCurve) = some (.type "type"))
    (qe1_NoCurve : PySem.W.findIn K (.ref C_NoCurve) "__getattribute__" = some (some (.builtin "BaseException.__getattribute__")))
    (qe2_NoCurve : PySem.W.findIn K (.ref C_NoCurve) "__getattr__" = some none)
    (qe4_NoCurve : PySem.W.hasDictIn K C_NoCurve = true)
    (qe5_NoCurve : PySem.W.findIn K (.ref C_NoCurve) "__class__" = some (some (.builtin "object.__class__")))
    (qe6_NoCurve : PySem.W.specialIn K (.builtin "object.__class__") "__get__" = some (some (.builtin "getset_descriptor.__get__")))
    (qe7_NoCurve : PySem.W.takesIn K (.builtin "object.__class__") = some true)
    (qe8_NoCurve : PySem.W.mroIn K C_NoCurve (.type "object") = some true)
    (qm_NoCurve : PySem.W.exmOne K (.ref C_NoCurve) (.ref C_CurveError) = some true)
    (qv_NoCurve : PySem.W.kitOne K (.ref C_NoCurve) (.type "ValueError") = some true)
    (qo0_NoCurve : PySem.W.kitOne K (.ref C_NoCurve) (.ref C_NoCurve) = some true)
    (qo1_NoCurve : PySem.W.kitOne K (.ref C_NoCurve) (.ref C_NoLot) = some false)
    (qo2_NoCurve : PySem.W.kitOne K (.ref C_NoCurve) (.ref C_NoPane) = some false)
    (qo3_NoCurve : PySem.W.kitOne K (.ref C_NoCurve) (.ref C_NoFace) = some false)
    (qo4_NoCurve : PySem.W.kitOne K (.ref C_NoCurve) (.ref C_NoCell) = some false)
    (qo5_NoCurve : PySem.W.kitOne K (.ref C_NoCurve) (.ref C_NoCorner) = some false)
    (qo6_NoCurve : PySem.W.kitOne K (.ref C_NoCurve) (.ref C_NoNumber) = some false)
    (qo7_NoCurve : PySem.W.kitOne K (.ref C_NoCurve) (.ref C_NoCounts) = some false)
    (qo8_NoCurve : PySem.W.kitOne K (.ref C_NoCurve) (.ref C_NoCover) = some false)
    (qo9_NoCurve : PySem.W.kitOne K (.ref C_NoCurve) (.ref C_NoTurn) = some false)
    (qo10_NoCurve : PySem.W.kitOne K (.ref C_NoCurve) (.ref C_NoCut) = some false)
    (qo11_NoCurve : PySem.W.kitOne K (.ref C_NoCurve) (.ref C_NoOrder) = some false)
    (qo12_NoCurve : PySem.W.kitOne K (.ref C_NoCurve) (.ref C_TooMany) = some false)
    (qo13_NoCurve : PySem.W.kitOne K (.ref C_NoCurve) (.ref C_NoText) = some false)
    (qo14_NoCurve : PySem.W.kitOne K (.ref C_NoCurve) (.ref C_NoLine) = some false)
    (qr1_TooMany : PySem.W.excIn K C_TooMany [.type "ValueError", .type "Exception", .type "BaseException", .type "object"] "ValueError.__new__" = true)
    (qr2_TooMany : PySem.W.keepIn K (.ref C_TooMany) = true)
    (qr3_TooMany : PySem.W.subIn K (.ref C_TooMany) (.type "BaseException") = some true)
    (qr4_TooMany : PySem.W.typeIn K (.ref C_TooMany) = some (.type "type"))
    (qe1_TooMany : PySem.W.findIn K (.ref C_TooMany) "__getattribute__" = some (some (.builtin "BaseException.__getattribute__")))
    (qe2_TooMany : PySem.W.findIn K (.ref C_TooMany) "__getattr__" = some none)
    (qe4_TooMany : PySem.W.hasDictIn K C_TooMany = true)
    (qe5_TooMany : PySem.W.findIn K (.ref C_TooMany) "__class__" = some (some (.builtin "object.__class__")))
    (qe6_TooMany : PySem.W.specialIn K (.builtin "object.__class__") "__get__" = some (some (.builtin "getset_descriptor.__get__")))
    (qe7_TooMany : PySem.W.takesIn K (.builtin "object.__class__") = some true)
    (qe8_TooMany : PySem.W.mroIn K C_TooMany (.type "object") = some true)
    (qm_TooMany : PySem.W.exmOne K (.ref C_TooMany) (.ref C_CurveError) = some true)
    (qv_TooMany : PySem.W.kitOne K (.ref C_TooMany) (.type "ValueError") = some true)
    (qo0_TooMany : PySem.W.kitOne K (.ref C_TooMany) (.ref C_NoCurve) = some false)
    (qo1_TooMany : PySem.W.kitOne K (.ref C_TooMany) (.ref C_NoLot) = some false)
    (qo2_TooMany : PySem.W.kitOne K (.ref C_TooMany) (.ref C_NoPane) = some false)
    (qo3_TooMany : PySem.W.kitOne K (.ref C_TooMany) (.ref C_NoFace) = some false)
    (qo4_TooMany : PySem.W.kitOne K (.ref C_TooMany) (.ref C_NoCell) = some false)
    (qo5_TooMany : PySem.W.kitOne K (.ref C_TooMany) (.ref C_NoCorner) = some false)
    (qo6_TooMany : PySem.W.kitOne K (.ref C_TooMany) (.ref C_NoNumber) = some false)
    (qo7_TooMany : PySem.W.kitOne K (.ref C_TooMany) (.ref C_NoCounts) = some false)
    (qo8_TooMany : PySem.W.kitOne K (.ref C_TooMany) (.ref C_NoCover) = some false)
    (qo9_TooMany : PySem.W.kitOne K (.ref C_TooMany) (.ref C_NoTurn) = some false)
    (qo10_TooMany : PySem.W.kitOne K (.ref C_TooMany) (.ref C_NoCut) = some false)
    (qo11_TooMany : PySem.W.kitOne K (.ref C_TooMany) (.ref C_NoOrder) = some false)
    (qo12_TooMany : PySem.W.kitOne K (.ref C_TooMany) (.ref C_TooMany) = some true)
    (qo13_TooMany : PySem.W.kitOne K (.ref C_TooMany) (.ref C_NoText) = some false)
    (qo14_TooMany : PySem.W.kitOne K (.ref C_TooMany) (.ref C_NoLine) = some false)
 :
    LawG l w K 9 "_law_script" mg fa h := by
  have e := hfa.symm.trans (PySem.W.mg_of X G a52)
  cases e
  have F18 := fun_mk (st := s_is_whole) l18 c18 k18
  have b18 := F18.binds (ps := ["thing"]) fun _ _ _ _ _ _ us hl => match us, hl with | [_], _ => rfl
  have D_is_whole : Df K mg "is_whole" s_is_whole ["thing"] _ _ := ⟨F18, PySem.W.mg_of X G a18, b18⟩
  have F19 := fun_mk (st := s_next_number) l19 c19 k19
  have b19 := F19.binds (ps := ["some"]) fun _ _ _ _ _ _ us hl => match us, hl with | [_], _ => rfl
  have D_next_number : Df K mg "next_number" s_next_number ["some"] _ _ := ⟨F19, PySem.W.mg_of X G a19, b19⟩
  have F20 := fun_mk (st := s_choices) l20 c20 k20
  have b20 := F20.binds (ps := ["many", "size"]) fun _ _ _ _ _ _ us hl => match us, hl with | [_, _], _ => rfl
  have D_choices : Df K mg "choices" s_choices ["many", "size"] _ _ := ⟨F20, PySem.W.mg_of X G a20, b20⟩
  have F21 := fun_mk (st := s_paired) l21 c21 k21
  have b21 := F21.binds (ps := ["chosen", "first"]) fun _ _ _ _ _ _ us hl => match us, hl with | [_, _], _ => rfl
  have D_paired : Df K mg "paired" s_paired ["chosen", "first"] _ _ := ⟨F21, PySem.W.mg_of X G a21, b21⟩
  have F22 := fun_mk (st := s_ended) l22 c22 k22
  have b22 := F22.binds (ps := ["many", "deep", "head", "tail"]) fun _ _ _ _ _ _ us hl => match us, hl with | [_, _, _, _], _ => rfl
  have D_ended : Df K mg "ended" s_ended ["many", "deep", "head", "tail"] _ _ := ⟨F22, PySem.W.mg_of X G a22, b22⟩
  have F23 := fun_mk (st := s_low_lots) l23 c23 k23
  have b23 := F23.binds (ps := ["many", "deep"]) fun _ _ _ _ _ _ us hl => match us, hl with | [_, _], _ => rfl
  have D_low_lots : Df K mg "low_lots" s_low_lots ["many", "deep"] _ _ := ⟨F23, PySem.W.mg_of X G a23, b23⟩
  have F24 := fun_mk (st := s_high_lots) l24 c24 k24
  have b24 := F24.binds (ps := ["many", "deep"]) fun _ _ _ _ _ _ us hl => match us, hl with | [_, _], _ => rfl
  have D_high_lots : Df K mg "high_lots" s_high_lots ["many", "deep"] _ _ := ⟨F24, PySem.W.mg_of X G a24, b24⟩
  have F28 := fun_mk (st := s_is_curve) l28 c28 k28
  have b28 := F28.binds (ps := ["thing"]) fun _ _ _ _ _ _ us hl => match us, hl with | [_], _ => rfl
  have D_is_curve : Df K mg "is_curve" s_is_curve ["thing"] _ _ := ⟨F28, PySem.W.mg_of X G a28, b28⟩
  have F29 := fun_mk (st := s_need_curve) l29 c29 k29
  have b29 := F29.binds (ps := ["curve"]) fun _ _ _ _ _ _ us hl => match us, hl with | [_], _ => rfl
  have D_need_curve : Df K mg "need_curve" s_need_curve ["curve"] _ _ := ⟨F29, PySem.W.mg_of X G a29, b29⟩
  have F33 := fun_mk (st := s_need_covered) l33 c33 k33
  have b33 := F33.binds (ps := ["curve"]) fun _ _ _ _ _ _ us hl => match us, hl with | [_], _ => rfl
  have D_need_covered : Df K mg "need_covered" s_need_covered ["curve"] _ _ := ⟨F33, PySem.W.mg_of X G a33, b33⟩
  have F34 := fun_mk (st := s_lowest) l34 c34 k34
  have b34 := F34.binds (ps := ["curve"]) fun _ _ _ _ _ _ us hl => match us, hl with | [_], _ => rfl
  have D_lowest : Df K mg "lowest" s_lowest ["curve"] _ _ := ⟨F34, PySem.W.mg_of X G a34, b34⟩
  have F35 := fun_mk (st := s_highest) l35 c35 k35
  have b35 := F35.binds (ps := ["curve"]) fun _ _ _ _ _ _ us hl => match us, hl with | [_], _ => rfl
  have D_highest : Df K mg "highest" s_highest ["curve"] _ _ := ⟨F35, PySem.W.mg_of X G a35, b35⟩
  have F37 := fun_mk (st := s__law_box) l37 c37 k37
  have b37 := F37.binds (ps := ["_law_script", "_law_k"]) fun _ _ _ _ _ _ us hl => match us, hl with | [_, _], _ => rfl
  have D__law_box : Df K mg "_law_box" s__law_box ["_law_script", "_law_k"] _ _ := ⟨F37, PySem.W.mg_of X G a37, b37⟩
  have F38 := fun_mk (st := s__law_take) l38 c38 k38
  have b38 := F38.binds (ps := ["_law_box_here", "_law_many"]) fun _ _ _ _ _ _ us hl => match us, hl with | [_, _], _ => rfl
  have D__law_take : Df K mg "_law_take" s__law_take ["_law_box_here", "_law_many"] _ _ := ⟨F38, PySem.W.mg_of X G a38, b38⟩
  have F39 := fun_mk (st := s__law_classes) l39 c39 k39
  have b39 := F39.binds (ps := ["_law_e"]) fun _ _ _ _ _ _ us hl => match us, hl with | [_], _ => rfl
  have D__law_classes : Df K mg "_law_classes" s__law_classes ["_law_e"] _ _ := ⟨F39, PySem.W.mg_of X G a39, b39⟩
  have F40 := fun_mk (st := s__law_told) l40 c40 k40
  have b40 := F40.binds (ps := ["_law_call"]) fun _ _ _ _ _ _ us hl => match us, hl with | [_], _ => rfl
  have D__law_told : Df K mg "_law_told" s__law_told ["_law_call"] _ _ := ⟨F40, PySem.W.mg_of X G a40, b40⟩
  have F41 := fun_mk (st := s__law_lots) l41 c41 k41
  have b41 := F41.binds (ps := ["_law_many", "_law_size"]) fun _ _ _ _ _ _ us hl => match us, hl with | [_, _], _ => rfl
  have D__law_lots : Df K mg "_law_lots" s__law_lots ["_law_many", "_law_size"] _ _ := ⟨F41, PySem.W.mg_of X G a41, b41⟩
  have F42 := fun_mk (st := s__law_even) l42 c42 k42
  have b42 := F42.binds (ps := ["_law_many", "_law_lot"]) fun _ _ _ _ _ _ us hl => match us, hl with | [_, _], _ => rfl
  have D__law_even : Df K mg "_law_even" s__law_even ["_law_many", "_law_lot"] _ _ := ⟨F42, PySem.W.mg_of X G a42, b42⟩
  have F43 := fun_mk (st := s__law_gapped) l43 c43 k43
  have b43 := F43.binds (ps := ["_law_many", "_law_deep"]) fun _ _ _ _ _ _ us hl => match us, hl with | [_, _], _ => rfl
  have D__law_gapped : Df K mg "_law_gapped" s__law_gapped ["_law_many", "_law_deep"] _ _ := ⟨F43, PySem.W.mg_of X G a43, b43⟩
  have F44 := fun_mk (st := s__law_curve) l44 c44 k44
  have b44 := F44.binds (ps := ["_law_box_here"]) fun _ _ _ _ _ _ us hl => match us, hl with | [_], _ => rfl
  have D__law_curve : Df K mg "_law_curve" s__law_curve ["_law_box_here"] _ _ := ⟨F44, PySem.W.mg_of X G a44, b44⟩
  have F45 := fun_mk (st := s__law_end) l45 c45 k45
  have b45 := F45.binds (ps := ["_law_curve_here", "_law_side"]) fun _ _ _ _ _ _ us hl => match us, hl with | [_, _], _ => rfl
  have D__law_end : Df K mg "_law_end" s__law_end ["_law_curve_here", "_law_side"] _ _ := ⟨F45, PySem.W.mg_of X G a45, b45⟩
  have F50 := fun_mk (st := s__law_bad_curve) l50 c50 k50
  have b50 := F50.binds (ps := ["_law_box_here"]) fun _ _ _ _ _ _ us hl => match us, hl with | [_], _ => rfl
  have D__law_bad_curve : Df K mg "_law_bad_curve" s__law_bad_curve ["_law_box_here"] _ _ := ⟨F50, PySem.W.mg_of X G a50, b50⟩
  have F52 := fun_mk (st := s_law) l52 c52 k52
  have b52 := F52.binds (ps := ["_law_script"]) fun _ _ _ _ _ _ us hl => match us, hl with | [_], _ => rfl
  have D_law : Dc K mg "law" s_law ["_law_script"] _ _ cc52 := ⟨F52, PySem.W.mg_of X G a52, b52, ⟨_, _, _, _, _, _, _, _, rfl, l52, c52⟩⟩
  have T_law : CdK K h pp52 := cdk_mk (O "law" (by simp) _ (PySem.W.mg_of X G a52)) l52 rfl lc52 v52 hh52 np52
  have B : Bt mg := ⟨PySem.W.mg_none_of X G z_isinstance, PySem.W.mg_none_of X G z_int, PySem.W.mg_none_of X G z_bool, PySem.W.mg_none_of X G z_range, PySem.W.mg_none_of X G z_enumerate, PySem.W.mg_none_of X G z_len, PySem.W.mg_none_of X G z_tuple, PySem.W.mg_none_of X G z_divmod, PySem.W.mg_none_of X G z_ValueError, PySem.W.mg_none_of X G z_sorted, PySem.W.mg_none_of X G z_list, PySem.W.mg_none_of X G z_repr, PySem.W.mg_none_of X G z_max, PySem.W.mg_none_of X G z_min⟩
  have c_MOST_DEEP := PySem.W.mg_of X G y_MOST_DEEP
  have c_MOST_CORNERS := PySem.W.mg_of X G y_MOST_CORNERS
  have c_MOST_COVERED := PySem.W.mg_of X G y_MOST_COVERED
  have c_MOST_DEEP_COVERED := PySem.W.mg_of X G y_MOST_DEEP_COVERED
  have CC : Cls15 mg [C_NoCurve, C_NoLot, C_NoPane, C_NoFace, C_NoCell, C_NoCorner, C_NoNumber, C_NoCounts, C_NoCover, C_NoTurn, C_NoCut, C_NoOrder, C_TooMany, C_NoText, C_NoLine] := ⟨_, _, _, _, _, _, _, _, _, _, _, _, _, _, _, rfl, PySem.W.mg_of X G x_NoCurve, PySem.W.mg_of X G x_NoLot, PySem.W.mg_of X G x_NoPane, PySem.W.mg_of X G x_NoFace, PySem.W.mg_of X G x_NoCell, PySem.W.mg_of X G x_NoCorner, PySem.W.mg_of X G x_NoNumber, PySem.W.mg_of X G x_NoCounts, PySem.W.mg_of X G x_NoCover, PySem.W.mg_of X G x_NoTurn, PySem.W.mg_of X G x_NoCut, PySem.W.mg_of X G x_NoOrder, PySem.W.mg_of X G x_TooMany, PySem.W.mg_of X G x_NoText, PySem.W.mg_of X G x_NoLine⟩
  have hCE := PySem.W.mg_of X G x_CurveError
  have R_NoCurve : RzD K mg "NoCurve" C_NoCurve := ⟨PySem.W.mg_of X G x_NoCurve, qr1_NoCurve, qr2_NoCurve, qr3_NoCurve, qr4_NoCurve⟩
  have X_NoCurve : ExD K C_CurveError [C_NoCurve, C_NoLot, C_NoPane, C_NoFace, C_NoCell, C_NoCorner, C_NoNumber, C_NoCounts, C_NoCover, C_NoTurn, C_NoCut, C_NoOrder, C_TooMany, C_NoText, C_NoLine] C_NoCurve 0 := ⟨⟨qe1_NoCurve, qe2_NoCurve, qr3_NoCurve, qe4_NoCurve, qe5_NoCurve, qe6_NoCurve, qe7_NoCurve, qe8_NoCurve⟩, qm_NoCurve, qv_NoCurve, onlyAt_mk qo0_NoCurve qo1_NoCurve qo2_NoCurve qo3_NoCurve qo4_NoCurve qo5_NoCurve qo6_NoCurve qo7_NoCurve qo8_NoCurve qo9_NoCurve qo10_NoCurve qo11_NoCurve qo12_NoCurve qo13_NoCurve qo14_NoCurve rfl rfl rfl rfl rfl rfl rfl rfl rfl rfl rfl rfl rfl rfl rfl, by decide⟩
  have R_TooMany : RzD K mg "TooMany" C_TooMany := ⟨PySem.W.mg_of X G x_TooMany, qr1_TooMany, qr2_TooMany, qr3_TooMany, qr4_TooMany⟩
  have X_TooMany : ExD K C_CurveError [C_NoCurve, C_NoLot, C_NoPane, C_NoFace, C_NoCell, C_NoCorner, C_NoNumber, C_NoCounts, C_NoCover, C_NoTurn, C_NoCut, C_NoOrder, C_TooMany, C_NoText, C_NoLine] C_TooMany 12 := ⟨⟨qe1_TooMany, qe2_TooMany, qr3_TooMany, qe4_TooMany, qe5_TooMany, qe6_TooMany, qe7_TooMany, qe8_TooMany⟩, qm_TooMany, qv_TooMany, onlyAt_mk qo0_TooMany qo1_TooMany qo2_TooMany qo3_TooMany qo4_TooMany qo5_TooMany qo6_TooMany qo7_TooMany qo8_TooMany qo9_TooMany qo10_TooMany qo11_TooMany qo12_TooMany qo13_TooMany qo14_TooMany rfl rfl rfl rfl rfl rfl rfl rfl rfl rfl rfl rfl rfl rfl rfl, by decide⟩
  refine ⟨PySem.W.fnOf "law" "law" (defArgs s_law) (defBody s_law) (defScope s_law) .none kV52 dc52 pm52 an52 (.ref cc52) ct52, [], [pp52], fun p hp => (nomatch hp), fun p hp => (by rcases List.mem_cons.mp hp with rfl | hp; exact T_law; cases hp), fun p hp => (by simp only [List.mem_cons, List.not_mem_nil, or_false] at hp ⊢; subst hp; simp_all), fun s v => .of_eq rfl, fun base _ _ TB => ?_⟩
  have TB_law := TB cc52 pp52 (by simp) hh52
  exact ok_law ⟨B, _, _, D_is_whole, _, _, D_next_number, _, _, D_choices, _, _, D_paired, _, _, D_ended, _, _, D_low_lots, _, _, D_high_lots, _, _, D_is_curve, _, _, D_need_curve, _, _, D_need_covered, _, _, D_lowest, _, _, D_highest, _, _, D__law_box, _, _, D__law_take, _, _, D__law_classes, _, _, D__law_told, _, _, D__law_lots, _, _, D__law_even, _, _, D__law_gapped, _, _, D__law_curve, _, _, D__law_end, _, _, D__law_bad_curve, _, c_MOST_DEEP, _, c_MOST_CORNERS, _, c_MOST_COVERED, _, c_MOST_DEEP_COVERED, _, R_NoCurve, _, R_TooMany⟩ D_law TB_law CC hCE X_NoCurve X_TooMany
end CF
open PySem PySem.W PyProof.Rows
set_option maxHeartbeats 0 in
theorem PySem.Challenge.cw_curvefaces_k44_lowest_and_highest_covers_holds : PySem.Challenge.rw_curvefaces_k44_lowest_and_highest_covers.Holds := by
  w_on; o_law; k_head; (case hw => w_witness2)
  k_fill
  refine CF.walk_G (l := PySem.Challenge.rw_curvefaces_k44_lowest_and_highest_covers) (k := 9) (x := "_law_script") ["law"] rfl rfl ⟨rfl, by decide, by decide⟩ (by decide +kernel) (fun w h Y => by first | exact PySem.W.km_in_of Y | exact PySem.W.kIn_of Y) ?F
  case F =>
    intro w mg fa h KX G hmg O
    refine' CF.all_mk KX G hmg O ?a18 ?l18 ?c18 ?k18 ?a19 ?l19 ?c19 ?k19 ?a20 ?l20 ?c20 ?k20 ?a21 ?l21 ?c21 ?k21 ?a22 ?l22 ?c22 ?k22 ?a23 ?l23 ?c23 ?k23 ?a24 ?l24 ?c24 ?k24 ?a28 ?l28 ?c28 ?k28 ?a29 ?l29 ?c29 ?k29 ?a33 ?l33 ?c33 ?k33 ?a34 ?l34 ?c34 ?k34 ?a35 ?l35 ?c35 ?k35 ?a37 ?l37 ?c37 ?k37 ?a38 ?l38 ?c38 ?k38 ?a39 ?l39 ?c39 ?k39 ?a40 ?l40 ?c40 ?k40 ?a41 ?l41 ?c41 ?k41 ?a42 ?l42 ?c42 ?k42 ?a43 ?l43 ?c43 ?k43 ?a44 ?l44 ?c44 ?k44 ?a45 ?l45 ?c45 ?k45 ?a50 ?l50 ?c50 ?k50 ?a52 ?l52 ?c52 ?k52 ?lc52 ?v52 ?hh52 ?np52 ?z_isinstance ?z_int ?z_bool ?z_range ?z_enumerate ?z_len ?z_tuple ?z_divmod ?z_ValueError ?z_sorted ?z_list ?z_repr ?z_max ?z_min ?y_MOST_DEEP ?y_MOST_CORNERS ?y_MOST_COVERED ?y_MOST_DEEP_COVERED ?x_CurveError ?x_NoCurve ?x_NoLot ?x_NoPane ?x_NoFace ?x_NoCell ?x_NoCorner ?x_NoNumber ?x_NoCounts ?x_NoCover ?x_NoTurn ?x_NoCut ?x_NoOrder ?x_TooMany ?x_NoText ?x_NoLine ?qr1_NoCurve ?qr2_NoCurve ?qr3_NoCurve ?qr4_NoCurve ?qe1_NoCurve ?qe2_NoCurve ?qe4_NoCurve ?qe5_NoCurve ?qe6_NoCurve ?qe7_NoCurve ?qe8_NoCurve ?qm_NoCurve ?qv_NoCurve ?qo0_NoCurve ?qo1_NoCurve ?qo2_NoCurve ?qo3_NoCurve ?qo4_NoCurve ?qo5_NoCurve ?qo6_NoCurve ?qo7_NoCurve ?qo8_NoCurve ?qo9_NoCurve ?qo10_NoCurve ?qo11_NoCurve ?qo12_NoCurve ?qo13_NoCurve ?qo14_NoCurve ?qr1_TooMany ?qr2_TooMany ?qr3_TooMany ?qr4_TooMany ?qe1_TooMany ?qe2_TooMany ?qe4_TooMany ?qe5_TooMany ?qe6_TooMany ?qe7_TooMany ?qe8_TooMany ?qm_TooMany ?qv_TooMany ?qo0_TooMany ?qo1_TooMany ?qo2_TooMany ?qo3_TooMany ?qo4_TooMany ?qo5_TooMany ?qo6_TooMany ?qo7_TooMany ?qo8_TooMany ?qo9_TooMany ?qo10_TooMany ?qo11_TooMany ?qo12_TooMany ?qo13_TooMany ?qo14_TooMany
    (case a18 => k_is)
    (case l18 => k_is)
    (case c18 => k_is)
    (case k18 => k_is)
    (case a19 => k_is)
    (case l19 => k_is)
    (case c19 => k_is)
    (case k19 => k_is)
    (case a20 => k_is)
    (case l20 => k_is)
    (case c20 => k_is)
    (case k20 => k_is)
    (case a21 => k_is)
    (case l21 => k_is)
    (case c21 => k_is)
    (case k21 => k_is)
    (case a22 => k_is)
    (case l22 => k_is)
    (case c22 => k_is)
    (case k22 => k_is)
    (case a23 => k_is)
    (case l23 => k_is)
    (case c23 => k_is)
    (case k23 => k_is)
    (case a24 => k_is)
    (case l24 => k_is)
    (case c24 => k_is)
    (case k24 => k_is)
    (case a28 => k_is)
    (case l28 => k_is)
    (case c28 => k_is)
    (case k28 => k_is)
    (case a29 => k_is)
    (case l29 => k_is)
    (case c29 => k_is)
    (case k29 => k_is)
    (case a33 => k_is)
    (case l33 => k_is)
    (case c33 => k_is)
    (case k33 => k_is)
    (case a34 => k_is)
    (case l34 => k_is)
    (case c34 => k_is)
    (case k34 => k_is)
    (case a35 => k_is)
    (case l35 => k_is)
    (case c35 => k_is)
    (case k35 => k_is)
    (case a37 => k_is)
    (case l37 => k_is)
    (case c37 => k_is)
    (case k37 => k_is)
    (case a38 => k_is)
    (case l38 => k_is)
    (case c38 => k_is)
    (case k38 => k_is)
    (case a39 => k_is)
    (case l39 => k_is)
    (case c39 => k_is)
    (case k39 => k_is)
    (case a40 => k_is)
    (case l40 => k_is)
    (case c40 => k_is)
    (case k40 => k_is)
    (case a41 => k_is)
    (case l41 => k_is)
    (case c41 => k_is)
    (case k41 => k_is)
    (case a42 => k_is)
    (case l42 => k_is)
    (case c42 => k_is)
    (case k42 => k_is)
    (case a43 => k_is)
    (case l43 => k_is)
    (case c43 => k_is)
    (case k43 => k_is)
    (case a44 => k_is)
    (case l44 => k_is)
    (case c44 => k_is)
    (case k44 => k_is)
    (case a45 => k_is)
    (case l45 => k_is)
    (case c45 => k_is)
    (case k45 => k_is)
    (case a50 => k_is)
    (case l50 => k_is)
    (case c50 => k_is)
    (case k50 => k_is)
    (case a52 => k_is)
    (case l52 => k_is)
    (case c52 => k_is)
    (case k52 => k_is)
    (case lc52 => k_is)
    (case v52 => first | rfl | k_is)
    (case hh52 => first | k_is | rfl | decide +kernel)
    (case np52 => first | k_is | rfl | decide +kernel)
    (case z_isinstance => k_is)
    (case z_int => k_is)
    (case z_bool => k_is)
    (case z_range => k_is)
    (case z_enumerate => k_is)
    (case z_len => k_is)
    (case z_tuple => k_is)
    (case z_divmod => k_is)
    (case z_ValueError => k_is)
    (case z_sorted => k_is)
    (case z_list => k_is)
    (case z_repr => k_is)
    (case z_max => k_is)
    (case z_min => k_is)
    (case y_MOST_DEEP => k_is)
    (case y_MOST_CORNERS => k_is)
    (case y_MOST_COVERED => k_is)
    (case y_MOST_DEEP_COVERED => k_is)
    (case x_CurveError => k_is)
    (case x_NoCurve => k_is)
    (case x_NoLot => k_is)
    (case x_NoPane => k_is)
    (case x_NoFace => k_is)
    (case x_NoCell => k_is)
    (case x_NoCorner => k_is)
    (case x_NoNumber => k_is)
    (case x_NoCounts => k_is)
    (case x_NoCover => k_is)
    (case x_NoTurn => k_is)
    (case x_NoCut => k_is)
    (case x_NoOrder => k_is)
    (case x_TooMany => k_is)
    (case x_NoText => k_is)
    (case x_NoLine => k_is)
    (case qr1_NoCurve => k_exc)
    (case qr2_NoCurve => first | k_is | rfl | decide +kernel)
    (case qr3_NoCurve => first | k_is | rfl | decide +kernel)
    (case qr4_NoCurve => first | k_is | rfl | decide +kernel)
    (case qe1_NoCurve => first | k_is | rfl | decide +kernel)
    (case qe2_NoCurve => first | k_is | rfl | decide +kernel)
    (case qe4_NoCurve => first | k_is | rfl | decide +kernel)
    (case qe5_NoCurve => first | k_is | rfl | decide +kernel)
    (case qe6_NoCurve => first | k_is | rfl | decide +kernel)
    (case qe7_NoCurve => first | k_is | rfl | decide +kernel)
    (case qe8_NoCurve => first | k_is | rfl | decide +kernel)
    (case qm_NoCurve => first | k_is | rfl | decide +kernel)
    (case qv_NoCurve => first | k_is | rfl | decide +kernel)
    (case qo0_NoCurve => first | k_is | rfl | decide +kernel)
    (case qo1_NoCurve => first | k_is | rfl | decide +kernel)
    (case qo2_NoCurve => first | k_is | rfl | decide +kernel)
    (case qo3_NoCurve => first | k_is | rfl | decide +kernel)
    (case qo4_NoCurve => first | k_is | rfl | decide +kernel)
    (case qo5_NoCurve => first | k_is | rfl | decide +kernel)
    (case qo6_NoCurve => first | k_is | rfl | decide +kernel)
    (case qo7_NoCurve => first | k_is | rfl | decide +kernel)
    (case qo8_NoCurve => first | k_is | rfl | decide +kernel)
    (case qo9_NoCurve => first | k_is | rfl | decide +kernel)
    (case qo10_NoCurve => first | k_is | rfl | decide +kernel)
    (case qo11_NoCurve => first | k_is | rfl | decide +kernel)
    (case qo12_NoCurve => first | k_is | rfl | decide +kernel)
    (case qo13_NoCurve => first | k_is | rfl | decide +kernel)
    (case qo14_NoCurve => first | k_is | rfl | decide +kernel)
    (case qr1_TooMany => k_exc)
    (case qr2_TooMany => first | k_is | rfl | decide +kernel)
    (case qr3_TooMany => first | k_is | rfl | decide +kernel)
    (case qr4_TooMany => first | k_is | rfl | decide +kernel)
    (case qe1_TooMany => first | k_is | rfl | decide +kernel)
    (case qe2_TooMany => first | k_is | rfl | decide +kernel)
    (case qe4_TooMany => first | k_is | rfl | decide +kernel)
    (case qe5_TooMany => first | k_is | rfl | decide +kernel)
    (case qe6_TooMany => first | k_is | rfl | decide +kernel)
    (case qe7_TooMany => first | k_is | rfl | decide +kernel)
    (case qe8_TooMany => first | k_is | rfl | decide +kernel)
    (case qm_TooMany => first | k_is | rfl | decide +kernel)
    (case qv_TooMany => first | k_is | rfl | decide +kernel)
    (case qo0_TooMany => first | k_is | rfl | decide +kernel)
    (case qo1_TooMany => first | k_is | rfl | decide +kernel)
    (case qo2_TooMany => first | k_is | rfl | decide +kernel)
    (case qo3_TooMany => first | k_is | rfl | decide +kernel)
    (case qo4_TooMany => first | k_is | rfl | decide +kernel)
    (case qo5_TooMany => first | k_is | rfl | decide +kernel)
    (case qo6_TooMany => first | k_is | rfl | decide +kernel)
    (case qo7_TooMany => first | k_is | rfl | decide +kernel)
    (case qo8_TooMany => first | k_is | rfl | decide +kernel)
    (case qo9_TooMany => first | k_is | rfl | decide +kernel)
    (case qo10_TooMany => first | k_is | rfl | decide +kernel)
    (case qo11_TooMany => first | k_is | rfl | decide +kernel)
    (case qo12_TooMany => first | k_is | rfl | decide +kernel)
    (case qo13_TooMany => first | k_is | rfl | decide +kernel)
    (case qo14_TooMany => first | k_is | rfl | decide +kernel)
