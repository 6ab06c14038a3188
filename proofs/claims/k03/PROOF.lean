import PyProof.Rows.All
import Wide.All
import OpenK.AllK
import Wide.FinOn
import PySem.Challenge.RW_curvefaces_k03_blocks
import HandS.ForMost
import HandS.TupAny
import HandS.Flow
import HandS.IsInst
import HandS.Evl
import HandS.Deep
import HandS.Walk
import HandS.EndOwn
import HandS.Nested
import HandS.Zip0
import HandS.Zip
import HandS.EndTab
import HandS.AnyAll
import KE.GoesZip
import PyProof.GenCompD
import PyProof.GenCompT
import HandS.Conv
set_option Elab.async false
set_option linter.all false
set_option maxRecDepth 100000
set_option maxHeartbeats 1000000
namespace CF
open PySem PySem.Spec PyProof.Rows L2 Evl
/-! ### data without lists: none, bools, ints, texts, tuples; it stays whatever is done to lists -/
mutual
inductive Dt (K : PySem.W.Frag) (H : Hp) : V → PyData → Prop
  | non : Dt K H .non .none
  | bl (b : Bool) : Dt K H (.bl b) (.bool b)
  | int (i : Int) : Dt K H (.int i) (.int i)
  | str (x : Str) : Dt K H (.str x) (.str x)
  | tup {a : Addr} {xs : List V} {ds : List PyData} : SqT K H a xs → DtAll K H xs ds → Dt K H (.ref a) (.tuple ds)
inductive DtAll (K : PySem.W.Frag) (H : Hp) : List V → List PyData → Prop
  | nil : DtAll K H [] []
  | cons {v : V} {vs : List V} {d : PyData} {ds : List PyData} : Dt K H v d → DtAll K H vs ds → DtAll K H (v :: vs) (d :: ds)
end
/-- what is a tuple (or locked) stays -/
def Tx (H H' : Hp) : Prop := ∀ a u, Rd H a (.tup u) → Rd H' a (.tup u)
theorem Tx.refl (H : Hp) : Tx H H := fun _ _ h => h
theorem Tx.trans {H H1 H2 : Hp} (a : Tx H H1) (b : Tx H1 H2) : Tx H H2 := fun c u h => b c u (a c u h)
theorem tx_of {H H' : Hp} (e : Ex H H') : Tx H H' := fun _ _ h => ex_rd e h
/-- a store at a list -/
theorem tx_lst {H : Hp} {D : Addr} {o : HO} {xs : List V} (h : H D = some (.lst xs)) : Tx H (upd H D o) := fun a u r => by
  have n : a ≠ D := fun z => by
    subst z
    rcases r with r | ⟨o, r⟩ <;> (rw [h] at r; cases r)
  rcases r with r | ⟨o, r⟩
  · exact .inl (by rw [upd_ne n]; exact r)
  · exact .inr ⟨o, by rw [upd_ne n]; exact r⟩
theorem tx_sq {K : PySem.W.Frag} {H H' : Hp} {a : Addr} {xs : List V} (e : Tx H H') (h : SqT K H a xs) : SqT K H' a xs := by
  rcases h with h | h
  · exact .inl (e _ _ h)
  · exact .inr h
mutual
theorem dt_tx {K : PySem.W.Frag} {H H' : Hp} (e : Tx H H') : ∀ {v : V} {d : PyData}, Dt K H v d → Dt K H' v d
  | _, _, .non => .non
  | _, _, .bl b => .bl b
  | _, _, .int i => .int i
  | _, _, .str x => .str x
  | _, _, .tup h a => .tup (tx_sq e h) (dta_tx e a)
theorem dta_tx {K : PySem.W.Frag} {H H' : Hp} (e : Tx H H') : ∀ {vs : List V} {ds : List PyData}, DtAll K H vs ds → DtAll K H' vs ds
  | _, _, .nil => .nil
  | _, _, .cons h t => .cons (dt_tx e h) (dta_tx e t)
end
theorem dt_ex {K : PySem.W.Frag} {H H' : Hp} (e : Ex H H') {v : V} {d : PyData} (h : Dt K H v d) : Dt K H' v d := dt_tx (tx_of e) h
theorem dta_ex {K : PySem.W.Frag} {H H' : Hp} (e : Ex H H') {vs : List V} {ds : List PyData} (h : DtAll K H vs ds) : DtAll K H' vs ds := dta_tx (tx_of e) h
mutual
theorem dt_dp {K : PySem.W.Frag} {H : Hp} : ∀ {v : V} {d : PyData}, Dt K H v d → Dp K H v d
  | _, _, .non => .non
  | _, _, .bl b => .bl b
  | _, _, .int i => .int i
  | _, _, .str x => .str x
  | _, _, .tup h a => .tup h (dta_dp a)
theorem dta_dp {K : PySem.W.Frag} {H : Hp} : ∀ {vs : List V} {ds : List PyData}, DtAll K H vs ds → DpAll K H vs ds
  | _, _, .nil => .nil
  | _, _, .cons h t => .cons (dt_dp h) (dta_dp t)
end
section
variable {K : PySem.W.Frag} {H : Hp}
theorem dta_len : ∀ {vs : List V} {ds : List PyData}, DtAll K H vs ds → vs.length = ds.length
  | _, _, .nil => rfl
  | _, _, .cons _ t => by rw [List.length_cons, List.length_cons, dta_len t]
theorem dta_get : ∀ {vs : List V} {ds : List PyData} {i : Nat} {v : V}, DtAll K H vs ds → vs[i]? = some v → ∃ d, ds[i]? = some d ∧ Dt K H v d
  | _, _, _, _, .nil, e => by simp at e
  | _, _, 0, _, .cons h _, e => by simp at e; subst e; exact ⟨_, rfl, h⟩
  | _, _, i + 1, v, .cons _ t, e => by
    obtain ⟨d, h1, h2⟩ := dta_get (i := i) (v := v) t (by simpa using e)
    exact ⟨d, by simpa using h1, h2⟩
theorem dta_get' : ∀ {vs : List V} {ds : List PyData} {i : Nat} {d : PyData}, DtAll K H vs ds → ds[i]? = some d → ∃ v, vs[i]? = some v ∧ Dt K H v d
  | _, _, _, _, .nil, e => by simp at e
  | _, _, 0, _, .cons h _, e => by simp at e; subst e; exact ⟨_, rfl, h⟩
  | _, _, i + 1, d, .cons _ t, e => by
    obtain ⟨v, h1, h2⟩ := dta_get' (i := i) (d := d) t (by simpa using e)
    exact ⟨v, by simpa using h1, h2⟩
theorem dta_app : ∀ {vs ws : List V} {ds es : List PyData}, DtAll K H vs ds → DtAll K H ws es → DtAll K H (vs ++ ws) (ds ++ es)
  | _, _, _, _, .nil, s => s
  | _, _, _, _, .cons h t, s => .cons h (dta_app t s)
theorem dta_one {v : V} {d : PyData} (h : Dt K H v d) : DtAll K H [v] [d] := .cons h .nil
theorem dta_take : ∀ {vs : List V} {ds : List PyData} (n : Nat), DtAll K H vs ds → DtAll K H (vs.take n) (ds.take n)
  | _, _, 0, _ => .nil
  | _, _, _ + 1, .nil => .nil
  | _, _, n + 1, .cons h t => .cons h (dta_take n t)
theorem dta_drop : ∀ {vs : List V} {ds : List PyData} (n : Nat), DtAll K H vs ds → DtAll K H (vs.drop n) (ds.drop n)
  | _, _, 0, r => r
  | _, _, _ + 1, .nil => .nil
  | _, _, n + 1, .cons _ t => dta_drop n t
theorem dta_ints : ∀ (l : List Int), DtAll K H (l.map V.int) (l.map PyData.int)
  | [] => .nil
  | i :: l => .cons (.int i) (dta_ints l)
theorem dta_ints_inv : ∀ {vs : List V} {l : List Int}, DtAll K H vs (l.map PyData.int) → vs = l.map V.int
  | _, [], .nil => rfl
  | _, i :: l, .cons h t => by
    cases h
    rw [dta_ints_inv t]
    rfl
end

/-! ### a new address apart -/
theorem ne_free {H : Hp} {p q : Addr} {o : HO} (h : H q = some o) (n : H p = none) : p ≠ q := fun e => by
  subst e; rw [n] at h; cases h

/-! ### what evaluates to which data -/
def EvD (K : PySem.W.Frag) (te : TE) (σ : L2.St) (H : Hp) (d : PyData) : Prop := ∀ H1, Ex H H1 → ∀ Q : VK, (∀ v H2, Ex H1 H2 → Dt K H2 v d → Q v H2) → te σ H1 Q
/-- a new list of data -/
def EvF (K : PySem.W.Frag) (te : TE) (σ : L2.St) (H : Hp) (ds : List PyData) : Prop := ∀ H1, Ex H H1 → ∀ Q : VK, (∀ p xs H2, H1 p = none → Ex H1 H2 → H2 p = some (.lst xs) → DtAll K H2 xs ds → Q (.ref p) H2) → te σ H1 Q
def EvB (K : PySem.W.Frag) (ta : TA) (σ : L2.St) (H : Hp) (ds : List PyData) : Prop := ∀ H1, Ex H H1 → ∀ Q : List V → Hp → Prop, (∀ vs H2, Ex H1 H2 → DtAll K H2 vs ds → Q vs H2) → ta σ H1 Q
section
variable {K : PySem.W.Frag} {σ : L2.St} {H H' : Hp} {ta tb te tx : TE} {t u : TT} {x y z v : V} {r : R2} {d : PyData} {ds es : List PyData}
theorem EvD.mono (e : Ex H H') (h : EvD K te σ H d) : EvD K te σ H' d := fun H1 a Q q => h H1 (e.trans a) Q q
theorem EvF.mono (e : Ex H H') (h : EvF K te σ H ds) : EvF K te σ H' ds := fun H1 a Q q => h H1 (e.trans a) Q q
theorem ed_var {i : Nat} (h : σ[i]? = some (some v)) (hd : Dt K H v d) : EvD K (tVar i) σ H d := fun H1 e _ q => ⟨v, h, q v H1 (Ex.refl H1) (dt_ex e hd)⟩
theorem ed_ev (h : Ev te σ H v) (hd : Dt K H v d) : EvD K te σ H d := fun H1 e Q q => h H1 e Q fun H2 e2 => q v H2 e2 (dt_ex (e.trans e2) hd)
theorem ev_int {i : Int} (h : EvD K te σ H (.int i)) : Ev te σ H (.int i) := fun H1 e Q q => h H1 e Q fun v H2 e2 hd => by
  cases hd
  exact q H2 e2
theorem ev_bl {b : Bool} (h : EvD K te σ H (.bool b)) : Ev te σ H (.bl b) := fun H1 e Q q => h H1 e Q fun v H2 e2 hd => by
  cases hd
  exact q H2 e2
theorem ev_str {s : Str} (h : EvD K te σ H (.str s)) : Ev te σ H (.str s) := fun H1 e Q q => h H1 e Q fun v H2 e2 hd => by
  cases hd
  exact q H2 e2
theorem ed_int {i : Int} (h : Ev te σ H (.int i)) : EvD K te σ H (.int i) := ed_ev h (.int i)
theorem ed_bl {b : Bool} (h : Ev te σ H (.bl b)) : EvD K te σ H (.bool b) := ed_ev h (.bl b)
theorem ed_is {e : PyData} (h : EvD K te σ H d) (q : d = e) : EvD K te σ H e := q ▸ h
theorem ef_is (h : EvF K te σ H ds) (q : ds = es) : EvF K te σ H es := q ▸ h
theorem eb_nil : EvB K tNil σ H [] := fun H1 _ _ q => q [] H1 (Ex.refl H1) .nil
theorem eb_cons {tr : TA} (h : EvD K ta σ H d) (hr : EvB K tr σ H ds) : EvB K (tCons ta tr) σ H (d :: ds) := fun H1 e _ q =>
  h H1 e _ fun v H2 e2 hd => hr H2 (e.trans e2) _ fun vs H3 e3 ha => q (v :: vs) H3 (e2.trans e3) (.cons (dt_ex e3 hd) ha)
theorem ed_tup {ta : TA} (h : EvB K ta σ H ds) (hl : ds.length ≤ 100000) : EvD K (tTup ta) σ H (.tuple ds) := fun H1 e _ q =>
  h H1 e _ fun vs H2 e2 ha => ⟨sz_of (by rw [dta_len ha]; exact hl), fun p hp => q _ _ (e2.trans (Ex.new hp)) (.tup (.inl (.inl upd_same)) (dta_ex (Ex.new hp) ha))⟩
theorem ef_lst {ta : TA} (h : EvB K ta σ H ds) (hl : ds.length ≤ 100000) : EvF K (tLst ta) σ H ds := fun H1 e _ q =>
  h H1 e _ fun vs H2 e2 ha => ⟨sz_of (by rw [dta_len ha]; exact hl), fun p hp => q p vs _ (fresh_back e2 hp) (e2.trans (Ex.new hp)) upd_same (dta_ex (Ex.new hp) ha)⟩
/-- t + u -/
theorem ed_cat {xs ys : List PyData} (ha : EvD K ta σ H (.tuple xs)) (hb : EvD K tb σ H (.tuple ys)) (hl : xs.length + ys.length ≤ 100000) : EvD K (tOp (rCatA K) ta tb) σ H (.tuple (xs ++ ys)) := fun H1 e Q q =>
  ha H1 e _ fun v H2 e2 hv => hb H2 (e.trans e2) _ fun w H3 e3 hw => by
    have hv := dt_ex e3 hv
    cases hv with
    | tup hs hx =>
      cases hw with
      | tup ht hy =>
        rename_i a vs b ws
        refine ⟨_, _, _, _, rfl, rfl, hs, ht, sz_of (by rw [dta_len hx, dta_len hy]; exact hl), fun z => ?_, fun _ z => ?_, fun _ _ p hp => ?_⟩
        · subst z
          cases hx
          exact q _ _ (e2.trans e3) (.tup ht hy)
        · subst z
          cases hy
          rw [List.append_nil] at q
          exact q _ _ (e2.trans e3) (.tup hs hx)
        · exact q _ _ ((e2.trans e3).trans (Ex.new hp)) (.tup (.inl (.inl upd_same)) (dta_ex (Ex.new hp) (dta_app hx hy)))
theorem atI_dta {vs : List V} {i : Int} (h : DtAll K H vs ds) (e : atI ds i = some d) : ∃ v, atI vs i = some v ∧ Dt K H v d := by
  unfold atI at e ⊢
  rw [dta_len h]
  cases q : ixN ds.length i with
  | none => rw [q] at e; cases e
  | some j =>
    rw [q] at e
    exact dta_get' h e
theorem ed_ixT {i : Int} (ha : EvD K ta σ H (.tuple ds)) (hb : Ev tb σ H (.int i)) (h : atI ds i = some d) : EvD K (tOp (rIxT K) ta tb) σ H d := fun H1 e Q q =>
  ha H1 e _ fun v H2 e2 hv => hb H2 (e.trans e2) _ fun H3 e3 => by
    have hv := dt_ex e3 hv
    cases hv with
    | tup hs hx =>
      obtain ⟨w, hw, hd⟩ := atI_dta hx h
      exact ⟨_, _, i, w, rfl, rfl, hs, hw, q w H3 (e2.trans e3) hd⟩
/-- xs[i] of a list that stands -/
theorem ed_ixL {i : Int} {a : Addr} {xs : List V} (ha : Ev ta σ H (.ref a)) (hs : SqL K H a xs) (hx : DtAll K H xs ds) (hb : Ev tb σ H (.int i)) (h : atI ds i = some d) : EvD K (tOp (rIxL K) ta tb) σ H d := fun H1 e Q q =>
  ha H1 e _ fun H2 e2 => hb H2 (e.trans e2) _ fun H3 e3 => by
    obtain ⟨w, hw, hd⟩ := atI_dta (dta_ex ((e.trans e2).trans e3) hx) h
    exact ⟨_, _, i, w, rfl, rfl, ex_l ((e.trans e2).trans e3) hs, hw, q w H3 (e2.trans e3) hd⟩
/-- [..][i]: of a list made on the way -/
theorem ed_ixF {i : Int} (ha : EvF K ta σ H ds) (hb : Ev tb σ H (.int i)) (h : atI ds i = some d) : EvD K (tOp (rIxL K) ta tb) σ H d := fun H1 e Q q =>
  ha H1 e _ fun p xs H2 _ e2 hp hx => hb H2 (e.trans e2) _ fun H3 e3 => by
    obtain ⟨w, hw, hd⟩ := atI_dta (dta_ex e3 hx) h
    exact ⟨_, _, i, w, rfl, rfl, sq_of (e3 p _ hp), hw, q w H3 (e2.trans e3) hd⟩
theorem ev_lenT (ha : EvD K ta σ H (.tuple ds)) : Ev (tCB (rLenS K) (tCons ta tNil)) σ H (.int (ds.length : Int)) := fun H1 e Q q =>
  ha H1 e _ fun v H2 e2 hv => by
    cases hv with
    | tup hs hx =>
      refine ⟨_, _, rfl, .inr hs, ?_⟩
      rw [dta_len hx]
      exact q H2 e2
theorem ev_lenF (ha : EvF K ta σ H ds) : Ev (tCB (rLenS K) (tCons ta tNil)) σ H (.int (ds.length : Int)) := fun H1 e Q q =>
  ha H1 e _ fun p xs H2 _ e2 hp hx => ⟨p, xs, rfl, .inl (sq_of hp), by rw [dta_len hx]; exact q H2 e2⟩
theorem ev_lenD {a : Addr} {xs : List V} (ha : Ev ta σ H (.ref a)) (hs : SqL K H a xs) (hx : DtAll K H xs ds) : Ev (tCB (rLenS K) (tCons ta tNil)) σ H (.int (ds.length : Int)) := by
  rw [← dta_len hx]
  exact ev_len ha hs
/-- xs + ys -/
theorem ef_catLF {p : Addr} {xs : List V} (ha : Ev ta σ H (.ref p)) (hp : H p = some (.lst xs)) (hx : DtAll K H xs ds) (hb : EvF K tb σ H es) (hl : ds.length + es.length ≤ 100000) : EvF K (tOp rCat ta tb) σ H (ds ++ es) := fun H1 e Q q =>
  ha H1 e _ fun H2 e2 => hb H2 (e.trans e2) _ fun b ys H3 _ e3 hb' hy =>
    ⟨_, _, _, _, rfl, rfl, ((e.trans e2).trans e3) p _ hp, hb', sz_of (by rw [dta_len hx, dta_len hy]; exact hl), fun n hn =>
      q n _ _ (fresh_back (e2.trans e3) hn) ((e2.trans e3).trans (Ex.new hn)) upd_same (dta_ex (Ex.new hn) (dta_app (dta_ex ((e.trans e2).trans e3) hx) hy))⟩
theorem ef_catFF (ha : EvF K ta σ H ds) (hb : EvF K tb σ H es) (hl : ds.length + es.length ≤ 100000) : EvF K (tOp rCat ta tb) σ H (ds ++ es) := fun H1 e Q q =>
  ha H1 e _ fun p xs H2 np e2 hp hx => hb H2 (e.trans e2) _ fun b ys H3 _ e3 hb' hy =>
    ⟨_, _, _, _, rfl, rfl, e3 p _ hp, hb', sz_of (by rw [dta_len hx, dta_len hy]; exact hl), fun n hn =>
      q n _ _ (fresh_back (e2.trans e3) hn) ((e2.trans e3).trans (Ex.new hn)) upd_same (dta_ex (Ex.new hn) (dta_app (dta_ex e3 hx) hy))⟩
/-! calls of defs that hand on data -/
def spD (K : PySem.W.Frag) (pre : List PyData → Prop) (f : List PyData → PyData) : Sp := fun vs H Q _ => ∃ ds, DtAll K H vs ds ∧ pre ds ∧ ∀ v H2, Ex H H2 → Dt K H2 v (f ds) → Q v H2
def spF (K : PySem.W.Frag) (pre : List PyData → Prop) (f : List PyData → List PyData) : Sp := fun vs H Q _ => ∃ ds, DtAll K H vs ds ∧ pre ds ∧ ∀ p xs H2, H p = none → Ex H H2 → H2 p = some (.lst xs) → DtAll K H2 xs (f ds) → Q (.ref p) H2
theorem ed_call {pre : List PyData → Prop} {f : List PyData → PyData} {E : XK} {ta : TA} (h : EvB K ta σ H ds) (hp : pre ds) : EvD K (tCall (spD K pre f) [] E ta) σ H (f ds) := fun H1 e Q q =>
  h H1 e _ fun vs H2 e2 ha => by
    show spD K pre f (vs ++ []) H2 Q E
    rw [List.append_nil]
    exact ⟨ds, ha, hp, fun v H3 e3 hd => q v H3 (e2.trans e3) hd⟩
theorem ef_call {pre : List PyData → Prop} {f : List PyData → List PyData} {E : XK} {ta : TA} (h : EvB K ta σ H ds) (hp : pre ds) : EvF K (tCall (spF K pre f) [] E ta) σ H (f ds) := fun H1 e Q q =>
  h H1 e _ fun vs H2 e2 ha => by
    show spF K pre f (vs ++ []) H2 Q E
    rw [List.append_nil]
    exact ⟨ds, ha, hp, fun p xs H3 np e3 hx hd => q p xs H3 (fresh_back e2 np) (e2.trans e3) hx hd⟩
/-! == and != -/
theorem ev_eqDD {d e : PyData} (ha : EvD K ta σ H d) (hb : EvD K tb σ H e) (sd : SeqAt.shaped d = true) (se : SeqAt.shaped e = true) : Ev (tOp (rEqD K) ta tb) σ H (.bl (PyData.eqv d e)) := fun H1 e1 Q q =>
  ha H1 e1 _ fun v H2 e2 hv => hb H2 (e1.trans e2) _ fun w H3 e3 hw => ⟨d, e, dt_dp (dt_ex e3 hv), dt_dp hw, sd, se, q H3 (e2.trans e3)⟩
theorem ev_neDD {d e : PyData} (ha : EvD K ta σ H d) (hb : EvD K tb σ H e) (sd : SeqAt.shaped d = true) (se : SeqAt.shaped e = true) : Ev (tOp (rNeD K) ta tb) σ H (.bl (!PyData.eqv d e)) := fun H1 e1 Q q =>
  ha H1 e1 _ fun v H2 e2 hv => hb H2 (e1.trans e2) _ fun w H3 e3 hw => ⟨d, e, dt_dp (dt_ex e3 hv), dt_dp hw, sd, se, q H3 (e2.trans e3)⟩
theorem ev_neFF (ha : EvF K ta σ H ds) (hb : EvF K tb σ H es) (sd : SeqAt.shaped (.list ds) = true) (se : SeqAt.shaped (.list es) = true) : Ev (tOp (rNeD K) ta tb) σ H (.bl (!PyData.eqv (.list ds) (.list es))) := fun H1 e1 Q q =>
  ha H1 e1 _ fun p xs H2 _ e2 hp hx => hb H2 (e1.trans e2) _ fun r ys H3 _ e3 hr hy => ⟨_, _, .lst (sq_of (e3 p _ hp)) (dta_dp (dta_ex e3 hx)), .lst (sq_of hr) (dta_dp hy), sd, se, q H3 (e2.trans e3)⟩
theorem ev_eqFF (ha : EvF K ta σ H ds) (hb : EvF K tb σ H es) (sd : SeqAt.shaped (.list ds) = true) (se : SeqAt.shaped (.list es) = true) : Ev (tOp (rEqD K) ta tb) σ H (.bl (PyData.eqv (.list ds) (.list es))) := fun H1 e1 Q q =>
  ha H1 e1 _ fun p xs H2 _ e2 hp hx => hb H2 (e1.trans e2) _ fun r ys H3 _ e3 hr hy => ⟨_, _, .lst (sq_of (e3 p _ hp)) (dta_dp (dta_ex e3 hx)), .lst (sq_of hr) (dta_dp hy), sd, se, q H3 (e2.trans e3)⟩
/-- lists that stand -/
theorem rv_neL {a b : Addr} {xs ys : List V} (h1 : SqL K H a xs) (hx : DtAll K H xs ds) (h2 : SqL K H b ys) (hy : DtAll K H ys es) (sd : SeqAt.shaped (.list ds) = true) (se : SeqAt.shaped (.list es) = true) : RV (rNeD K) (.ref a) (.ref b) H (.bl (!PyData.eqv (.list ds) (.list es))) := fun H1 e Q q =>
  ⟨_, _, .lst (ex_l e h1) (dta_dp (dta_ex e hx)), .lst (ex_l e h2) (dta_dp (dta_ex e hy)), sd, se, q H1 (Ex.refl H1)⟩
/-! comprehensions -/
def Cd (K : PySem.W.Frag) (H : Hp) (Dl : Addr) (ds : List PyData) (H' : Hp) : Prop := H Dl = none ∧ Ex H H' ∧ ∃ acc, H' Dl = some (.lst acc) ∧ DtAll K H' acc ds
theorem cd_turn {H H' : Hp} {Dl : Addr} {ds : List PyData} {b : Bool} {d : PyData} {σ2 : L2.St} (p : Cd K H Dl ds H') (hi : ds.length < 50000) (ht : EvT t σ2 H' b) (he : b = true → EvD K te σ2 H' d) :
    t σ2 H' fun b H3 => if b = true then te σ2 H3 fun y H4 => ∃ acc, H4 Dl = some (.lst acc) ∧ acc.length < sizeLine ∧ Cd K H Dl (ds ++ [d]) (upd H4 Dl (.lst (acc ++ [y]))) else Cd K H Dl ds H3 := by
  obtain ⟨p1, p2, acc, p3, p4⟩ := p
  refine ht H' (Ex.refl H') _ fun H3 e3 => ?_
  cases b with
  | true =>
    show te σ2 H3 fun y H4 => _
    refine (he rfl) H3 e3 _ fun y H4 e4 hd => ⟨acc, e4 Dl _ (e3 Dl _ p3), sz_lt (by rw [dta_len p4]; omega), p1, Ex.mut ((p2.trans e3).trans e4) p1, _, upd_same, ?_⟩
    exact dta_tx (tx_lst (e4 Dl _ (e3 Dl _ p3))) (dta_app (dta_ex (e3.trans e4) p4) (dta_one hd))
  | false => exact ⟨p1, p2.trans e3, acc, e3 Dl _ p3, dta_ex e3 p4⟩
theorem filter_take_succ {α : Type} {f : α → Bool} {l : List α} {i : Nat} {a : α} (h : l[i]? = some a) : (l.take (i + 1)).filter f = (l.take i).filter f ++ (if f a = true then [a] else []) := by
  rw [List.take_add_one, h, List.filter_append]
  show _ ++ List.filter f [a] = _
  rw [List.filter_cons]
  cases f a <;> rfl
/-- the turn of a comprehension over things as .. filtered by f, told by g -/
theorem cd_step {α : Type} {f : α → Bool} {g : α → PyData} {l : List α} {H H' : Hp} {Dl : Addr} {i : Nat} {a : α} {σ2 : L2.St} (p : Cd K H Dl (((l.take i).filter f).map g) H') (hl : l.length < 50000) (ha : l[i]? = some a) (ht : EvT t σ2 H' (f a)) (he : f a = true → EvD K te σ2 H' (g a)) :
    t σ2 H' fun b H3 => if b = true then te σ2 H3 fun y H4 => ∃ acc, H4 Dl = some (.lst acc) ∧ acc.length < sizeLine ∧ Cd K H Dl (((l.take (i + 1)).filter f).map g) (upd H4 Dl (.lst (acc ++ [y]))) else Cd K H Dl (((l.take (i + 1)).filter f).map g) H3 := by
  have hz : (((l.take i).filter f).map g).length < 50000 := by
    rw [List.length_map]
    have h1 := List.length_filter_le f (l.take i)
    have h2 : (l.take i).length ≤ l.length := by rw [List.length_take]; exact Nat.min_le_right _ _
    omega
  obtain ⟨p1, p2, acc, p3, p4⟩ := p
  refine ht H' (Ex.refl H') _ fun H3 e3 => ?_
  have e1 := filter_take_succ (f := f) ha
  cases hb : f a with
  | true =>
    rw [hb, if_pos rfl] at e1
    refine iteT ?_
    refine he hb H3 e3 _ fun y H4 e4 hd => ⟨acc, e4 Dl _ (e3 Dl _ p3), sz_lt (by rw [dta_len p4]; omega), p1, Ex.mut ((p2.trans e3).trans e4) p1, _, upd_same, ?_⟩
    rw [e1, List.map_append]
    exact dta_tx (tx_lst (e4 Dl _ (e3 Dl _ p3))) (dta_app (dta_ex (e3.trans e4) p4) (dta_one hd))
  | false =>
    rw [hb, if_neg Bool.false_ne_true, List.append_nil] at e1
    refine iteF ?_
    rw [e1]
    exact ⟨p1, p2.trans e3, acc, e3 Dl _ p3, dta_ex e3 p4⟩
/-- over a list that stands -/
theorem ef_lcL {a : Addr} {xs : List V} {tl : TE} {j : Nat} {vs : List Nat} (f : PyData → Bool) (g : PyData → PyData) (h : Ev tl σ H (.ref a)) (hx : SqL K H a xs) (hd : DtAll K H xs ds) (hz : ds.length < 50000) (hw : ∀ x, wipe ((wipe σ vs).set j (some x)) vs = wipe σ vs)
    (ht : ∀ (d : PyData) (x : V) H1, Ex H H1 → d ∈ ds → Dt K H1 x d → EvT t ((wipe σ vs).set j (some x)) H1 (f d)) (he : ∀ (d : PyData) (x : V) H1, Ex H H1 → d ∈ ds → Dt K H1 x d → f d = true → EvD K te ((wipe σ vs).set j (some x)) H1 (g d)) :
    EvF K (tLc (iList K tl) (gName j) t te vs) σ H ((ds.filter f).map g) := fun H0 e Q q => h H0 e _ fun H1 e1 => ⟨a, rfl, ⟨xs, ex_l (e.trans e1) hx⟩, fun Dl hD =>
  lc_list (xs := xs) (fun i H' => Cd K H1 Dl (((ds.take i).filter f).map g) H') ⟨hD, Ex.new hD, [], upd_same, .nil⟩ (fun i H' _ p => ex_l ((e.trans e1).trans p.2.1) hx) (fun i x H' hi p => by
      obtain ⟨d, h1, h2⟩ := dta_get (dta_ex ((e.trans e1).trans p.2.1) hd) hi
      have hm := List.mem_of_getElem? h1
      have e3 := (e.trans e1).trans p.2.1
      exact ⟨hw x, cd_step p hz h1 (ht d x H' e3 hm h2) (fun hf => he d x H' e3 hm h2 hf)⟩)
    (fun H' p => by
      obtain ⟨p1, p2, acc, p3, p4⟩ := p
      have e5 : ds.take xs.length = ds := List.take_of_length_le (by rw [dta_len hd]; exact Nat.le_refl _)
      rw [e5] at p4
      exact q Dl acc H' (fresh_back e1 p1) (e1.trans p2) p3 p4)⟩
/-- over a tuple -/
theorem ef_lcT {tl : TE} {j : Nat} {vs : List Nat} (f : PyData → Bool) (g : PyData → PyData) (h : EvD K tl σ H (.tuple ds)) (hz : ds.length < 50000) (hw : ∀ x, wipe ((wipe σ vs).set j (some x)) vs = wipe σ vs)
    (ht : ∀ (d : PyData) (x : V) H1, Ex H H1 → d ∈ ds → Dt K H1 x d → EvT t ((wipe σ vs).set j (some x)) H1 (f d)) (he : ∀ (d : PyData) (x : V) H1, Ex H H1 → d ∈ ds → Dt K H1 x d → f d = true → EvD K te ((wipe σ vs).set j (some x)) H1 (g d)) :
    EvF K (tLc (iTup K tl) (gName j) t te vs) σ H ((ds.filter f).map g) := fun H0 e Q q => h H0 e _ fun v H1 e1 hv => by
  cases hv with
  | tup hx hd =>
    rename_i a xs
    exact ⟨a, rfl, ⟨xs, hx⟩, fun Dl hD =>
      lc_tup (xs := xs) (fun i H' => Cd K H1 Dl (((ds.take i).filter f).map g) H') ⟨hD, Ex.new hD, [], upd_same, .nil⟩ (fun i H' _ p => ex_t p.2.1 hx) (fun i x H' hi p => by
          obtain ⟨d, h1, h2⟩ := dta_get (dta_ex p.2.1 hd) hi
          have hm := List.mem_of_getElem? h1
          have e3 := (e.trans e1).trans p.2.1
          exact ⟨hw x, cd_step p hz h1 (ht d x H' e3 hm h2) (fun hf => he d x H' e3 hm h2 hf)⟩)
        (fun H' p => by
          obtain ⟨p1, p2, acc, p3, p4⟩ := p
          have e5 : ds.take xs.length = ds := List.take_of_length_le (by rw [dta_len hd]; exact Nat.le_refl _)
          rw [e5] at p4
          exact q Dl acc H' (fresh_back e1 p1) (e1.trans p2) p3 p4)⟩
/-- over a list made on the way -/
theorem ef_lcF {tl : TE} {j : Nat} {vs : List Nat} (f : PyData → Bool) (g : PyData → PyData) (h : EvF K tl σ H ds) (hz : ds.length < 50000) (hw : ∀ x, wipe ((wipe σ vs).set j (some x)) vs = wipe σ vs)
    (ht : ∀ (d : PyData) (x : V) H1, Ex H H1 → d ∈ ds → Dt K H1 x d → EvT t ((wipe σ vs).set j (some x)) H1 (f d)) (he : ∀ (d : PyData) (x : V) H1, Ex H H1 → d ∈ ds → Dt K H1 x d → f d = true → EvD K te ((wipe σ vs).set j (some x)) H1 (g d)) :
    EvF K (tLc (iList K tl) (gName j) t te vs) σ H ((ds.filter f).map g) := fun H0 e Q q => h H0 e _ fun a xs H1 ha e1 hx hd => ⟨a, rfl, ⟨xs, sq_of hx⟩, fun Dl hD =>
  lc_list (xs := xs) (fun i H' => Cd K H1 Dl (((ds.take i).filter f).map g) H') ⟨hD, Ex.new hD, [], upd_same, .nil⟩ (fun i H' _ p => sq_of (p.2.1 a _ hx)) (fun i x H' hi p => by
      obtain ⟨d, h1, h2⟩ := dta_get (dta_ex p.2.1 hd) hi
      have hm := List.mem_of_getElem? h1
      have e3 := (e.trans e1).trans p.2.1
      exact ⟨hw x, cd_step p hz h1 (ht d x H' e3 hm h2) (fun hf => he d x H' e3 hm h2 hf)⟩)
    (fun H' p => by
      obtain ⟨p1, p2, acc, p3, p4⟩ := p
      have e5 : ds.take xs.length = ds := List.take_of_length_le (by rw [dta_len hd]; exact Nat.le_refl _)
      rw [e5] at p4
      exact q Dl acc H' (fresh_back e1 p1) (e1.trans p2) p3 p4)⟩
/-- the ints lo, lo + 1, .. below hi -/
def upTo (lo hi : Int) : List Int := (List.range (hi - lo).toNat).map fun (i : Nat) => lo + (i : Int)
theorem upTo_get {lo hi : Int} {i : Nat} (h : i < (hi - lo).toNat) : (upTo lo hi)[i]? = some (lo + (i : Int)) := by
  unfold upTo
  rw [List.getElem?_map, List.getElem?_range h]
  rfl
theorem upTo_len (lo hi : Int) : (upTo lo hi).length = (hi - lo).toNat := by
  unfold upTo
  rw [List.length_map, List.length_range]
theorem ef_lcR2 {ta : TA} {j : Nat} {vs : List Nat} {lo hi : Int} (f : Int → Bool) (g : Int → PyData) (h : EvA ta σ H [.int lo, .int hi]) (hn : -10000 ≤ lo ∧ lo ≤ 10000 ∧ -10000 ≤ hi ∧ hi ≤ 10000) (hw : ∀ x, wipe ((wipe σ vs).set j (some x)) vs = wipe σ vs)
    (ht : ∀ (i : Int) H1, Ex H H1 → lo ≤ i → i < hi → EvT t ((wipe σ vs).set j (some (.int i))) H1 (f i)) (he : ∀ (i : Int) H1, Ex H H1 → lo ≤ i → i < hi → f i = true → EvD K te ((wipe σ vs).set j (some (.int i))) H1 (g i)) :
    EvF K (tLc (iRng2 ta) (gName j) t te vs) σ H (((upTo lo hi).filter f).map g) := fun H0 e Q q => h H0 e _ fun H1 e1 => ⟨lo, hi, rfl, ⟨by omega, by omega, by omega, by omega⟩, fun Dl hD =>
  lc_range (lo := lo) (n := (hi - lo).toNat) (fun i H' => Cd K H1 Dl ((((upTo lo hi).take i).filter f).map g) H') ⟨hD, Ex.new hD, [], upd_same, .nil⟩ (fun i H' hi p => by
      have e3 := (e.trans e1).trans p.2.1
      exact ⟨hw _, cd_step p (by rw [upTo_len]; omega) (upTo_get hi) (ht _ H' e3 (by omega) (by omega)) (fun hf => he _ H' e3 (by omega) (by omega) hf)⟩)
    (fun H' p => by
      obtain ⟨p1, p2, acc, p3, p4⟩ := p
      have e5 : (upTo lo hi).take (hi - lo).toNat = upTo lo hi := List.take_of_length_le (by rw [upTo_len]; exact Nat.le_refl _)
      rw [e5] at p4
      exact q Dl acc H' (fresh_back e1 p1) (e1.trans p2) p3 p4)⟩
theorem ef_lcR1 {ta : TA} {j : Nat} {vs : List Nat} {hi : Int} (f : Int → Bool) (g : Int → PyData) (h : EvA ta σ H [.int hi]) (hn : -10000 ≤ hi ∧ hi ≤ 10000) (hw : ∀ x, wipe ((wipe σ vs).set j (some x)) vs = wipe σ vs)
    (ht : ∀ (i : Int) H1, Ex H H1 → 0 ≤ i → i < hi → EvT t ((wipe σ vs).set j (some (.int i))) H1 (f i)) (he : ∀ (i : Int) H1, Ex H H1 → 0 ≤ i → i < hi → f i = true → EvD K te ((wipe σ vs).set j (some (.int i))) H1 (g i)) :
    EvF K (tLc (iRng1 ta) (gName j) t te vs) σ H (((upTo 0 hi).filter f).map g) := fun H0 e Q q => h H0 e _ fun H1 e1 => ⟨hi, rfl, by omega, by omega, fun Dl hD =>
  lc_range (lo := 0) (n := hi.toNat) (fun i H' => Cd K H1 Dl ((((upTo 0 hi).take i).filter f).map g) H') ⟨hD, Ex.new hD, [], upd_same, .nil⟩ (fun i H' hi p => by
      have e3 := (e.trans e1).trans p.2.1
      exact ⟨hw _, cd_step p (by rw [upTo_len]; omega) (upTo_get (by omega)) (ht _ H' e3 (by omega) (by omega)) (fun hf => he _ H' e3 (by omega) (by omega) hf)⟩)
    (fun H' p => by
      obtain ⟨p1, p2, acc, p3, p4⟩ := p
      have e5 : (upTo 0 hi).take hi.toNat = upTo 0 hi := List.take_of_length_le (by rw [upTo_len]; omega)
      rw [e5] at p4
      exact q Dl acc H' (fresh_back e1 p1) (e1.trans p2) p3 p4)⟩
theorem et_yes : EvT tYes σ H true := fun H1 _ _ q => q H1 (Ex.refl H1)
theorem ev_chain {r r' : R2} {tc : TE} {a b : Bool} (ha : Ev ta σ H x) (hb : Ev tb σ H y) (hc : Ev tc σ H z) (h1 : RV r x y H (.bl a)) (h2 : RV r' y z H (.bl b)) : Ev (tChain r r' ta tb tc) σ H (.bl (a && b)) := fun H1 e Q q =>
  ha H1 e _ fun H2 e2 => hb H2 (e.trans e2) _ fun H3 e3 => h1 H3 ((e.trans e2).trans e3) _ fun H4 e4 => ⟨a, rfl, by
    cases a with
    | true => exact iteT (hc H4 (((e.trans e2).trans e3).trans e4) _ fun H5 e5 => h2 H5 ((((e.trans e2).trans e3).trans e4).trans e5) Q fun H6 e6 => q H6 ((((e2.trans e3).trans e4).trans e5).trans e6))
    | false => exact iteF (q H4 ((e2.trans e3).trans e4))⟩
/-- x or y, x a tuple -/
theorem ed_orT (ha : EvD K ta σ H (.tuple ds)) (hb : ds = [] → EvD K tb σ H d) (hd : ds ≠ [] → d = .tuple ds) : EvD K (tOrT K ta tb) σ H d := fun H1 e Q q =>
  ha H1 e _ fun v H2 e2 hv => by
    cases hv with
    | tup hs hx =>
      rename_i a xs
      refine ⟨!xs.isEmpty, .inr (.inl ⟨xs, hs, rfl⟩), ?_⟩
      cases xs with
      | nil =>
        cases hx
        exact iteF (hb rfl H2 (e.trans e2) Q fun w H3 e3 hw => q w H3 (e2.trans e3) hw)
      | cons x xs =>
        refine iteT ?_
        have hne : ds ≠ [] := fun z => by
          subst z
          cases hx
        refine q _ H2 e2 ?_
        rw [hd hne]
        exact .tup hs hx
theorem ev_isi {ty c : String} {b : Bool} (ha : Ev ta σ H v) (hb : Ev tb σ H (.ty c)) (ht : ∀ H1, Ex H H1 → TyX K H1 v (.type ty)) (hk : kitB ty c = some b) : Ev (tCB (rIsi K) (tCons ta (tCons tb tNil))) σ H (.bl b) := fun H1 e Q q =>
  ha H1 e _ fun H2 e2 => hb H2 (e.trans e2) _ fun H3 e3 => ⟨v, .ty c, .type ty, .type c, b, rfl, .ty c, ht H3 ((e.trans e2).trans e3), kit_ty hk, q H3 (e2.trans e3)⟩
theorem ty_int {i : Int} : ∀ H1, Ex H H1 → TyX K H1 (.int i) (.type "int") := fun _ _ => .base (.int i)
theorem ev_min2 {i j : Int} (ha : Ev ta σ H (.int i)) (hb : Ev tb σ H (.int j)) : Ev (tCB (fun xs H Q => ∃ i j, xs = [.int i, .int j] ∧ Q (.int (if j < i then j else i)) H) (tCons ta (tCons tb tNil))) σ H (.int (if j < i then j else i)) := fun H1 e Q q =>
  ha H1 e _ fun H2 e2 => hb H2 (e.trans e2) _ fun H3 e3 => ⟨i, j, rfl, q H3 (e2.trans e3)⟩
/-- a def that hands back a value and leaves the heap -/
def spV (pre : List V → Hp → Prop) (f : List V → V) : Sp := fun vs H Q _ => pre vs H ∧ ∀ H2, Ex H H2 → Q (f vs) H2
theorem ev_spv {pre : List V → Hp → Prop} {f : List V → V} {E : XK} {ta : TA} {vs : List V} (h : EvA ta σ H vs) (hp : ∀ H1, Ex H H1 → pre vs H1) : Ev (tCall (spV pre f) [] E ta) σ H (f vs) := fun H1 e Q q =>
  h H1 e _ fun H2 e2 => by
    show spV pre f (vs ++ []) H2 Q E
    rw [List.append_nil]
    exact ⟨hp H2 (e.trans e2), fun H3 e3 => q H3 (e2.trans e3)⟩
end
section
variable {K : PySem.W.Frag} {σ : L2.St} {H H' : Hp} {te : TE} {d : PyData} {ds : List PyData} {D : Ends} {tz tu : TS} {i : Nat}
theorem s_asgF (h : EvF K te σ H ds) (k : ∀ p xs H1, H p = none → Ex H H1 → H1 p = some (.lst xs) → DtAll K H1 xs ds → D.nx (σ.set i (some (.ref p))) H1) : tAsg te (gName i) D σ H := h H (Ex.refl H) _ k
theorem q_asgF (h : EvF K te σ H ds) (k : ∀ p xs H1, H p = none → Ex H H1 → H1 p = some (.lst xs) → DtAll K H1 xs ds → tz D (σ.set i (some (.ref p))) H1) : tSeq (tAsg te (gName i)) tz D σ H := h H (Ex.refl H) _ k
theorem s_asgD (h : EvD K te σ H d) (k : ∀ v H1, Ex H H1 → Dt K H1 v d → D.nx (σ.set i (some v)) H1) : tAsg te (gName i) D σ H := h H (Ex.refl H) _ k
theorem q_asgD (h : EvD K te σ H d) (k : ∀ v H1, Ex H H1 → Dt K H1 v d → tz D (σ.set i (some v)) H1) : tSeq (tAsg te (gName i)) tz D σ H := h H (Ex.refl H) _ k
theorem s_retF (h : EvF K te σ H ds) (k : ∀ p xs H1, H p = none → Ex H H1 → H1 p = some (.lst xs) → DtAll K H1 xs ds → D.rt (.ref p) H1) : tRet te D σ H := h H (Ex.refl H) _ k
theorem s_retD (h : EvD K te σ H d) (k : ∀ v H1, Ex H H1 → Dt K H1 v d → D.rt v H1) : tRet te D σ H := h H (Ex.refl H) _ k
end
/-! ### lots as lists of ints -/
def lotD (l : List Int) : PyData := .tuple (l.map PyData.int)
theorem lotD_ix {l : List Int} {i : Int} {x : Int} (h : atI l i = some x) : atI (l.map PyData.int) i = some (.int x) := by
  unfold atI at h ⊢
  rw [List.length_map]
  cases q : ixN l.length i with
  | none => rw [q] at h; cases h
  | some j =>
    rw [q] at h
    show (l.map PyData.int)[j]? = _
    rw [List.getElem?_map, show l[j]? = some x from h]
    rfl
theorem dt_lot {K : PySem.W.Frag} {H : Hp} {v : V} {l : List Int} (h : Dt K H v (lotD l)) : ∃ a, v = .ref a ∧ SqT K H a (l.map V.int) := by
  unfold lotD at h
  cases h with
  | tup hs hx =>
    rw [dta_ints_inv hx] at hs
    exact ⟨_, rfl, hs⟩
theorem lot_dt {K : PySem.W.Frag} {H : Hp} {a : Addr} {l : List Int} (h : SqT K H a (l.map V.int)) : Dt K H (.ref a) (lotD l) := .tup h (dta_ints l)
theorem inV_ints (x : Int) : ∀ l : List Int, inV (.int x) (l.map V.int) = l.contains x := by
  intro l
  induction l with
  | nil => rfl
  | cons y r ih =>
    have e : inV (.int x) ((y :: r).map V.int) = (eqV (.int y) (.int x) || inV (.int x) (r.map V.int)) := rfl
    rw [e, ih, List.contains_cons]
    have e2 : eqV (.int y) (.int x) = (x == y) := by
      show (y == x) = (x == y)
      exact Bool.beq_comm
    rw [e2]
theorem flat_ints : ∀ l : List Int, (l.map V.int).all flatV = true
  | [] => rfl
  | x :: r => by
    show (true && (r.map V.int).all flatV) = true
    rw [flat_ints r]
    rfl
theorem lastD (l : List Int) (hne : l ≠ []) : atI l (-1) = some (l.getLast hne) := by
  have e : l = l.dropLast ++ [l.getLast hne] := (List.dropLast_concat_getLast hne).symm
  have := atI_last l.dropLast (l.getLast hne)
  rw [← e] at this
  exact this
theorem units1 {k : Nat} {A : Around} (r : Room k A) : A.units + 65 < cLine := by
  have := r.un
  omega
def topS (i : Nat) : Stmt := PySem.Challenge.pw_curvefaces_k03_blocks.main.body.getD i (.Pass ⟨0, 0, 0, 0⟩)
abbrev s_is_whole : Stmt := topS 5
abbrev N_is_whole : List Str := ["thing"]
theorem sc_is_whole : FnScope N_is_whole ["thing"] (defScope s_is_whole) := ⟨rfl, rfl, rfl, by decide +kernel, rfl, by decide +kernel, by decide +kernel⟩
abbrev s_is_rising : Stmt := topS 6
abbrev N_is_rising : List Str := ["things", "one", "other"]
theorem sc_is_rising : FnScope N_is_rising ["things"] (defScope s_is_rising) := ⟨rfl, rfl, rfl, by decide +kernel, rfl, by decide +kernel, by decide +kernel⟩
abbrev s_is_curve : Stmt := topS 10
abbrev N_is_curve : List Str := ["thing", "many", "deep"]
theorem sc_is_curve : FnScope N_is_curve ["thing"] (defScope s_is_curve) := ⟨rfl, rfl, rfl, by decide +kernel, rfl, by decide +kernel, by decide +kernel⟩
abbrev s_need_curve : Stmt := topS 11
abbrev N_need_curve : List Str := ["curve"]
theorem sc_need_curve : FnScope N_need_curve ["curve"] (defScope s_need_curve) := ⟨rfl, rfl, rfl, by decide +kernel, rfl, by decide +kernel, by decide +kernel⟩
abbrev s_is_corner : Stmt := topS 12
abbrev N_is_corner : List Str := ["thing", "many"]
theorem sc_is_corner : FnScope N_is_corner ["thing", "many"] (defScope s_is_corner) := ⟨rfl, rfl, rfl, by decide +kernel, rfl, by decide +kernel, by decide +kernel⟩
abbrev s_is_lot : Stmt := topS 13
abbrev N_is_lot : List Str := ["thing", "curve", "one"]
theorem sc_is_lot : FnScope N_is_lot ["thing", "curve"] (defScope s_is_lot) := ⟨rfl, rfl, rfl, by decide +kernel, rfl, by decide +kernel, by decide +kernel⟩
abbrev s_need_lot : Stmt := topS 14
abbrev N_need_lot : List Str := ["curve", "lot"]
theorem sc_need_lot : FnScope N_need_lot ["curve", "lot"] (defScope s_need_lot) := ⟨rfl, rfl, rfl, by decide +kernel, rfl, by decide +kernel, by decide +kernel⟩
abbrev s_blocks : Stmt := topS 15
abbrev N_blocks : List Str := ["curve", "lot", "found", "corner"]
theorem sc_blocks : FnScope N_blocks ["curve", "lot"] (defScope s_blocks) := ⟨rfl, rfl, rfl, by decide +kernel, rfl, by decide +kernel, by decide +kernel⟩
abbrev s_is_inner : Stmt := topS 16
abbrev N_is_inner : List Str := ["block", "many"]
theorem sc_is_inner : FnScope N_is_inner ["block", "many"] (defScope s_is_inner) := ⟨rfl, rfl, rfl, by decide +kernel, rfl, by decide +kernel, by decide +kernel⟩
abbrev s_odd_inner : Stmt := topS 17
abbrev N_odd_inner : List Str := ["curve", "lot", "inner", "block"]
theorem sc_odd_inner : FnScope N_odd_inner ["curve", "lot"] (defScope s_odd_inner) := ⟨rfl, rfl, rfl, by decide +kernel, rfl, by decide +kernel, by decide +kernel⟩
abbrev s__law_box : Stmt := topS 19
abbrev N__law_box : List Str := ["_law_script", "_law_k", "_law_here", "_law_number", "_law_j", "_law_part"]
theorem sc__law_box : FnScope N__law_box ["_law_script", "_law_k"] (defScope s__law_box) := ⟨rfl, rfl, rfl, by decide +kernel, rfl, by decide +kernel, by decide +kernel⟩
abbrev s__law_more : Stmt := topS 20
abbrev N__law_more : List Str := ["_law_box_here", "_law_number", "_law_j"]
theorem sc__law_more : FnScope N__law_more ["_law_box_here"] (defScope s__law_more) := ⟨rfl, rfl, rfl, by decide +kernel, rfl, by decide +kernel, by decide +kernel⟩
abbrev s__law_take : Stmt := topS 21
abbrev N__law_take : List Str := ["_law_box_here", "_law_wide", "_law_rest_of", "_law_digit"]
theorem sc__law_take : FnScope N__law_take ["_law_box_here", "_law_wide"] (defScope s__law_take) := ⟨rfl, rfl, rfl, by decide +kernel, rfl, by decide +kernel, by decide +kernel⟩
abbrev s__law_curve : Stmt := topS 22
abbrev N__law_curve : List Str := ["_law_box_here", "_law_deep"]
theorem sc__law_curve : FnScope N__law_curve ["_law_box_here"] (defScope s__law_curve) := ⟨rfl, rfl, rfl, by decide +kernel, rfl, by decide +kernel, by decide +kernel⟩
abbrev s__law_lot : Stmt := topS 23
abbrev N__law_lot : List Str := ["_law_box_here", "_law_many", "_law_share", "_law_corner"]
theorem sc__law_lot : FnScope N__law_lot ["_law_box_here", "_law_many"] (defScope s__law_lot) := ⟨rfl, rfl, rfl, by decide +kernel, rfl, by decide +kernel, by decide +kernel⟩
abbrev s__law_blocks : Stmt := topS 24
abbrev N__law_blocks : List Str := ["_law_many", "_law_lot_here", "_law_found", "_law_corner", "_law_one"]
theorem sc__law_blocks : FnScope N__law_blocks ["_law_many", "_law_lot_here"] (defScope s__law_blocks) := ⟨rfl, rfl, rfl, by decide +kernel, rfl, by decide +kernel, by decide +kernel⟩
abbrev s_law : Stmt := topS 25
abbrev N_law : List Str := ["_law_script", "_law_k", "_law_box_here", "_law_curve_here", "_law_many", "_law_lot_here", "_law_due", "_law_inner", "_law_one", "_law_turn", "_law_found", "_law_odd", "_law_first", "_law_later"]
theorem sc_law : FnScope N_law ["_law_script"] (defScope s_law) := ⟨rfl, rfl, rfl, by decide +kernel, rfl, by decide +kernel, by decide +kernel⟩
/-- the built-ins that the text uses are the built-ins -/
structure Bt (mg : Str → Option Value) : Prop where
  isinstance_ : mg "isinstance" = none
  int_ : mg "int" = none
  bool_ : mg "bool" = none
  all_ : mg "all" = none
  zip_ : mg "zip" = none
  tuple_ : mg "tuple" = none
  len_ : mg "len" = none
  range_ : mg "range" = none
  abs_ : mg "abs" = none
  divmod_ : mg "divmod" = none
  max_ : mg "max" = none
  min_ : mg "min" = none
  list_ : mg "list" = none
/-- a def of the text: where it stands, its name, how its arguments bind -/
structure Df (K : PySem.W.Frag) (mg : Str → Option Value) (x : Str) (st : Stmt) (ps : List Str) (f : Addr) (fd : FuncData) : Prop where
  F : Fun K x x st f fd
  g : mg x = some (.ref f)
  b : Binds K fd ps []
section
variable {P : Program} {w : World} {K : PySem.W.Frag} {mg : Str → Option Value} {base : Heap}
/-! ### the law's box -/
def BoxAt (H : Hp) (b : Addr) : Prop := ∃ n d : Int, H b = some (.lst [.int n, .int d])
/-- all that was tracked but b is as it was -/
def Bx (b : Addr) (H H' : Hp) : Prop := ∀ c o, c ≠ b → H c = some o → H' c = some o
theorem Bx.refl (b : Addr) (H : Hp) : Bx b H H := fun _ _ _ h => h
theorem Bx.trans {b : Addr} {H H1 H2 : Hp} (x : Bx b H H1) (y : Bx b H1 H2) : Bx b H H2 := fun c o n h => y c o n (x c o n h)
theorem bx_ex {b : Addr} {H H' : Hp} (e : Ex H H') : Bx b H H' := fun c o _ h => e c o h
theorem bx_set {b : Addr} {H H' : Hp} {o : HO} (e : Bx b H H') : Bx b H (upd H' b o) := fun c u n h => by
  rw [upd_ne n]
  exact e c u n h
theorem bx_tx {b : Addr} {H H' : Hp} {xs : List V} (e : Bx b H H') (h : H b = some (.lst xs)) : Tx H H' := fun a u r => by
  have n : a ≠ b := fun z => by
    subst z
    rcases r with r | ⟨o, r⟩ <;> (rw [h] at r; cases r)
  rcases r with r | ⟨o, r⟩
  · exact .inl (e a _ n r)
  · exact .inr ⟨o, e a _ n r⟩
theorem BoxAt.ex {H H' : Hp} {b : Addr} (e : Ex H H') (h : BoxAt H b) : BoxAt H' b := by
  obtain ⟨n, d, h⟩ := h
  exact ⟨n, d, e b _ h⟩
def spBox (K : PySem.W.Frag) : Sp := fun vs H Q _ => ∃ (a : Addr) (ns : List Int) (k : Int), vs = [.ref a, .int k] ∧ SqL K H a (ns.map V.int) ∧ 0 ≤ k ∧ k < 1000 ∧ ∀ p H2, H p = none → Ex H H2 → BoxAt H2 p → Q (.ref p) H2
theorem emod_in (x : Int) {m : Int} (h : 0 < m) : 0 ≤ x % m ∧ x % m < m := ⟨Int.emod_nonneg _ (by omega), Int.emod_lt_of_pos _ h⟩
theorem cm_r {i j : Int} (h1 : -(2 ^ 64) < j) (h2 : j < 2 ^ 64) : CMul i j := .inr ⟨h1, h2⟩
theorem cm_l {i j : Int} (h1 : -(2 ^ 64) < i) (h2 : i < 2 ^ 64) : CMul i j := .inl ⟨h1, h2⟩
theorem ev_abs {te : TE} {σ : L2.St} {H : Hp} {i : Int} (h : Ev te σ H (.int i)) : Ev (tCB (fun xs H Q => ∃ i, xs = [.int i] ∧ Q (.int (if i < 0 then -i else i)) H) (tCons te tNil)) σ H (.int (if i < 0 then -i else i)) := fun H1 e _ q =>
  h H1 e _ fun H2 e2 => ⟨i, rfl, q H2 e2⟩
theorem ok_box {f : Addr} {fd : FuncData} {k : Nat} (D : Df K mg "_law_box" s__law_box ["_law_script", "_law_k"] f fd) (B : Bt mg) : FnOk P w K mg base CX0 (k + 1) f fd ["_law_script", "_law_k"] (spBox K) := by
  refine D.F.ok sc__law_box (fun vs H Q E h => ?_) (fun cdv A outer s H vs Q E hr h => ?_)
  · obtain ⟨a, ns, k, rfl, _⟩ := h
    rfl
  · obtain ⟨a, ns, j, rfl, hS, k0, k1, q⟩ := h
    refine ⟨_, (pss_cons (ps_set (i := 2) sc__law_box.nd rfl (.inl rfl) (pe_op op_add (pe_op op_mul pe_int (pv 1)) pe_int))  (pss_cut (ps_if (pt_cmpR op_lt (pv 1) (pe_callB (show CallR _ _ (rLenS K) from call_len_seq) (by rfl) B.len_ (by decide +kernel) (pa_cons (pv 0) pa_nil)) (nomark _))   (pss_one (ps_set (i := 2) sc__law_box.nd rfl (.inl rfl) (pe_ix (show IxR _ (rIxL K) from ix_list) (pv 0) (pv 1) (fun _ _ => rfl))))   pss_nil)  (pss_cons (ps_if (pt_cmpR op_eq (pe_op op_mod (pv 2) pe_int) pe_int (nomark _))   (pss_one (ps_ret (pe_lst (pa_cons (pe_op op_fdiv (pv 2) pe_int) (pa_cons (pe_op op_mod (pe_callB call_abs (by rfl) B.abs_ (by decide +kernel) (pa_cons (pv 2) pa_nil)) pe_int) pa_nil)))))   pss_nil)  (pss_cons (ps_set (i := 3) sc__law_box.nd rfl (.inl rfl) pe_int)  (pss_cons (ps_for PassesOwn.never rfl (pi_range1 (by rfl) B.range_ (pa_cons pe_int pa_nil)) (pg_name (i := 4) sc__law_box.nd rfl (.inl rfl))   (pss_cons (ps_set (i := 5) sc__law_box.nd rfl (.inl rfl) (pe_op op_mod (pe_op op_add (pe_op op_add (pe_op op_mul (pe_op op_mod (pv 2) pe_int) pe_int) (pe_op op_mul pe_int (pv 4))) pe_int) pe_int))  (pss_cons (ps_set (i := 5) sc__law_box.nd rfl (.inl rfl) (pe_op op_mod (pe_op op_mul (pv 5) (pv 5)) pe_int))  (pss_one (ps_set (i := 3) sc__law_box.nd rfl (.inl rfl) (pe_op op_add (pe_op op_mul (pv 3) pe_int) (pe_op op_mod (pe_op op_mul (pv 5) (pe_op op_add (pv 5) pe_int)) pe_int)))))))  (pss_one (ps_ret (pe_lst (pa_cons (pv 3) (pa_cons (pe_op op_mod (pe_callB call_abs (by rfl) B.abs_ (by decide +kernel) (pa_cons (pv 2) pa_nil)) pe_int) pa_nil)))))))))), ?_⟩
    refine q_asg (v := .int (7919 * j + 13)) (ev_op (ev_op ev_c (ev_var rfl) (rv_I (cm_l (by decide) (by decide)))) ev_c rv_I0) fun H1 e1 => ?_
    refine q_cut (M := fun σ' H' => ∃ h : Int, σ' = [some (.ref a), some (.int j), some (.int h), none, none, none] ∧ Ex H H') ?_ ?_
    · refine s_when (et_test (ev_op (ev_var rfl) (ev_len (ev_var rfl) (ex_l e1 hS)) rv_I0)) (fun hb H2 e2 => ?_) (fun hb H2 e2 => ⟨_, rfl, e1.trans e2⟩)
      have hlt : j < ((ns.map V.int).length : Int) := of_decide_eq_true hb
      obtain ⟨m, rfl⟩ : ∃ m : Nat, j = (m : Int) := ⟨j.toNat, by omega⟩
      have hm : m < ns.length := by rw [List.length_map] at hlt; omega
      refine s_asg (v := .int ns[m]) (ev_op (ev_var rfl) (ev_var rfl) (rv_ixL (ex_l (e1.trans e2) hS) (atI_nat ?_))) fun H3 e3 => ⟨_, rfl, (e1.trans e2).trans e3⟩
      rw [List.getElem?_map, List.getElem?_eq_getElem hm]
      rfl
    · rintro σ' H2 ⟨x, rfl, e2⟩
      refine q_when (et_test (ev_op (ev_op (ev_var rfl) ev_c (rv_I (by show (0 : Int) < 2; decide))) ev_c (rv_eq rfl))) (fun _ H3 e3 => ?_) (fun _ H3 e3 => ?_)
      · refine s_retL (el_lst (ea_cons (ev_op (ev_var rfl) ev_c (rv_I ⟨by decide, by decide⟩)) (ea_cons (ev_op (ev_abs (ev_var rfl)) ev_c (rv_I (by show (0 : Int) < 2147483647; decide))) ea_nil)) (by show 2 ≤ 100000; decide)) fun p H4 np e4 hp => ?_
        exact q p H4 (fresh_back (e2.trans e3) np) ((e2.trans e3).trans e4) ⟨_, _, hp⟩
      · refine q_asg (v := .int 0) ev_c fun H4 e4 => ?_
        refine q_forR1 (n := 16) (ea_cons ev_c ea_nil) (by decide) (fun _ σ' H' => ∃ (n : Int) (y4 y5 : Option V), σ' = [some (.ref a), some (.int j), some (.int x), some (.int n), y4, y5] ∧ Ex H H')
          (fun H5 e5 => ⟨_, _, _, rfl, ((e2.trans e3).trans e4).trans e5⟩) ?_ ?_
        · rintro i σ' H' _ ⟨n, y4, y5, rfl, e5⟩
          have m1 := emod_in (x % 2147483647 * 48271 + 7919 * (i : Int) + 1) (m := 2147483647) (by decide)
          refine q_asg (v := .int ((x % 2147483647 * 48271 + 7919 * (i : Int) + 1) % 2147483647)) (ev_op (ev_op (ev_op (ev_op (ev_op (ev_var rfl) ev_c (rv_I (by show (0 : Int) < 2147483647; decide))) ev_c (rv_I (cm_r (by decide) (by decide)))) (ev_op ev_c (ev_var rfl) (rv_I (cm_l (by decide) (by decide)))) rv_I0) ev_c rv_I0) ev_c (rv_I (by show (0 : Int) < 2147483647; decide))) fun H6 e6 => ?_
          generalize (x % 2147483647 * 48271 + 7919 * (i : Int) + 1) % 2147483647 = y at m1 ⊢
          have m2 := emod_in (y * y) (m := 2147483629) (by decide)
          refine q_asg (v := .int (y * y % 2147483629)) (ev_op (ev_op (ev_var rfl) (ev_var rfl) (rv_I (cm_l (by omega) (by omega)))) ev_c (rv_I (by show (0 : Int) < 2147483629; decide))) fun H7 e7 => ?_
          generalize y * y % 2147483629 = z at m2 ⊢
          refine s_asg (v := .int (n * 2147483647 + z * (z + 13) % 2147483647)) (ev_op (ev_op (ev_var rfl) ev_c (rv_I (cm_r (by decide) (by decide)))) (ev_op (ev_op (ev_var rfl) (ev_op (ev_var rfl) ev_c rv_I0) (rv_I (cm_l (by omega) (by omega)))) ev_c (rv_I (by show (0 : Int) < 2147483647; decide))) rv_I0) fun H8 e8 => ?_
          exact ⟨_, _, _, rfl, ((e5.trans e6).trans e7).trans e8⟩
        · rintro σ' H' ⟨n, y4, y5, rfl, e5⟩
          refine s_retL (el_lst (ea_cons (ev_var rfl) (ea_cons (ev_op (ev_abs (ev_var rfl)) ev_c (rv_I (by show (0 : Int) < 2147483647; decide))) ea_nil)) (by show 2 ≤ 100000; decide)) fun p H6 np e6 hp => ?_
          exact q p H6 (fresh_back e5 np) (e5.trans e6) ⟨_, _, hp⟩
def spMore : Sp := fun vs H Q _ => ∃ (b : Addr) (n d : Int), vs = [.ref b] ∧ H b = some (.lst [.int n, .int d]) ∧ ∀ m d' H2, H2 b = some (.lst [.int n, .int d']) → Bx b H H2 → Q (.int m) H2
theorem ok_more {f : Addr} {fd : FuncData} {k : Nat} (D : Df K mg "_law_more" s__law_more ["_law_box_here"] f fd) (B : Bt mg) : FnOk P w K mg base CX0 (k + 1) f fd ["_law_box_here"] spMore := by
  refine D.F.ok sc__law_more (fun vs H Q E h => ?_) (fun cdv A outer s H vs Q E hr h => ?_)
  · obtain ⟨b, n, d, rfl, _⟩ := h
    rfl
  · obtain ⟨b, n, d, rfl, hb, q⟩ := h
    refine ⟨_, (pss_cons (ps_set (i := 1) sc__law_more.nd rfl (.inl rfl) pe_int)  (pss_cons (ps_for PassesOwn.never rfl (pi_range1 (by rfl) B.range_ (pa_cons pe_int pa_nil)) (pg_name (i := 2) sc__law_more.nd rfl (.inl rfl))   (pss_cons (ps_asg (pe_op op_mod (pe_op op_add (pe_op op_mul (pe_ix (show IxR _ (rIxL K) from ix_list) (pv 0) pe_int (fun _ _ => rfl)) pe_int) pe_int) pe_int) (pg_sub (pv 0) pe_int set_list))  (pss_one (ps_set (i := 1) sc__law_more.nd rfl (.inl rfl) (pe_op op_add (pe_op op_mul (pv 1) pe_int) (pe_op op_mod (pe_op op_fdiv (pe_ix (show IxR _ (rIxL K) from ix_list) (pv 0) pe_int (fun _ _ => rfl)) pe_int) pe_int))))))  (pss_one (ps_ret (pv 1))))), ?_⟩
    refine q_asg (v := .int 0) ev_c fun H1 e1 => ?_
    refine q_forR1 (n := 12) (ea_cons ev_c ea_nil) (by decide) (fun _ σ' H' => ∃ (m d' : Int) (y : Option V), σ' = [some (.ref b), some (.int m), y] ∧ H' b = some (.lst [.int n, .int d']) ∧ Bx b H H')
      (fun H2 e2 => ⟨_, _, _, rfl, e2 b _ (e1 b _ hb), bx_ex (e1.trans e2)⟩) ?_ ?_
    · rintro i σ' H' _ ⟨m, d', y, rfl, hb', x'⟩
      refine q_setL (j := 1) hb' (v := .int ((d' * 48271 + 30269) % 2147483647)) (ev_op (ev_op (ev_op (ev_op (ev_var rfl) ev_c (rv_ixL (v := .int d') (sq_of hb') rfl)) ev_c (rv_I (cm_r (by decide) (by decide)))) ev_c rv_I0) ev_c (rv_I (by show (0 : Int) < 2147483647; decide))) (ev_var rfl) ev_c (by show 1 < 2; decide) fun H2 e2 => ?_
      generalize (d' * 48271 + 30269) % 2147483647 = z
      have hb2 : upd H2 b (.lst ([V.int n, V.int d'].set 1 (.int z))) b = some (.lst [.int n, .int z]) := upd_same
      refine s_asg (v := .int (m * 65521 + z / 7 % 65521)) (ev_op (ev_op (ev_var rfl) ev_c (rv_I (cm_r (by decide) (by decide)))) (ev_op (ev_op (ev_op (ev_var rfl) ev_c (rv_ixL (v := .int z) (sq_of hb2) rfl)) ev_c (rv_I ⟨by decide, by decide⟩)) ev_c (rv_I (by show (0 : Int) < 65521; decide))) rv_I0) fun H3 e3 => ?_
      exact ⟨_, _, _, rfl, e3 b _ hb2, (bx_set (x'.trans (bx_ex e2))).trans (bx_ex e3)⟩
    · rintro σ' H' ⟨m, d', y, rfl, hb', x'⟩
      exact s_ret (ev_var rfl) fun H2 e2 => q m d' H2 (e2 b _ hb') (x'.trans (bx_ex e2))
def spTake : Sp := fun vs H Q _ => ∃ (b : Addr) (wd : Int), vs = [.ref b, .int wd] ∧ BoxAt H b ∧ 0 < wd ∧ wd < 1073741824 ∧ ∀ r H2, 0 ≤ r → r < wd → BoxAt H2 b → Bx b H H2 → Q (.int r) H2
theorem ok_take {f fm : Addr} {fd fdm : FuncData} {k : Nat} (D : Df K mg "_law_take" s__law_take ["_law_box_here", "_law_wide"] f fd) (D__law_more : Df K mg "_law_more" s__law_more ["_law_box_here"] fm fdm) (B : Bt mg) : FnOk P w K mg base CX0 (k + 2) f fd ["_law_box_here", "_law_wide"] spTake := by
  have G__law_more : FnOk P w K mg base CX0 (k + 1) fm fdm ["_law_box_here"] spMore := ok_more D__law_more B
  refine D.F.ok sc__law_take (fun vs H Q E h => ?_) (fun cdv A outer s H vs Q E hr h => ?_)
  · obtain ⟨b, n, rfl, _⟩ := h
    rfl
  · obtain ⟨b, wd, rfl, ⟨n, d, hb⟩, w0, w1, q⟩ := h
    refine ⟨_, (pss_cut (ps_if (pt_chain op_le op_lt pe_int (pe_ix (show IxR _ (rIxL K) from ix_list) (pv 0) pe_int (fun _ _ => rfl)) (pv 1))   (pss_one (ps_asg (pe_op op_add (pe_ix (show IxR _ (rIxL K) from ix_list) (pv 0) pe_int (fun _ _ => rfl)) (pe_op op_mul (pv 1) (pe_call G__law_more (hr.mono (by omega)) (by rfl) D__law_more.g D__law_more.F.kp D__law_more.b .nil pass0 (pa_cons (pv 0) pa_nil)))) (pg_sub (pv 0) pe_int set_list)))   pss_nil)  (pss_cons (ps_asg (pe_callB call_divmod (by rfl) B.divmod_ (by decide +kernel) (pa_cons (pe_ix (show IxR _ (rIxL K) from ix_list) (pv 0) pe_int (fun _ _ => rfl)) (pa_cons (pv 1) pa_nil))) (pg_tup (by rfl) (pgs_cons (pg_name (i := 2) sc__law_take.nd rfl (.inl rfl)) (pgs_cons (pg_name (i := 3) sc__law_take.nd rfl (.inl rfl)) pgs_nil))))  (pss_cons (ps_asg (pv 2) (pg_sub (pv 0) pe_int set_list))  (pss_one (ps_ret (pv 3)))))), ?_⟩
    refine q_cut (M := fun σ' H' => σ' = [some (.ref b), some (.int wd), none, none] ∧ (∃ n d : Int, H' b = some (.lst [.int n, .int d])) ∧ Bx b H H') ?_ ?_
    · refine s_when (et_test (ev_chain ev_c (ev_op (ev_var rfl) ev_c (rv_ixL (v := .int n) (sq_of hb) rfl)) (ev_var rfl) rv_I0 rv_I0)) (fun _ H1 e1 => ?_) (fun _ H1 e1 => ⟨rfl, ⟨_, _, e1 b _ hb⟩, bx_ex e1⟩)
      · have hb1 := e1 b _ hb
        refine ⟨_, rfl, b, _, 0, .int n, rfl, rfl, sq_of hb1, rfl, _, rfl, _, rfl, b, n, d, rfl, hb1, fun m d' H2 hb2 x2 => ?_⟩
        refine ⟨wd, m, rfl, rfl, cm_l (by omega) (by omega), n, wd * m, rfl, rfl, _, rfl, b, _, 0, 0, rfl, rfl, hb2, rfl, ?_⟩
        exact ⟨rfl, ⟨_, _, upd_same⟩, bx_set ((bx_ex e1).trans x2)⟩
    · rintro σ' H' ⟨rfl, ⟨n, d, hb'⟩, x'⟩
      refine ⟨_, rfl, b, _, 0, .int n, rfl, rfl, sq_of hb', rfl, _, rfl, n, wd, rfl, ⟨w0, w1⟩, fun p hp => ?_⟩
      have nb : b ≠ p := ne_of_none hb' hp
      refine ⟨p, _, rfl, st_of upd_same, rfl, _, _, rfl, _, _, rfl, rfl, ?_⟩
      refine ⟨_, rfl, _, rfl, b, _, 0, 0, rfl, rfl, (by rw [upd_ne nb]; exact hb'), rfl, ?_⟩
      refine ⟨_, rfl, ?_⟩
      have m1 := emod_in n w0
      exact q _ _ m1.1 m1.2 ⟨_, _, upd_same⟩ (bx_set (x'.trans (bx_ex (Ex.new hp))))
end
/-! ### what changes the box alone -/
structure Bk (b : Addr) (H H' : Hp) : Prop where
  bx : Bx b H H'
  tx : Tx H H'
theorem Bk.trans {b : Addr} {H H1 H2 : Hp} (x : Bk b H H1) (y : Bk b H1 H2) : Bk b H H2 := ⟨x.bx.trans y.bx, x.tx.trans y.tx⟩
theorem bk_ex {b : Addr} {H H' : Hp} (e : Ex H H') : Bk b H H' := ⟨bx_ex e, tx_of e⟩
theorem Bk.refl (b : Addr) (H : Hp) : Bk b H H := bk_ex (Ex.refl H)
theorem bk_of {b : Addr} {H H' : Hp} (h : BoxAt H b) (x : Bx b H H') : Bk b H H' := by
  obtain ⟨_, _, h⟩ := h
  exact ⟨x, bx_tx x h⟩
theorem ex_bx {b : Addr} {Hs H H' : Hp} (e : Ex Hs H) (x : Bk b H H') (n : Hs b = none) : Ex Hs H' := fun c o h => x.bx c o (ne_of_none h n) (e c o h)
theorem box_ne {H : Hp} {p b : Addr} (hb : BoxAt H b) (n : H p = none) : p ≠ b := by
  obtain ⟨_, _, hb⟩ := hb
  exact ne_free hb n
def EvK (K : PySem.W.Frag) (b : Addr) (te : TE) (σ : L2.St) (H : Hp) (p : PyData → Prop) : Prop := ∀ Q : VK, (∀ v d H2, p d → Dt K H2 v d → BoxAt H2 b → Bk b H H2 → Q v H2) → te σ H Q
section
variable {K : PySem.W.Frag} {b : Addr} {σ : L2.St} {H H' : Hp} {ta tb te tl : TE} {p p' : PyData → Prop} {d : PyData} {ds : List PyData} {D : Ends} {tz tu : TS} {i : Nat}
theorem ek_of (h : EvD K te σ H d) (hb : BoxAt H b) : EvK K b te σ H (fun e => e = d) := fun Q q => h H (Ex.refl H) Q fun v H2 e2 hv => q v d H2 rfl hv (hb.ex e2) (bk_ex e2)
theorem ek_mono (h : EvK K b te σ H p) (hp : ∀ d, p d → p' d) : EvK K b te σ H p' := fun Q q => h Q fun v d H2 h1 => q v d H2 (hp d h1)
theorem ek_take {j : Nat} {wd : Int} {E : XK} (hj : σ[j]? = some (some (.ref b))) (hb : BoxAt H b) (hw : Ev ta σ H (.int wd)) (w0 : 0 < wd) (w1 : wd < 1073741824) : EvK K b (tCall spTake [] E (tCons (tVar j) (tCons ta tNil))) σ H (fun d => ∃ r, d = .int r ∧ 0 ≤ r ∧ r < wd) := fun Q q =>
  ⟨_, hj, hw H (Ex.refl H) _ fun H2 e2 => ⟨b, wd, rfl, hb.ex e2, w0, w1, fun r H3 r0 r1 hb3 x3 => q _ (.int r) H3 ⟨r, rfl, r0, r1⟩ (.int r) hb3 ((bk_ex e2).trans (bk_of (hb.ex e2) x3))⟩⟩
/-- [..][take] -/
theorem ek_menu (hl : EvF K tl σ H ds) (hb : BoxAt H b) (hi : ∀ H', Ex H H' → BoxAt H' b → EvK K b ta σ H' (fun d => ∃ r : Int, d = .int r ∧ 0 ≤ r ∧ r < (ds.length : Int))) : EvK K b (tOp (rIxL K) tl ta) σ H (fun d => d ∈ ds) := fun Q q =>
  hl H (Ex.refl H) _ fun p xs H1 np e1 hp hx => hi H1 e1 (hb.ex e1) _ fun v d H2 hr hv hb2 x2 => by
    obtain ⟨r, rfl, r0, r1⟩ := hr
    cases hv
    obtain ⟨m, rfl⟩ : ∃ m : Nat, r = (m : Int) := ⟨r.toNat, by omega⟩
    have hm : m < ds.length := by omega
    obtain ⟨w, hw, hd⟩ := dta_get' (dta_tx x2.tx hx) (List.getElem?_eq_getElem hm)
    exact ⟨p, xs, (m : Int), w, rfl, rfl, sq_of (x2.bx p _ (box_ne hb np) hp), atI_nat hw, q w _ H2 (List.getElem_mem hm) hd hb2 ((bk_ex e1).trans x2)⟩
/-- i op take -/
theorem ek_opI {f : Int → Int → Int} {x : Int} {pr : Int → Prop} (ha : Ev ta σ H (.int x)) (hb : ∀ H', Ex H H' → EvK K b tb σ H' (fun d => ∃ r, d = .int r ∧ pr r)) : EvK K b (tOp (rI0 fun i j => .int (f i j)) ta tb) σ H (fun d => ∃ r, d = .int (f x r) ∧ pr r) := fun Q q =>
  ha H (Ex.refl H) _ fun H2 e2 => hb H2 e2 _ fun v d H3 hr hv hb3 x3 => by
    obtain ⟨r, rfl, hr⟩ := hr
    cases hv
    exact ⟨x, r, rfl, rfl, q _ _ H3 ⟨r, rfl, hr⟩ (.int _) hb3 ((bk_ex e2).trans x3)⟩
theorem q_asgK (h : EvK K b te σ H p) (k : ∀ v d H2, p d → Dt K H2 v d → BoxAt H2 b → Bk b H H2 → tz D (σ.set i (some v)) H2) : tSeq (tAsg te (gName i)) tz D σ H := h _ k
theorem s_asgK (h : EvK K b te σ H p) (k : ∀ v d H2, p d → Dt K H2 v d → BoxAt H2 b → Bk b H H2 → D.nx (σ.set i (some v)) H2) : tAsg te (gName i) D σ H := h _ k
/-- a box made -/
theorem q_box {a : Addr} {ns : List Int} {x : Int} {E : XK} (ha : Ev ta σ H (.ref a)) (hS : SqL K H a (ns.map V.int)) (hk : Ev tb σ H (.int x)) (x0 : 0 ≤ x) (x1 : x < 1000) (h : ∀ p H2, H p = none → Ex H H2 → BoxAt H2 p → tz D (σ.set i (some (.ref p))) H2) : tSeq (tAsg (tCall (spBox K) [] E (tCons ta (tCons tb tNil))) (gName i)) tz D σ H :=
  ha H (Ex.refl H) _ fun H1 e1 => hk H1 e1 _ fun H2 e2 => ⟨a, ns, x, rfl, ex_l (e1.trans e2) hS, x0, x1, fun p H3 np e3 hb => h p H3 (fresh_back (e1.trans e2) np) ((e1.trans e2).trans e3) hb⟩
/-! loops over a list made on the way -/
/-- nothing changes but new things -/
theorem s_forF {g : TG} (h : EvF K tl σ H ds) (Pv : Nat → L2.St → Hp → Prop) (h0 : ∀ H1, Ex H H1 → Pv 0 σ H1)
    (hs : ∀ H1 i x d σ' H', Ex H H1 → Ex H1 H' → ds[i]? = some d → Dt K H' x d → Pv i σ' H' → g x σ' H' fun σ2 H2 => tu { D with nx := fun σ3 H3 => Ex H1 H3 ∧ Pv (i + 1) σ3 H3, ct := fun σ3 H3 => Ex H1 H3 ∧ Pv (i + 1) σ3 H3, bk := D.nx } σ2 H2)
    (hd : ∀ σ' H', Ex H H' → Pv ds.length σ' H' → D.nx σ' H') : tFor (iList K tl) g tu D σ H :=
  h H (Ex.refl H) _ fun p xs H1 np e1 hp hx => ⟨p, rfl, ⟨xs, sq_of hp⟩, for_list (xs := xs) (fun i σ' H' => Ex H1 H' ∧ Pv i σ' H') ⟨Ex.refl _, h0 H1 e1⟩ (fun i σ' H' _ hw => sq_of (hw.1 p _ hp)) (fun i x σ' H' hi hw => by
      obtain ⟨d, h1, h2⟩ := dta_get (dta_ex hw.1 hx) hi
      exact hs H1 i x d σ' H' e1 hw.1 h1 h2 hw.2) (fun σ' H' hw => hd σ' H' (e1.trans hw.1) (by rw [← dta_len hx]; exact hw.2))⟩
theorem q_forF {g : TG} (h : EvF K tl σ H ds) (Pv : Nat → L2.St → Hp → Prop) (h0 : ∀ H1, Ex H H1 → Pv 0 σ H1)
    (hs : ∀ H1 i x d σ' H', Ex H H1 → Ex H1 H' → ds[i]? = some d → Dt K H' x d → Pv i σ' H' → g x σ' H' fun σ2 H2 => tu { D with nx := fun σ3 H3 => Ex H1 H3 ∧ Pv (i + 1) σ3 H3, ct := fun σ3 H3 => Ex H1 H3 ∧ Pv (i + 1) σ3 H3, bk := tz D } σ2 H2)
    (hd : ∀ σ' H', Ex H H' → Pv ds.length σ' H' → tz D σ' H') : tSeq (tFor (iList K tl) g tu) tz D σ H := s_forF (D := { D with nx := tz D }) h Pv h0 hs hd
/-- the box changes, too -/
theorem s_forFB {g : TG} (h : EvF K tl σ H ds) (hb : BoxAt H b) (Pv : Nat → L2.St → Hp → Prop) (h0 : ∀ H1, Ex H H1 → Pv 0 σ H1)
    (hs : ∀ H1 i x d σ' H', Ex H H1 → Bk b H1 H' → BoxAt H' b → ds[i]? = some d → Dt K H' x d → Pv i σ' H' → g x σ' H' fun σ2 H2 => tu { D with nx := fun σ3 H3 => Bk b H1 H3 ∧ BoxAt H3 b ∧ Pv (i + 1) σ3 H3, ct := fun σ3 H3 => Bk b H1 H3 ∧ BoxAt H3 b ∧ Pv (i + 1) σ3 H3, bk := D.nx } σ2 H2)
    (hd : ∀ σ' H', Bk b H H' → BoxAt H' b → Pv ds.length σ' H' → D.nx σ' H') : tFor (iList K tl) g tu D σ H :=
  h H (Ex.refl H) _ fun p xs H1 np e1 hp hx => ⟨p, rfl, ⟨xs, sq_of hp⟩, for_list (xs := xs) (fun i σ' H' => Bk b H1 H' ∧ BoxAt H' b ∧ Pv i σ' H') ⟨Bk.refl _ _, hb.ex e1, h0 H1 e1⟩ (fun i σ' H' _ hw => sq_of (hw.1.bx p _ (box_ne hb np) hp)) (fun i x σ' H' hi hw => by
      obtain ⟨d, h1, h2⟩ := dta_get (dta_tx hw.1.tx hx) hi
      exact hs H1 i x d σ' H' e1 hw.1 hw.2.1 h1 h2 hw.2.2) (fun σ' H' hw => hd σ' H' ((bk_ex e1).trans hw.1) hw.2.1 (by rw [← dta_len hx]; exact hw.2.2))⟩
theorem q_forFB {g : TG} (h : EvF K tl σ H ds) (hb : BoxAt H b) (Pv : Nat → L2.St → Hp → Prop) (h0 : ∀ H1, Ex H H1 → Pv 0 σ H1)
    (hs : ∀ H1 i x d σ' H', Ex H H1 → Bk b H1 H' → BoxAt H' b → ds[i]? = some d → Dt K H' x d → Pv i σ' H' → g x σ' H' fun σ2 H2 => tu { D with nx := fun σ3 H3 => Bk b H1 H3 ∧ BoxAt H3 b ∧ Pv (i + 1) σ3 H3, ct := fun σ3 H3 => Bk b H1 H3 ∧ BoxAt H3 b ∧ Pv (i + 1) σ3 H3, bk := tz D } σ2 H2)
    (hd : ∀ σ' H', Bk b H H' → BoxAt H' b → Pv ds.length σ' H' → tz D σ' H') : tSeq (tFor (iList K tl) g tu) tz D σ H := s_forFB (D := { D with nx := tz D }) h hb Pv h0 hs hd
/-- how many cells are read -/
theorem ev_cells {a : Addr} {ns : List Int} {c : Int} (h : Ev ta σ H (.ref a)) (hS : SqL K H a (ns.map V.int)) (c0 : 1 ≤ c) : ∃ n : Int, 1 ≤ n ∧ n ≤ c ∧ Ev (tCB rMax2 (tCons (tC (.int 1)) (tCons (tCB (fun xs H Q => ∃ i j, xs = [.int i, .int j] ∧ Q (.int (if j < i then j else i)) H) (tCons (tCB (rLenS K) (tCons ta tNil)) (tCons (tC (.int c)) tNil))) tNil))) σ H (.int n) := by
  refine ⟨_, ?_, ?_, ev_max2 ev_c (ev_min2 (ev_len h hS) ev_c)⟩
  · split <;> split <;> omega
  · split <;> split <;> omega
end
def spLaw (K : PySem.W.Frag) : Sp := fun vs H Q _ => ∃ (a : Addr) (ns : List Int), vs = [.ref a] ∧ SqL K H a (ns.map V.int) ∧ ns.length ≤ 63 ∧ ∀ H', Q (.bl true) H'
def curveD (m d : Int) : PyData := .tuple [.int m, .int d]
def unint : PyData → Int
  | .int i => i
  | _ => 0
def unlot : PyData → List Int
  | .tuple ds => ds.map unint
  | _ => []
theorem unlot_lot (l : List Int) : unlot (lotD l) = l := by
  show (l.map PyData.int).map unint = l
  rw [List.map_map]
  exact List.map_id' l
theorem dec_int (a b : Int) : decide (V.int a = V.int b) = decide (a = b) := by
  by_cases h : a = b
  · subst h
    simp
  · rw [decide_eq_false h, decide_eq_false (fun z => h (V.int.inj z))]
theorem cut_take (xs : List V) (i : Nat) (hi : i ≤ xs.length) : cutV xs none (some (i : Int)) = xs.take i := by
  unfold cutV
  rw [HT.sIx_none, show HT.sIx xs.length xs.length (some (i : Int)) = min i xs.length from HT.sIx_nat xs.length xs.length i, Nat.min_eq_left hi]
  rfl
theorem filt_len {l : List Int} {f : PyData → Bool} {g : Int → Bool} {h : PyData → PyData} (e : ∀ c, f (.int c) = g c) : (((l.map PyData.int).filter f).map h).length = (l.filter g).length := by
  rw [List.length_map, List.filter_map, List.length_map]
  have : (f ∘ PyData.int) = g := funext e
  rw [this]
theorem mem_ints {l : List Int} {d : PyData} (h : d ∈ l.map PyData.int) : ∃ c, c ∈ l ∧ d = .int c := by
  obtain ⟨c, h1, h2⟩ := List.mem_map.mp h
  exact ⟨c, h1, h2.symm⟩
theorem mem_lots {ls : List (List Int)} {d : PyData} (h : d ∈ ls.map lotD) : ∃ l, l ∈ ls ∧ d = lotD l := by
  obtain ⟨c, h1, h2⟩ := List.mem_map.mp h
  exact ⟨c, h1, h2.symm⟩
theorem filt_lots {ls : List (List Int)} {f : PyData → Bool} {g : List Int → Bool} (e : ∀ l, f (lotD l) = g l) : ((ls.map lotD).filter f).map (fun d => d) = (ls.filter g).map lotD := by
  rw [List.map_id', List.filter_map]
  have : (f ∘ lotD) = g := funext e
  rw [this]
theorem filt_ints {ls : List Int} {f : PyData → Bool} {g : Int → Bool} (e : ∀ l, f (.int l) = g l) : ((ls.map PyData.int).filter f).map (fun d => d) = (ls.filter g).map PyData.int := by
  rw [List.map_id', List.filter_map]
  have : (f ∘ PyData.int) = g := funext e
  rw [this]

def tyNames : List String := ["NoneType", "bool", "int", "str", "list", "tuple", "dict"]
def tyGood : Bool := tyNames.all fun t => match kitB t "int", kitB t "bool" with
  | some a, some b => (a && !b) == (t == "int")
  | _, _ => false
theorem ty_good : tyGood = true := by decide +kernel
theorem ty_ib {t : String} (h : t ∈ tyNames) : ∃ a b, kitB t "int" = some a ∧ kitB t "bool" = some b ∧ (a && !b) = (t == "int") := by
  have h2 := ty_good
  unfold tyGood at h2
  rw [List.all_eq_true] at h2
  have h3 := h2 t h
  cases h4 : kitB t "int" with
  | none => rw [h4] at h3; cases h3
  | some a =>
    cases h5 : kitB t "bool" with
    | none => rw [h4, h5] at h3; cases h3
    | some b =>
      rw [h4, h5] at h3
      exact ⟨a, b, rfl, rfl, eq_of_beq h3⟩
section
variable {P : Program} {w : World} {K : PySem.W.Frag} {mg : Str → Option Value} {base : Heap}
def spWhole (K : PySem.W.Frag) : Sp := fun vs H Q _ => ∃ (v : V) (t : String), vs = [v] ∧ t ∈ tyNames ∧ (∀ H1, Ex H H1 → TyX K H1 v (.type t)) ∧ ∀ H2, Ex H H2 → Q (.bl (t == "int")) H2
theorem ev_whole {σ : L2.St} {H : Hp} {te : TE} {v : V} {t : String} {E : XK} (h : Ev te σ H v) (ht : t ∈ tyNames) (hx : ∀ H1, Ex H H1 → TyX K H1 v (.type t)) : Ev (tCall (spWhole K) [] E (tCons te tNil)) σ H (.bl (t == "int")) := fun H1 e Q q =>
  h H1 e _ fun H2 e2 => ⟨v, t, rfl, ht, fun H3 e3 => hx H3 ((e.trans e2).trans e3), fun H3 e3 => q H3 (e2.trans e3)⟩
theorem ok_is_whole {f : Addr} {fd : FuncData} {k : Nat} (D : Df K mg "is_whole" s_is_whole ["thing"] f fd) (B : Bt mg) : FnOk P w K mg base CX0 (k + 1) f fd ["thing"] (spWhole K) := by
  refine D.F.ok sc_is_whole (fun vs H Q E h => ?_) (fun cdv A outer s H vs Q E hr h => ?_)
  · obtain ⟨v, t, rfl, _⟩ := h
    rfl
  · obtain ⟨v, t, rfl, ht, hx, q⟩ := h
    refine ⟨_, (pss_one (ps_ret (pe_and (pe_callB (show CallR _ _ (rIsi K) from call_isi) (by rfl) B.isinstance_ (by decide +kernel) (pa_cons (pv 0) (pa_cons (pe_bltn (v := .ty "int") (by rfl) B.int_ (by decide +kernel) rfl) pa_nil))) (pe_one (pe_not (pe_callB (show CallR _ _ (rIsi K) from call_isi) (by rfl) B.isinstance_ (by decide +kernel) (pa_cons (pv 0) (pa_cons (pe_bltn (v := .ty "bool") (by rfl) B.bool_ (by decide +kernel) rfl) pa_nil)))))))), ?_⟩
    obtain ⟨a, b, ha, hb, hab⟩ := ty_ib ht
    refine s_ret (ev_andV (ev_isi (ev_var rfl) ev_c hx ha) (fun _ => ev_notV (ev_isi (ev_var rfl) ev_c hx hb))) fun H1 e1 => ?_
    rw [hab]
    exact q H1 e1
theorem ev_wholeI {σ : L2.St} {H : Hp} {te : TE} {i : Int} {E : XK} (h : Ev te σ H (.int i)) : Ev (tCall (spWhole K) [] E (tCons te tNil)) σ H (.bl true) := ev_whole h (by decide) ty_int
end
/-! ### calls in a generator's frame, whatever stands around -/
section
variable {prog : Program} {w : World} {K : PySem.W.Frag} {mg : Str → Option Value}
theorem mod_keeps {h h' : Heap} (M : Mod K mg h) (k : ∀ b o, h.get? b = some o → h'.get? b = some o) : Mod K mg h' :=
  ⟨M.kin.keeps k, M.glob.keeps k, (let ⟨mb, h1, h2⟩ := M.blt; ⟨mb, h1.keeps k, h2⟩), M.nolimit.keeps k⟩
/-- a value's type, at a heap -/
structure LowTy (K : PySem.W.Frag) (h : Heap) (v : Value) (t : String) : Prop where
  ex : ∃ Pk : Heap → Prop, PySem.W.KitX K v (.type t) Pk ∧ Pk h ∧ ∀ h', (∀ b o, h.get? b = some o → h'.get? b = some o) → Pk h'
  ne : v ≠ .builtin "__main__.__loader__#opaque"
theorem LowTy.keeps {h h' : Heap} {v : Value} {t : String} (x : LowTy K h v t) (k : ∀ b o, h.get? b = some o → h'.get? b = some o) : LowTy K h' v t := by
  obtain ⟨⟨Pk, Z, p, st⟩, ne⟩ := x
  exact ⟨⟨Pk, Z, st h' k, fun h'' k' => st h'' fun b o e => k' b o (k b o e)⟩, ne⟩
theorem low_isi {A : Around} {E : Value → Shared → Prop} {s : Shared} {env : Env} {m : Str → Option Value} {v : Value} {ty c : String} {b : Bool} {x cn : Str} {p1 p2 p3 pos : Pos} {Q : Value → Shared → Prop} (M : Mod K mg s.heap) (hk : env.scope.kind = .function) (hgl : env.globals = mainGlobals) (hbi : env.builtins = builtinsNs)
    (hi : env.kindOf "isinstance" = some .globalImplicit) (hm : mg "isinstance" = none) (hc : env.kindOf cn = some .globalImplicit) (hmc : mg cn = none) (hbc : bootBuiltins cn = some (.type c)) (ncn : cn ≠ "__name__") (dcn : (cn == ("__debug__" : Str)) = false)
    (hl : env.kindOf x = some .local) (hn : s.heap.Ns env.locals m) (hv : m x = some v) (dx : (x == ("__debug__" : Str)) = false) (T : LowTy K s.heap v ty) (e : kitB ty c = some b) (hq : ∀ tk, Q (.bool b) { s with toks := tk })
    (he : starEach [.Name x p2, .Name cn p3] env = (false, eval (.Name x p2) env) :: starEach [.Name cn p3] env) (he2 : starEach [.Name cn p3] env = (false, eval (.Name cn p3) env) :: starEach [] env) (hpl : (backTo pos (starEach [.Name cn p3] env)).any (·.1) = false) :
    wpAny (model prog w) A (eval (.Call (.Name "isinstance" p1) [.Name x p2, .Name cn p3] [] pos) env) Q E s := by
  obtain ⟨mb, hb1, hb2⟩ := M.blt
  obtain ⟨⟨Pk, Z, p, _⟩, ne⟩ := T
  refine wpAny_Call_Name_kw (Calls.Name_function_global hk hi (Calls.loadGlobal_builtin (by rw [hgl]; exact M.glob) hm (by rw [hbi]; exact hb1) ((hb2 _ (by decide)).trans PyProof.Rows.boot_isinstance) ?_))
  refine PyProof.Rows.callWith_builtin1 ?_ he hpl
  rw [he]
  show wpAny _ _ (spliced ((false, eval (.Name x p2) env) :: backTo pos (starEach [.Name cn p3] env))) _ _ s
  refine Calls.spliced_cons (wpAny_Name (wpAny_loadName_local hk hl hn hv ?_) dx)
  rw [he2]
  show wpAny _ _ (spliced ((false, eval (.Name cn p3) env) :: backTo pos (starEach [] env))) _ _ s
  refine Calls.spliced_cons (Calls.Name_function_global hk hc (Calls.loadGlobal_builtin (by rw [hgl]; exact M.glob) hmc (by rw [hbi]; exact hb1) ((hb2 _ ncn).trans hbc) ?_) dcn)
  refine Calls.spliced_nil ?_
  exact PySem.W.kia_one Z M.kin p (kit_ty e) ne hq
theorem low_whole {f : Addr} {fd : FuncData} (D : Df K mg "is_whole" s_is_whole ["thing"] f fd) (B : Bt mg) {A : Around} {s : Shared} {v : Value} {t : String} {R : Result → Shared → Prop} (M : Mod K mg s.heap) (ht : t ∈ tyNames) (T : LowTy K s.heap v t) (hroom : A.depth < recursionLimit)
    (hq : ∀ s', Keeps s s' → R (.ok (.ret (.bool (t == "int")))) s') : codeAny (model prog w) A (.call (.ref f) ⟨[v], []⟩) R s := by
  obtain ⟨oc, od, kV, doc, pm, an, cdv, ct, osl, rfl, lk, hcd⟩ := D.F.ex
  obtain ⟨a, b, ha, hb, hab⟩ := ty_ib ht
  refine Att.call_fn (binds := [("thing", v)]) M.kin M.nolimit lk hcd hroom (BindsTo.of_eq (by first | rfl | with_unfolding_all rfl)) (by first | rfl | decide | with_unfolding_all rfl) (fun s₁ IC => ?_) rfl rfl rfl
  obtain ⟨h₁, tk₁, rfl⟩ := IC.toInCall.same
  have k : ∀ b o, s.heap.get? b = some o → h₁.get? b = some o := IC.toInCall.keep
  have hn := IC.toInCall.ns
  have M1 : Mod K mg h₁ := mod_keeps M k
  have T1 := T.keeps k
  show wpAny _ _ (execs _ _) _ _ _
  refine wpAny_execs_cons (wpAny_Return_some ?_)
  refine BoolOp_and ?_
  refine low_isi (c := "int") M1 rfl rfl rfl rfl B.isinstance_ rfl B.int_ PyProof.Rows.boot_int (by decide) (by decide) rfl hn rfl (by decide) T1 ha (fun tk2 => ?_) rfl rfl rfl
  refine wpAny_truthy_bool ?_
  cases a with
  | false =>
    refine ite_ff ?_
    show R _ _
    have e1 : (t == "int") = false := hab.symm
    have := hq { s with heap := h₁, toks := tk2 } ⟨h₁, tk2, rfl, k⟩
    rw [e1] at this
    exact this
  | true =>
    refine ite_tt (BoolOp_one (UnaryOp_ ?_))
    refine low_isi (c := "bool") (s := { s with heap := h₁, toks := tk2 }) M1 rfl rfl rfl rfl B.isinstance_ rfl B.bool_ PyProof.Rows.boot_bool (by decide) (by decide) rfl hn rfl (by decide) T1 hb (fun tk3 => ?_) rfl rfl rfl
    refine not_of (wpAny_truthy_bool ?_)
    show R _ _
    have := hq { s with heap := h₁, toks := tk3 } ⟨h₁, tk3, rfl, k⟩
    rw [← hab] at this
    exact this
theorem low_corner {f fw : Addr} {fd fdw : FuncData} (D : Df K mg "is_corner" s_is_corner ["thing", "many"] f fd) (Dw : Df K mg "is_whole" s_is_whole ["thing"] fw fdw) (B : Bt mg) {A : Around} {s : Shared} {v : Value} {t : String} {m : Int} {tm : Tok} {r : Bool} {R : Result → Shared → Prop} (M : Mod K mg s.heap) (ht : t ∈ tyNames) (T : LowTy K s.heap v t) (hroom : A.depth + 1 < recursionLimit)
    (hi : t = "int" → ∃ i u, v = .int i u ∧ r = (decide (0 ≤ i) && decide (i < m))) (hni : t ≠ "int" → r = false) (hq : ∀ s', Keeps s s' → R (.ok (.ret (.bool r))) s') : codeAny (model prog w) A (.call (.ref f) ⟨[v, .int m tm], []⟩) R s := by
  obtain ⟨oc, od, kV, doc, pm, an, cdv, ct, osl, rfl, lk, hcd⟩ := D.F.ex
  refine Att.call_fn (binds := [("thing", v), ("many", .int m tm)]) M.kin M.nolimit lk hcd (by omega) (BindsTo.of_eq (by first | rfl | with_unfolding_all rfl)) (by first | rfl | decide | with_unfolding_all rfl) (fun s₁ IC => ?_) rfl rfl rfl
  obtain ⟨h₁, tk₁, rfl⟩ := IC.toInCall.same
  have k : ∀ b o, s.heap.get? b = some o → h₁.get? b = some o := IC.toInCall.keep
  have hn := IC.toInCall.ns
  have M1 : Mod K mg h₁ := mod_keeps M k
  have T1 := T.keeps k
  show wpAny _ _ (execs _ _) _ _ _
  refine wpAny_execs_cons (wpAny_Return_some ?_)
  refine BoolOp_and ?_
  refine wpAny_Call_Name_kw (Calls.Name_function_global rfl rfl (Calls.loadGlobal_global (mg := mg) M1.glob Dw.g ?_))
  refine PySem.W.callWith_K (h₀ := h₁) M1.kin Dw.F.kp ?_ rfl rfl
  show wpAny _ _ (spliced ((false, eval (.Name "thing" _) _) :: backTo _ (starEach [] _))) _ _ _
  refine Calls.spliced_cons (wpAny_Name (wpAny_loadName_local rfl rfl hn rfl ?_) (by decide))
  refine Calls.spliced_nil ⟨M1.kin, ?_⟩
  show wpAny _ _ (call (.ref fw) [v]) _ _ _
  refine wpAny_call (low_whole Dw B (s := { s with heap := h₁, toks := tk₁ }) M1 ht T1 (by show A.depth + 1 < recursionLimit; exact hroom) fun s' hs' => ?_)
  obtain ⟨h2, tk2, rfl, k2⟩ := hs'
  refine wpAny_truthy_bool ?_
  by_cases hint : t = "int"
  · obtain ⟨i, u, rfl, hr⟩ := hi hint
    have e1 : (t == "int") = true := by rw [hint]; rfl
    rw [e1]
    refine ite_tt (BoolOp_one (Compare_chain ?_ rfl))
    have hn2 := hn.keeps k2
    refine wpAny_Constant_int ?_
    refine chain_link (wpAny_Name (wpAny_loadName_local rfl rfl hn2 rfl ?_) (by decide))
    refine PyProof.Rows.le_int (wpAny_truthy_bool ?_)
    cases h0 : decide (0 ≤ i) with
    | false =>
      refine ite_ff ?_
      show R _ _
      rw [h0] at hr
      rw [show r = false from hr] at hq
      exact hq _ ⟨h2, _, rfl, fun b o e => k2 b o (k b o e)⟩
    | true =>
      refine ite_tt (chain_last (wpAny_Name (wpAny_loadName_local rfl rfl hn2 rfl ?_) (by decide)))
      refine PyProof.Rows.lt_int ?_
      show R _ _
      rw [h0] at hr
      rw [show r = decide (i < m) from hr] at hq
      exact hq _ ⟨h2, _, rfl, fun b o e => k2 b o (k b o e)⟩
  · have e1 : (t == "int") = false := beq_eq_false_iff_ne.mpr hint
    rw [e1]
    refine ite_ff ?_
    show R _ _
    rw [hni hint] at hq
    exact hq _ ⟨h2, _, rfl, fun b o e => k2 b o (k b o e)⟩
end
/-! ### all(.. for .. in ..): the def's table of code objects stands in the heap as a thing that stays a table -/
def tabIs (P : Addr) : Heap → Prop := fun h => ∃ ps : Array Value, h.get? P = some { cls := .none, data := .fields ps } ∧ TriplesOk ps.toList
abbrev TabO (P : Addr) : HO := .ext (tabIs P)
theorem tabIs_at {P : Addr} {h h' : Heap} (x : tabIs P h) (k : ∀ o, h.get? P = some o → h'.get? P = some o) : tabIs P h' := by
  obtain ⟨ps, e, t⟩ := x
  exact ⟨ps, k _ e, t⟩
theorem tab_obj {pr : Program} {w : World} {H : Hp} {h : Heap} {P : Addr} (x : tabIs P h) : ObjOk pr w H h P (TabO P) := by
  refine ⟨x, ?_, fun h1 h2 y k => tabIs_at y k⟩
  obtain ⟨ps, e, _⟩ := x
  exact ⟨_, e⟩
section
variable {X : Cx} {pins : List (Addr × Obj)} {σ : L2.St} {H : Hp} {s : Shared}
/-- the table may have grown: nothing else has changed -/
theorem inv_tabX {P : Addr} {h' : Heap} {g' : Array GenState} {d' : Drawn} {t' : Nat} (I : Inv X pins σ H s) (hP : H P = some (TabO P)) (k : ∀ b o, b ≠ P → s.heap.get? b = some o → h'.get? b = some o) (ht : tabIs P h') (hg : AllBare g') :
    Inv X pins σ H { s with heap := h', gens := g', drawn := d', toks := t' } := by
  have nf : ∀ b, H b = none → b ≠ P := fun b e z => by
    subst z
    rw [hP] at e
    cases e
  refine I.step (ch := []) (fun b hb => nomatch hb) (fun b o _ _ _ e n => k b o (nf b n) e) (fun b o _ _ _ e n => ⟨o.slots, k b o (nf b n) e⟩) (fun b o _ _ n => n) (fun b o _ e => ?_) (fun b u e => e) (fun b o u e => e) (fun b qs e => ⟨#[], by rw [e]; simp⟩) (fun m hn => ?_) (fun b u e => ?_) hg
  · by_cases hb : b = P
    · subst hb
      obtain ⟨ps, e2, _⟩ := ht
      exact ⟨_, e2⟩
    · exact ⟨o, k b o hb e⟩
  · obtain ⟨ob, es, ep, ho, r⟩ := hn
    exact ⟨ob, es, ep, k _ ob (nf _ I.free) ho, r⟩
  · by_cases hb : b = P
    · subst hb
      rw [hP] at e
      cases e
      exact tab_obj ht
    · refine (I.hok b u e).stay (fun d v hd q => k d v (fun z => ?_) q) (fun d q => q) fun d xs q => q
      subst z
      rcases hd with z | z
      · exact hb z.symm
      · rw [hP] at z
        cases z
/-- what an element of a generator expression gives, in whatever frame it is asked -/
def EltOk (X : Cx) (scope : Scope) (x : Str) (elt : Expr) (P : Addr) (σ : L2.St) (H : Hp) (xs : List V) (pb : Nat → Bool) : Prop :=
  ∀ (pins : List (Addr × Obj)) (s : Shared), Inv X pins σ H s → ∀ its : List Value, Vals xs its → ∀ cenv : Env, cenv.scope = scope → cenv.globals = X.env.globals → cenv.cells = cloFrom X.env.cells scope.names [] →
    ∀ (A' : Around) (E' : Value → Shared → Prop) (i : Nat) (v : Value) (s2 : Shared) (m2 : Str → Option Value), A'.handled = none → A'.depth ≤ X.A.depth + 1 → A'.units ≤ X.A.units + 8 → its[i]? = some v → s2.heap.Ns cenv.locals m2 → m2 x = some v →
      (∀ b o, b ≠ P → s.heap.get? b = some o → s2.heap.get? b = some o) → wpAny (model X.prog X.w) A' (eval elt cenv) (fun y s3 => y = .bool (pb i) ∧ Keeps s2 s3) E' s2
/-- a generator that stands ready, its n elements' truths pb -/
def RdyG (X : Cx) (pins : List (Addr × Obj)) (σ : L2.St) (H : Hp) (n : Nat) (pb : Nat → Bool) (g : Addr) (s5 : Shared) : Prop :=
  ∃ (fp wr : List Addr) (G : Array GenState → Array GenState → Prop) (F : Nat → Value → Prop) (St : Nat → Shared → Prop),
    WalksS X.prog X.w X.A.in1 g fp wr G n F St ∧ St 0 s5 ∧ TruthOf X.prog X.w X.A.in1 F pb ∧ ∀ s', Moved wr G s5 s' → Inv X pins σ H s'
theorem gen_tup {c P : Addr} {elt iter : Expr} {x : Str} {px gpos : Pos} {scope : Scope} {te : TE} {k : Nat} {Q' : Value → Shared → Prop} {R : List V → (Nat → Bool) → Hp → Prop} (hr : Room k X.A) (TB : GxR.TabB X.base X.mg c P) (hcode : X.env.code = .ref c) (S : GxR.GenS X.env scope x) (hi : PE X iter te)
    (hs : ∀ v, genFold iter X.env v = pure v) (I : Inv X pins σ H s) (h : te σ H fun v H1 => ∃ (a : Addr) (xs : List V) (pb : Nat → Bool), v = .ref a ∧ SqT X.K H1 a xs ∧ H1 P = some (TabO P) ∧ EltOk X scope x elt P σ H1 xs pb ∧ R xs pb H1)
    (hQ : ∀ xs pb H1 g s5, R xs pb H1 → RdyG X pins σ H1 xs.length pb g s5 → Q' (.ref g) s5) :
    wpAny (model X.prog X.w) X.A (eval (.GeneratorExp elt [⟨.Name x px, iter, [], 0⟩] scope gpos) X.env) Q' X.xe s := by
  have hdep : X.A.depth < recursionLimit := Nat.lt_of_le_of_lt (by omega) hr.dp
  refine wpAny_GeneratorExp_walksQD hr.hd S.co (closure_ok S.free) S.cell S.dot S.loc S.kind hdep (thn (hi.run pins s σ H _ I h) fun xv s1 hx1 => ?_) hs
  obtain ⟨v, H1, I1, r1, a, xs, pb, rfl, hsq, hP, hel, hR⟩ := hx1
  obtain rfl : xv = Value.ref a := r1
  obtain ⟨its, rv, htp, hsz⟩ := I1.tuple hsq
  have hlen : its.toArray.size = xs.length := by rw [List.size_toArray]; exact (Vals.length rv).symm
  refine wpAny_pyIter_tuple htp ?_
  obtain ⟨ps, hPs, htr⟩ := (show ObjOk X.prog X.w H1 s1.heap P (TabO P) from I1.hok P _ hP).1
  have hPlt : P < s1.heap.objs.size := Heap.lt_size hPs
  have halt : a < s1.heap.objs.size := htp.lt
  generalize hob : ({ cls := .type "tuple_iterator", data := .fields #[.ref a, .int 0 0] } : Obj) = ob
  have kpush : ∀ b u, s1.heap.get? b = some u → (s1.heap.push ob).get? b = some u := fun b u e => Heap.get?_push_of_some _ e
  have hit0 : (s1.heap.push ob).IsTupleIter s1.heap.objs.size a 0 := ⟨_, Heap.get?_push_size _ (by rw [← hob]; rfl), by rw [← hob], by rw [← hob]; rfl⟩
  have htp0 : (s1.heap.push ob).IsTuple a its.toArray := Heap.IsTuple.at htp fun o e => kpush a o e
  have hszp : (s1.heap.push ob).objs.size = s1.heap.objs.size + 1 := Heap.size_push ..
  have hPp : (s1.heap.push ob).get? P = some { cls := .none, data := .fields ps } := kpush P _ hPs
  have cd : PySem.W.CodeHd (s1.heap.push ob) c P := TB.code.keeps fun b u e => kpush b u (I1.bk b u e)
  have hlimp : (s1.heap.push ob).NoLimit := I1.nolimit.push ob
  have hcP : cStatics ≠ P := fun e => by
    obtain ⟨_, hns, _⟩ := I1.nolimit
    obtain ⟨o', es, ep, ho, hd, _⟩ := hns
    rw [e, hPs] at ho
    cases ho
    cases hd
  have hcl : cStatics < s1.heap.objs.size := let ⟨_, hns, _⟩ := I1.nolimit; hns.lt
  -- behind the code object: the table as it is then
  have fin : ∀ (code : Value) (h3 : Heap) (tk : Nat), Heap.ExtBut P (s1.heap.push ob) h3 → (s1.heap.push ob).objs.size ≤ h3.objs.size → tabIs P h3 →
      wpAny (model X.prog X.w) X.A (builtinsFor X.env.globals X.env.builtins) (fun bi s4 =>
        ∃ Ia fp wr n0 Pf St0 pz F, Value.ref s1.heap.objs.size = .ref Ia ∧ (∀ A' : Around, A'.handled = none → Walks X.prog X.w A' Ia fp wr n0 Pf St0) ∧ St0 0 s4.heap ∧ (∀ b ∈ fp, b < s4.heap.objs.size) ∧ s4.heap.NoLimit ∧ cStatics ∉ wr ∧
          (∀ href : Heap, (∀ b o, s4.heap.get? b = some o → href.get? b = some o) →
            QuietGenD X.prog X.w (genEnv scope (cloFrom X.env.cells scope.names []) s4.heap.objs.size code bi X.env) x [] elt (List.range s4.heap.objs.size) wr Pf pz F href (X.A.depth + 1) (X.A.units + 8)) ∧
          (∀ a h5 tk gs, gs.bare = true → s4.heap.objs.size < a → h5.objs.size = a + 1 → (∀ b o, s4.heap.get? b = some o → h5.get? b = some o) →
            WalksS X.prog X.w X.A.in4 a (a :: s4.heap.objs.size :: List.range s4.heap.objs.size) (s4.heap.objs.size :: wr) (GenOnlyQ s4.gens.size) (passing pz n0 0).length
              (fun j y => ∃ i, (passing pz n0 0)[j]? = some i ∧ F i y) (GenAt X.prog X.w X.A.in4 a s4.gens.size s4.heap.objs.size (List.range s4.heap.objs.size) wr pz n0 F) →
            GenAt X.prog X.w X.A.in4 a s4.gens.size s4.heap.objs.size (List.range s4.heap.objs.size) wr pz n0 F 0 { s4 with gens := s4.gens.push gs, toks := tk, heap := h5 } →
            Q' (.ref a) { s4 with gens := s4.gens.push gs, toks := tk, heap := h5 })) X.xe { s1 with heap := h3, toks := tk } := by
    intro code h3 tk hx hge ht3
    have keep3 : ∀ b u, b ≠ P → s1.heap.get? b = some u → h3.get? b = some u := fun b u hb e => hx b u hb (kpush b u e)
    obtain ⟨bm, ob2, e1, e2, e3, e4, e5, e6, e7, e8⟩ := TB.bm
    refine wpAny_builtinsFor (m := X.mg) (by rw [I1.ok.glob]; exact ((I1.mod.glob.keeps I1.bk).push ob).extBut hx TB.gP) e1 e2 (keep3 _ _ e4 (I1.bk _ _ e5)) e6 e7 e8 ?_
    have hs3 : s1.heap.objs.size + 1 ≤ h3.objs.size := by rw [← hszp]; exact hge
    have old3 : ∀ b u, s1.heap.get? b = some u → b < h3.objs.size := fun b u e => Nat.lt_of_lt_of_le (Nat.lt_of_lt_of_le (Heap.lt_size e) (Nat.le_succ _)) hs3
    have itP : s1.heap.objs.size ≠ P := (Nat.ne_of_lt hPlt).symm
    have aP : a ≠ P := fun z => by
      obtain ⟨o, ho, hc, _⟩ := htp
      rw [z, hPs] at ho
      cases ho
      cases hc
    refine ⟨s1.heap.objs.size, [s1.heap.objs.size, a], [s1.heap.objs.size], its.toArray.size, fun i v => its.toArray[i]? = some v, fun i h => h.IsTupleIter s1.heap.objs.size a i ∧ h.IsTuple a its.toArray, fun _ => true, fun i y => i < xs.length ∧ y = .bool (pb i), rfl, fun A' hA => Walks.tuple hA _ _ (Nat.ne_of_lt halt) _, ?_, ?_, hlimp.extBut hx hcP, ?_, ?_, ?_⟩
    · exact ⟨hit0.at fun o e => hx _ o itP e, htp0.at fun o e => hx _ o aP e⟩
    · intro b hb
      show b < h3.objs.size
      have hb2 : b = s1.heap.objs.size ∨ b = a := by simpa using hb
      rcases hb2 with z | z
      · rw [z]
        exact Nat.lt_of_lt_of_le (Nat.lt_succ_self _) hs3
      · rw [z]
        exact Nat.lt_of_lt_of_le (Nat.lt_of_lt_of_le halt (Nat.le_succ _)) hs3
    · intro z
      have z2 : cStatics = s1.heap.objs.size := by simpa using z
      exact Nat.ne_of_lt hcl z2
    · intro href hhref
      refine ⟨fun A' E' i v s2 m2 hA _ _ hPv hn hm hk => ?_, fun A' E' i v s2 m2 hA hD hU hPv _ hn hm hk => ?_⟩
      · simp only [List.forIn_nil]
        exact wpAny_pure ⟨rfl, GxR.keeps_refl _⟩
      · have hPv2 : its[i]? = some v := by simpa using hPv
        have hilt : i < xs.length := by
          have := (List.getElem?_eq_some_iff.mp hPv2).1
          rw [List.size_toArray] at hlen
          omega
        refine wpAny_mono (hel pins s1 I1 its rv (genEnv scope (cloFrom X.env.cells scope.names []) h3.objs.size code builtinsNs X.env) rfl rfl rfl A' E' i v s2 m2 hA hD hU hPv2 hn hm (fun b o hb e => ?_)) (fun y s3 q => ⟨⟨hilt, q.1⟩, q.2⟩) fun _ _ q => q
        have hblt := Heap.lt_size e
        refine hk b (List.mem_range.mpr ?_) (fun z => ?_) o (hhref b o (keep3 b o hb e))
        · exact old3 b o e
        · have z2 : b = s1.heap.objs.size := by simpa using z
          exact Nat.ne_of_lt hblt z2
    · intro g h5 tk5 gs hgb hag hsz5 hk5 W5 hat
      simp only [GxR.passing_true, List.length_range] at W5
      refine hQ xs pb H1 g _ hR ?_
      rw [← hlen]
      refine ⟨_, _, _, _, _, W5.in4_1, hat, ?_, fun s' hm => ?_⟩
      · intro j y sj Qj Ej hy hQj
        obtain ⟨i, hij, hlt, rfl⟩ := hy
        obtain ⟨hj, ej⟩ := List.getElem?_eq_some_iff.mp hij
        have ej2 : i = j := by simpa [GxR.passing_true] using ej.symm
        subst ej2
        exact wpAny_truthy_bool hQj
      · have nwr : ∀ b u, s1.heap.get? b = some u → b ∉ h3.objs.size :: [s1.heap.objs.size] := fun b u e hb => by
          have hl := Heap.lt_size e
          have hb2 : b = h3.objs.size ∨ b = s1.heap.objs.size := by simpa using hb
          rcases hb2 with z | z
          · exact Nat.ne_of_lt (old3 b u e) z
          · exact Nat.ne_of_lt hl z
        have J := inv_tabX (h' := s'.heap) (g' := s'.gens) (d' := s'.drawn) (t' := s'.toks) I1 hP (fun b u hb e => hm.heap b u (nwr b u e) (hk5 b u (keep3 b u hb e))) (tabIs_at ht3 fun o e => hm.heap P o (nwr P _ hPs) (hk5 P o e)) (AllBare.movedS (I1.bare.push hgb) hm)
        rw [GxR.sh_eta s1 s' hm.os] at J
        exact J
  refine ⟨hlimp, ?_⟩
  cases hf : codeAmong gpos ps.toList with
  | none =>
    refine wpAny_genexprCodeX hcode (cd.code hPp htr) (cd.tab hPp) hf fun c' h' tk hx hge hlt hco' _ htab' _ => ?_
    obtain ⟨o1, vs, f1, tf, fl, tg, inF, tx, tt, op, _, _, _, _, _, _, _, _, _, htr2, _⟩ := hco'
    exact fin _ h' tk hx (Nat.le_trans hge (Nat.le_of_lt hlt)) ⟨_, htab'.2, htr2⟩
  | some cv =>
    refine wpAny_genexprCode_hit hcode (cd.code hPp htr) hf ?_
    exact fin cv (s1.heap.push ob) s1.toks (Heap.ExtBut.refl _ _) (Nat.le_refl _) ⟨ps, hPp, htr⟩
end
section
variable {X : Cx} {pins : List (Addr × Obj)} {σ : L2.St} {H : Hp} {s : Shared}
/-- all(elt for x in e), e a tuple -/
def tAllT (X : Cx) (P : Addr) (scope : Scope) (x : Str) (elt : Expr) (te : TE) : TE := fun σ H Q => te σ H fun v H1 => ∃ (a : Addr) (xs : List V) (pb : Nat → Bool), v = .ref a ∧ SqT X.K H1 a xs ∧ H1 P = some (TabO P) ∧ EltOk X scope x elt P σ H1 xs pb ∧ Q (.bl ((List.range xs.length).all pb)) H1
theorem pe_allT {c P : Addr} {elt iter : Expr} {x : Str} {px p pos gpos : Pos} {scope : Scope} {te : TE} {k : Nat} (hr : Room k X.A) (hg : Gl X "all") (hm : X.mg "all" = none) (TB : GxR.TabB X.base X.mg c P) (hcode : X.env.code = .ref c) (S : GxR.GenS X.env scope x) (hi : PE X iter te)
    (hs : ∀ v, genFold iter X.env v = pure v := by intro _; rfl)
    (he : starEach [.GeneratorExp elt [⟨.Name x px, iter, [], 0⟩] scope gpos] X.env = (false, eval (.GeneratorExp elt [⟨.Name x px, iter, [], 0⟩] scope gpos) X.env) :: starEach [] X.env := by rfl) :
    PE X (.Call (.Name "all" p) [.GeneratorExp elt [⟨.Name x px, iter, [], 0⟩] scope gpos] [] pos) (tAllT X P scope x elt te) := by
  refine ⟨fun pins s σ H Q I h => wpAny_Call_Name_kw (ld_blt I hg hm (u := .builtin "all") (by decide +kernel) (PyProof.Rows.callWith_builtin1 ?_ he (by rfl)))⟩
  rw [he]
  refine Calls.spliced_cons (gen_tup (R := fun xs pb H1 => Q (.bl ((List.range xs.length).all pb)) H1) hr TB hcode S hi hs I h fun xs pb H1 g s5 hR hG => Calls.spliced_nil ?_)
  obtain ⟨fp, wr, G, F, St, W, hst, htr, hI⟩ := hG
  exact call_all_walkS (W.self 0 _ _ _ hst ⟨g, fp, wr, G, _, F, St, _, rfl, W, hst, htr, fun s' hmv => ⟨.bl _, H1, hI s' hmv, rfl, hR⟩⟩)
/-- a value's type at a later heap -/
theorem lowty_of {P : Addr} {x : V} {u : Value} {t : String} {h2 : Heap} (I : Inv X pins σ H s) (hP : H P = some (TabO P)) (rx : RelV x u) (ty : TyX X.K H x (.type t)) (hk : ∀ b o, b ≠ P → s.heap.get? b = some o → h2.get? b = some o) : LowTy X.K h2 u t := by
  have at_ : ∀ {a : Addr} {T : String} {o : Obj}, s.heap.get? a = some o → o.cls = .type T → a ≠ P → PySem.W.KitAt a T h2 ∧ ∀ h', (∀ b o, h2.get? b = some o → h'.get? b = some o) → PySem.W.KitAt a T h' := fun {a T o} e1 e2 e3 =>
    ⟨⟨o, hk a o e3 e1, e2⟩, fun h' k' => ⟨o, k' a o (hk a o e3 e1), e2⟩⟩
  have nP : ∀ {a : Addr} {u : HO}, H a = some u → (∀ φ, u ≠ .ext φ) → a ≠ P := fun {a u} e n z => by
    subst z
    rw [hP] at e
    exact n _ (Option.some.inj e).symm
  have kP : ∀ {a : Addr} {o : Obj}, X.K.lookup a = some o → s.heap.get? a = some o ∧ a ≠ P := fun {a o} e => by
    have q := I.bs a o (I.mod.kin a o e)
    exact ⟨q.1, fun z => by rw [z, hP] at q; cases q.2⟩
  cases ty with
  | base b =>
    cases b with
    | non => cases (show u = Value.none from rx); exact ⟨⟨_, PySem.W.kitx_none, True.intro, fun _ _ => True.intro⟩, fun z => nomatch z⟩
    | bl y => cases (show u = Value.bool y from rx); exact ⟨⟨_, PySem.W.kitx_bool, True.intro, fun _ _ => True.intro⟩, fun z => nomatch z⟩
    | int i => obtain ⟨t, q⟩ := (show ∃ t, u = Value.int i t from rx); cases q; exact ⟨⟨_, PySem.W.kitx_int, True.intro, fun _ _ => True.intro⟩, fun z => nomatch z⟩
    | str y => obtain ⟨t, q⟩ := (show ∃ t, u = Value.str y t from rx); cases q; exact ⟨⟨_, PySem.W.kitx_str, True.intro, fun _ _ => True.intro⟩, fun z => nomatch z⟩
    | flt y => obtain ⟨t, q⟩ := (show ∃ t, u = Value.float y t from rx); cases q; exact ⟨⟨_, PySem.W.kitx_float, True.intro, fun _ _ => True.intro⟩, fun z => nomatch z⟩
    | @lst a xs ea =>
      cases (show u = Value.ref a from rx)
      obtain ⟨_, _, n, _, h1⟩ := (show ObjOk X.prog X.w H s.heap a (.lst xs) from I.hok a _ ea)
      exact ⟨⟨_, PySem.W.kitx_list, at_ h1 rfl (nP ea fun _ z => nomatch z)⟩, fun z => nomatch z⟩
    | @frz a ob xs ea =>
      cases (show u = Value.ref a from rx)
      obtain ⟨_, _, _, n, _, h1⟩ := (show ObjOk X.prog X.w H s.heap a (.frz ob (.lst xs)) from I.hok a _ ea)
      exact ⟨⟨_, PySem.W.kitx_list, at_ h1 rfl (nP ea fun _ z => nomatch z)⟩, fun z => nomatch z⟩
    | @tup a xs ea =>
      cases (show u = Value.ref a from rx)
      obtain ⟨_, _, _, o, h1, h2', _⟩ := (show ObjOk X.prog X.w H s.heap a (.tup xs) from I.hok a _ ea)
      exact ⟨⟨_, PySem.W.kitx_tuple, at_ h1 h2' (nP ea fun _ z => nomatch z)⟩, fun z => nomatch z⟩
    | @dK a kvs ea =>
      cases (show u = Value.ref a from rx)
      obtain ⟨_, _, vs, _, o, es, ep, h1, h2', _⟩ := (show ObjOk X.prog X.w H s.heap a (.dK kvs) from I.hok a _ ea)
      exact ⟨⟨_, PySem.W.kitx_dict, at_ h1 h2'.1 (nP ea fun _ z => nomatch z)⟩, fun z => nomatch z⟩
    | @dT a kvs ea =>
      cases (show u = Value.ref a from rx)
      obtain ⟨_, _, xs, _, o, es, ep, h1, h2', _⟩ := (show ObjOk X.prog X.w H s.heap a (.dT kvs) from I.hok a _ ea)
      exact ⟨⟨_, PySem.W.kitx_dict, at_ h1 h2'.1 (nP ea fun _ z => nomatch z)⟩, fun z => nomatch z⟩
  | byt y => obtain ⟨t, q⟩ := (show ∃ t, u = Value.bytes y t from rx); cases q; exact ⟨⟨_, PySem.W.kitx_bytes, True.intro, fun _ _ => True.intro⟩, fun z => nomatch z⟩
  | @set a S n ea =>
    cases (show u = Value.ref a from rx)
    obtain ⟨o, _, _, _, e, ex, _⟩ := I.hok a _ ea
    exact ⟨⟨_, PySem.W.kitx_set, at_ e ex.1 (nP ea fun _ z => nomatch z)⟩, fun z => nomatch z⟩
  | @kList a o e c =>
    cases (show u = Value.ref a from rx)
    exact ⟨⟨_, PySem.W.kitx_list, at_ (kP e).1 c (kP e).2⟩, fun z => nomatch z⟩
  | @kTuple a o e c =>
    cases (show u = Value.ref a from rx)
    exact ⟨⟨_, PySem.W.kitx_tuple, at_ (kP e).1 c (kP e).2⟩, fun z => nomatch z⟩
  | @kDict a o e c =>
    cases (show u = Value.ref a from rx)
    exact ⟨⟨_, PySem.W.kitx_dict, at_ (kP e).1 c (kP e).2⟩, fun z => nomatch z⟩
  | @fTuple a ob xs ea =>
    cases (show u = Value.ref a from rx)
    obtain ⟨_, _, _, _, o, h1, h2', _⟩ := (show ObjOk X.prog X.w H s.heap a (.frz ob (.tup xs)) from I.hok a _ ea)
    exact ⟨⟨_, PySem.W.kitx_tuple, at_ h1 h2' (nP ea fun _ z => nomatch z)⟩, fun z => nomatch z⟩
  | @fDict a ob kvs ea =>
    cases (show u = Value.ref a from rx)
    obtain ⟨_, _, _, vs, _, o, es, ep, h1, h2', _⟩ := (show ObjOk X.prog X.w H s.heap a (.frz ob (.dK kvs)) from I.hok a _ ea)
    exact ⟨⟨_, PySem.W.kitx_dict, at_ h1 h2'.1 (nP ea fun _ z => nomatch z)⟩, fun z => nomatch z⟩
theorem mod_later {P : Addr} {h2 : Heap} (I : Inv X pins σ H s) (hP : H P = some (TabO P)) (hk : ∀ b o, b ≠ P → s.heap.get? b = some o → h2.get? b = some o) : Mod X.K X.mg h2 :=
  mod_keeps I.mod fun b o e => hk b o (fun z => by have q := (I.bs b o e).2; rw [z, hP] at q; cases q) (I.bs b o e).1
theorem ty_int_inv {K : PySem.W.Frag} {H : Hp} {x : V} {t : String} (ty : TyX K H x (.type t)) (h : t = "int") : ∃ i, x = .int i := by
  cases ty with
  | base b => cases b <;> first | exact ⟨_, rfl⟩ | exact absurd h (by decide)
  | _ => exact absurd h (by decide)
theorem ty_of_int {K : PySem.W.Frag} {H : Hp} {i : Int} {t : String} (ty : TyX K H (.int i) (.type t)) : t = "int" := by
  cases ty with
  | base b => cases b; rfl
/-- whether a value is one of so many corners -/
def cornerB (m : Int) : V → Bool
  | .int i => decide (0 ≤ i) && decide (i < m)
  | _ => false
/-- the element is_corner(x, y[0]), y a captured name in slot j that holds a curve -/
theorem elt_corner {P f fw ca : Addr} {fd fdw : FuncData} {scope : Scope} {x y : Str} {p1 p2 p3 p4 p5 pos : Pos} {j0 j : Nat} {k : Nat} {xs : List V} {m d : Int} (D : Df X.K X.mg "is_corner" s_is_corner ["thing", "many"] f fd) (Dw : Df X.K X.mg "is_whole" s_is_whole ["thing"] fw fdw) (B : Bt X.mg) (hr : Room (k + 2) X.A) (hP : H P = some (TabO P))
    (hkd : scope.kind = .function) (hco : scope.names.lookup ("is_corner" : Str) = some NameKind.globalImplicit) (hx : scope.names.lookup x = some .local) (hy : scope.names.lookup y = some .free) (hym : (y, NameKind.free) ∈ scope.names) (dx : (x == ("__debug__" : Str)) = false) (dy : (y == ("__debug__" : Str)) = false) (dc : (y == ("__classdict__" : Str)) = false)
    (hfree : ∀ z ∈ scope.names, z.2 = .free → ∃ c, X.env.cells.lookup z.1 = some c) (hN : X.N[j]? = some y) (hcy : X.env.scope.names.lookup y = some .cell) (hσ : σ[j]? = some (some (.ref ca))) (hca : SqT X.K H ca [.int m, .int d])
    (hty : ∀ v ∈ xs, ∃ t, t ∈ tyNames ∧ TyX X.K H v (.type t)) :
    EltOk X scope x (.Call (.Name "is_corner" p1) [.Name x p2, .Subscript (.Name y p3) (.Constant (.int 0) j0 p4) p5] [] pos) P σ H xs (fun i => cornerB m (xs.getD i .non)) := by
  intro pins s I its rv cenv e1 e2 e3 A' E' i v s2 m2 hA hD hU hv hn hm hk
  have M := mod_later I hP hk
  have ek : cenv.scope.kind = .function := by rw [e1]; exact hkd
  have lk : ∀ z, cenv.kindOf z = scope.names.lookup z := fun z => by
    show cenv.scope.names.lookup z = _
    rw [e1]
  -- the item
  have hilt : i < xs.length := by
    rw [Vals.length rv]
    exact (List.getElem?_eq_some_iff.mp hv).1
  obtain ⟨v', hv', rx⟩ := Vals.get rv (List.getElem?_eq_getElem hilt)
  rw [hv] at hv'
  cases hv'
  obtain ⟨t, ht, ty⟩ := hty _ (List.getElem_mem hilt)
  have T := lowty_of I hP rx ty hk
  -- the curve
  obtain ⟨mm, _, hloc⟩ := I.loc
  obtain ⟨u, ru, hl⟩ := hloc j y _ hN hσ (.inr (.inl hcy))
  obtain rfl : u = Value.ref ca := ru
  have hcell : ∃ c, X.env.cells.lookup y = some c ∧ s.heap.IsCell c (some (.ref ca)) := by
    rcases hl with ⟨hk2, _⟩ | ⟨_, c, hc, hcl⟩
    · have q : X.env.scope.names.lookup y = some .local := hk2
      rw [hcy] at q
      cases q
    · exact ⟨c, hc, hcl⟩
  obtain ⟨c, hc, o, ho, hod⟩ := hcell
  have hc2 : s2.heap.IsCell c (some (.ref ca)) := ⟨o, hk c o (fun z => by have q := I.freeC y c hc; rw [z, hP] at q; cases q) ho, hod⟩
  obtain ⟨cits, cr, ctp, _⟩ := I.tuple hca
  have caP : ca ≠ P := fun z => by
    obtain ⟨o, ho, hcl, _⟩ := ctp
    obtain ⟨ps, hPs, _⟩ := (show ObjOk X.prog X.w H s.heap P (TabO P) from I.hok P _ hP).1
    rw [z, hPs] at ho
    cases ho
    cases hcl
  have ctp2 : IsTup s2.heap ca cits.toArray := by
    obtain ⟨o, ho, r⟩ := ctp
    exact ⟨o, hk ca o caP ho, r⟩
  cases cr with
  | cons r0 cr =>
  cases cr with
  | cons r1 cr =>
  cases cr
  obtain ⟨t0, rfl⟩ := (show ∃ t, _ = Value.int m t from r0)
  have ecl : cenv.cells.lookup y = some c := by
    rw [e3]
    exact NdefX.clo_has hfree hym hc
  refine wpAny_Call_Name_kw (Calls.Name_function_global ek ((lk _).trans hco) (Calls.loadGlobal_global (mg := X.mg) (by rw [e2, I.ok.glob]; exact M.glob) D.g ?_))
  refine PySem.W.callWith_K (h₀ := s2.heap) M.kin D.F.kp ?_ rfl rfl
  show wpAny _ _ (spliced ((false, eval (.Name x p2) cenv) :: (false, eval (.Subscript (.Name y p3) (.Constant (.int 0) j0 p4) p5) cenv) :: [])) _ _ _
  refine Calls.spliced_cons (wpAny_Name (wpAny_loadName_local ek ((lk _).trans hx) hn hm ?_) dx)
  refine Calls.spliced_cons (Subscript_ (wpAny_Name (wpAny_loadName_free ek ((lk _).trans hy) ecl hc2 ?_ dc) dy))
  refine wpAny_Constant_int ?_
  refine subscriptTail_builtinR (x := .int m t0) ctp2.typeIs PyProof.Rows.slot_tuple_getitem.lookup (PyProof.Rows.getItem_tuple (j := 0) ctp2 (by decide) (by decide) rfl rfl ⟨rfl, ?_⟩) rfl
  refine Calls.spliced_nil ⟨M.kin, ?_⟩
  show wpAny _ _ (call (.ref f) [v, .int m t0]) _ _ _
  have hdp := hr.dp
  have hgd : xs.getD i .non = xs[i] := by rw [List.getD_eq_getElem?_getD, List.getElem?_eq_getElem hilt]; rfl
  refine wpAny_call (low_corner D Dw B (s := { s2 with toks := _ }) (r := cornerB m (xs.getD i .non)) M ht T (by omega) (fun hint => ?_) (fun hni => ?_) fun s' hs' => ?_)
  · rw [hgd]
    obtain ⟨z, ez⟩ := ty_int_inv ty hint
    rw [ez] at rx ⊢
    obtain ⟨tz, rfl⟩ := (show ∃ t, v = Value.int z t from rx)
    exact ⟨z, tz, rfl, rfl⟩
  · rw [hgd]
    cases hxv : xs[i] with
    | int z =>
      rw [hxv] at ty
      exact absurd (ty_of_int ty) hni
    | _ => rfl
  · obtain ⟨h', tk, rfl, kk⟩ := hs'
    exact ⟨rfl, h', tk, rfl, kk⟩
end
/-! ### all(.. for x, y in zip(s, t)), s and t tuples -/
section
variable {prog : Program} {w : World}
theorem draws_tup {A : Around} (hh : A.handled = none) (it l : Addr) (hne : l ≠ it) (items : Array Value) : Draws prog w A it [it, l] items.size (fun i v => items[i]? = some v) (fun i h => h.IsTupleIter it l i ∧ h.IsTuple l items) := by
  refine ⟨fun _ _ st => ?_, fun _ _ _ st hk => ⟨st.1.at fun o e => hk it (by simp) o e, st.2.at fun o e => hk l (by simp) o e⟩, fun i s Q E hi st hQ => ?_, fun s Q E st hE => RZ.nextOf_tuple_end hh st.1 st.2 (by simp) hE⟩
  · obtain ⟨o, ho, _⟩ := st.1
    exact ⟨o, ho⟩
  · refine RZ.nextOf_tuple_item st.1 st.2 (x := items[i]) (by simp [hi]) fun h' a b => hQ _ h' s.toks (by simp [hi]) ⟨a, ?_⟩ b
    exact st.2.extBut b.extBut hne
end
section
variable {X : Cx} {pins : List (Addr × Obj)} {σ : L2.St} {H : Hp} {s : Shared}
structure GenS2 (env : Env) (scope : Scope) (xa xb : Str) : Prop where
  kind : scope.kind = .function
  co : scope.isCoroutine = false
  cell : ∀ y ∈ scope.names, y.2 ≠ .cell
  dot : scope.names.lookup (".0" : Str) = some NameKind.local
  la : scope.names.lookup xa = some NameKind.local
  lb : scope.names.lookup xb = some NameKind.local
  ne : xa ≠ xb
  free : ∀ y ∈ scope.names, y.2 = .free → ∃ c, env.cells.lookup y.1 = some c
def EltOk2 (X : Cx) (scope : Scope) (xa xb : Str) (elt : Expr) (P : Addr) (σ : L2.St) (H : Hp) (xs ys : List V) (pb : Nat → Bool) : Prop :=
  ∀ (pins : List (Addr × Obj)) (s : Shared), Inv X pins σ H s → ∀ its its2 : List Value, Vals xs its → Vals ys its2 → ∀ cenv : Env, cenv.scope = scope → cenv.globals = X.env.globals → cenv.cells = cloFrom X.env.cells scope.names [] →
    ∀ (A' : Around) (E' : Value → Shared → Prop) (i : Nat) (va vb : Value) (s2 : Shared) (m2 : Str → Option Value), A'.handled = none → A'.depth ≤ X.A.depth + 1 → A'.units ≤ X.A.units + 8 → its[i]? = some va → its2[i]? = some vb → s2.heap.Ns cenv.locals m2 → m2 xa = some va → m2 xb = some vb →
      (∀ b o, b ≠ P → s.heap.get? b = some o → s2.heap.get? b = some o) → wpAny (model X.prog X.w) A' (eval elt cenv) (fun y s3 => y = .bool (pb i) ∧ Keeps s2 s3) E' s2
theorem gen_zip {c P : Addr} {elt e1 e2 : Expr} {xa xb : Str} {pxa pxb pt pz pz2 gpos : Pos} {kt : Nat} {scope : Scope} {ta : TA} {k : Nat} {Q' : Value → Shared → Prop} {R : List V → List V → (Nat → Bool) → Hp → Prop} (hr : Room k X.A) (hg : Gl X "zip") (hm : X.mg "zip" = none) (TB : GxR.TabB X.base X.mg c P) (hcode : X.env.code = .ref c) (S : GenS2 X.env scope xa xb) (ha : PA X [e1, e2] ta)
    (he : starEach [e1, e2] X.env = (false, eval e1 X.env) :: starEach [e2] X.env) (hpl : (backTo pz2 (starEach [e2] X.env)).any (·.1) = false)
    (hs : ∀ v, genFold (.Call (.Name "zip" pz) [e1, e2] [] pz2) X.env v = pure v) (I : Inv X pins σ H s) (h : ta σ H fun vs H1 => ∃ (a b : Addr) (xs ys : List V) (pb : Nat → Bool), vs = [.ref a, .ref b] ∧ SqT X.K H1 a xs ∧ SqT X.K H1 b ys ∧ H1 P = some (TabO P) ∧ EltOk2 X scope xa xb elt P σ H1 xs ys pb ∧ R xs ys pb H1)
    (hQ : ∀ xs ys pb H1 g s5, R xs ys pb H1 → RdyG X pins σ H1 (min xs.length ys.length) pb g s5 → Q' (.ref g) s5) :
    wpAny (model X.prog X.w) X.A (eval (.GeneratorExp elt [⟨.Tuple [.Name xa pxa, .Name xb pxb] kt pt, .Call (.Name "zip" pz) [e1, e2] [] pz2, [], 0⟩] scope gpos) X.env) Q' X.xe s := by
  have hdep : X.A.depth < recursionLimit := Nat.lt_of_le_of_lt (by omega) hr.dp
  refine wpAny_GeneratorExp_walksQTD hr.hd S.co (closure_ok S.free) S.cell S.dot S.la S.lb S.ne S.kind hdep ?_ hs
  refine wpAny_Call_Name_kw (ld_blt I hg hm PyProof.Rows.boot_zip (PyProof.Rows.callWith_type1 (thn (ha.run pz2 pins s σ H _ I h) fun us s1 hx1 => ?_) he hpl))
  obtain ⟨vs, H1, I1, r1, a, b, xs, ys, pb, rfl, hsqa, hsqb, hP, hel, hR⟩ := hx1
  obtain ⟨u1, u2, rfl, ru1, ru2⟩ := vals2 r1
  obtain rfl : u1 = Value.ref a := ru1
  obtain rfl : u2 = Value.ref b := ru2
  obtain ⟨its, rv, htp, _⟩ := I1.tuple hsqa
  obtain ⟨its2, rv2, htp2, _⟩ := I1.tuple hsqb
  have hlen : its.toArray.size = xs.length := by rw [List.size_toArray]; exact (Vals.length rv).symm
  have hlen2 : its2.toArray.size = ys.length := by rw [List.size_toArray]; exact (Vals.length rv2).symm
  have halt : a < s1.heap.objs.size := htp.lt
  have hblt : b < s1.heap.objs.size := htp2.lt
  show wpAny _ _ (call (.type "zip") [.ref a, .ref b]) _ _ _
  refine RZ.call_zipT (show s1.heap.IsTuple a its.toArray from htp) (show s1.heap.IsTuple b its2.toArray from htp2) fun h' hz hTI hTO hi1 hi2 hsz' hk' => wpAny_pyIter_zip hz ?_
  obtain ⟨ps, hPs, htr⟩ := (show ObjOk X.prog X.w H1 s1.heap P (TabO P) from I1.hok P _ hP).1
  have hPlt : P < s1.heap.objs.size := Heap.lt_size hPs
  have hPp : h'.get? P = some { cls := .none, data := .fields ps } := hk' P _ hPs
  have cd : PySem.W.CodeHd h' c P := TB.code.keeps fun b u e => hk' b u (I1.bk b u e)
  have hlimp : h'.NoLimit := I1.nolimit.keeps hk'
  have hcP : cStatics ≠ P := fun e => by
    obtain ⟨_, hns, _⟩ := I1.nolimit
    obtain ⟨o', es, ep, ho, hd, _⟩ := hns
    rw [e, hPs] at ho
    cases ho
    cases hd
  have hcl : cStatics < s1.heap.objs.size := let ⟨_, hns, _⟩ := I1.nolimit; hns.lt
  have tupP : ∀ {q : Addr} {its : Array Value}, IsTup s1.heap q its → q ≠ P := fun {q its} ht z => by
    obtain ⟨o, ho, hc, _⟩ := ht
    rw [z, hPs] at ho
    cases ho
    cases hc
  have fin : ∀ (code : Value) (h3 : Heap) (tk : Nat), Heap.ExtBut P h' h3 → h'.objs.size ≤ h3.objs.size → tabIs P h3 →
      wpAny (model X.prog X.w) X.A (builtinsFor X.env.globals X.env.builtins) (fun bi s4 =>
        ∃ Ia fp wr n0 Pt St0 Mid pz F, Value.ref (s1.heap.objs.size + 4) = .ref Ia ∧ (∀ A' : Around, A'.handled = none → WalksU X.prog X.w A' Ia fp wr n0 Pt St0 Mid) ∧ (∀ i vals, Pt i vals → ∃ va vb, vals = #[va, vb]) ∧ St0 0 s4.heap ∧ (∀ b ∈ fp, b < s4.heap.objs.size) ∧ s4.heap.NoLimit ∧ cStatics ∉ wr ∧
          (∀ href : Heap, (∀ b o, s4.heap.get? b = some o → href.get? b = some o) →
            QuietGenTD X.prog X.w (genEnv scope (cloFrom X.env.cells scope.names []) s4.heap.objs.size code bi X.env) xa xb [] elt (List.range s4.heap.objs.size) wr Pt pz F href (X.A.depth + 1) (X.A.units + 8)) ∧
          (∀ a h5 tk gs, gs.bare = true → s4.heap.objs.size < a → h5.objs.size = a + 1 → (∀ b o, s4.heap.get? b = some o → h5.get? b = some o) →
            WalksS X.prog X.w X.A.in4 a (a :: s4.heap.objs.size :: List.range s4.heap.objs.size) (s4.heap.objs.size :: wr) (GenOnlyQ s4.gens.size) (passing pz n0 0).length
              (fun j y => ∃ i, (passing pz n0 0)[j]? = some i ∧ F i y) (GenAt X.prog X.w X.A.in4 a s4.gens.size s4.heap.objs.size (List.range s4.heap.objs.size) wr pz n0 F) →
            GenAt X.prog X.w X.A.in4 a s4.gens.size s4.heap.objs.size (List.range s4.heap.objs.size) wr pz n0 F 0 { s4 with gens := s4.gens.push gs, toks := tk, heap := h5 } →
            Q' (.ref a) { s4 with gens := s4.gens.push gs, toks := tk, heap := h5 })) X.xe { s1 with heap := h3, toks := tk } := by
    intro code h3 tk hx hge ht3
    have keep3 : ∀ q u, q ≠ P → s1.heap.get? q = some u → h3.get? q = some u := fun q u hq e => hx q u hq (hk' q u e)
    obtain ⟨bm, ob2, e1, e2, e3, e4, e5, e6, e7, e8⟩ := TB.bm
    refine wpAny_builtinsFor (m := X.mg) (by rw [I1.ok.glob]; exact ((I1.mod.glob.keeps I1.bk).keeps hk').extBut hx TB.gP) e1 e2 (keep3 _ _ e4 (I1.bk _ _ e5)) e6 e7 e8 ?_
    have hs3 : s1.heap.objs.size + 5 ≤ h3.objs.size := by rw [← hsz']; exact hge
    have old3 : ∀ q u, s1.heap.get? q = some u → q < h3.objs.size := fun q u e => Nat.lt_of_lt_of_le (Nat.lt_of_lt_of_le (Heap.lt_size e) (Nat.le_add_right _ 5)) hs3
    have newP : ∀ j : Nat, (s1.heap.objs.size + j : Nat) ≠ P := fun j z => Nat.lt_irrefl _ (Nat.lt_of_lt_of_le (Nat.lt_of_lt_of_le hPlt (Nat.le_add_right _ j)) (Nat.le_of_eq z))
    have newA : ∀ j : Nat, (s1.heap.objs.size + j : Nat) ≠ a := fun j z => Nat.lt_irrefl _ (Nat.lt_of_lt_of_le (Nat.lt_of_lt_of_le halt (Nat.le_add_right _ j)) (Nat.le_of_eq z))
    have newB : ∀ j : Nat, (s1.heap.objs.size + j : Nat) ≠ b := fun j z => Nat.lt_irrefl _ (Nat.lt_of_lt_of_le (Nat.lt_of_lt_of_le hblt (Nat.le_add_right _ j)) (Nat.le_of_eq z))
    have dif : ∀ i j : Nat, i ≠ j → (s1.heap.objs.size + i : Nat) ≠ s1.heap.objs.size + j := fun i j n z => n (Nat.add_left_cancel z)
    have sep : ZipSep2 (s1.heap.objs.size + 4) (s1.heap.objs.size + 2) (s1.heap.objs.size + 3) s1.heap.objs.size (s1.heap.objs.size + 1) [s1.heap.objs.size, a] [s1.heap.objs.size + 1, b] :=
      { TIz := dif 2 4 (by decide), TOz := dif 3 4 (by decide), TITO := dif 2 3 (by decide), TIi1 := dif 2 0 (by decide), mem1 := List.mem_cons_self .., zf1 := fun z => by
          rcases List.mem_cons.mp z with z | z
          · exact dif 4 0 (by decide) z
          · exact newA 4 (List.mem_singleton.mp z)
        Tf1 := fun z => by
          rcases List.mem_cons.mp z with z | z
          · exact dif 3 0 (by decide) z
          · exact newA 3 (List.mem_singleton.mp z)
        TIi2 := dif 2 1 (by decide), mem2 := List.mem_cons_self .., zf2 := fun z => by
          rcases List.mem_cons.mp z with z | z
          · exact dif 4 1 (by decide) z
          · exact newB 4 (List.mem_singleton.mp z)
        Tf2 := fun z => by
          rcases List.mem_cons.mp z with z | z
          · exact dif 3 1 (by decide) z
          · exact newB 3 (List.mem_singleton.mp z)
        sep1_2 := fun z => by
          rcases List.mem_cons.mp z with z | z
          · exact dif 0 1 (by decide) z
          · exact newB 0 (List.mem_singleton.mp z)
        sep2_1 := fun z => by
          rcases List.mem_cons.mp z with z | z
          · exact dif 1 0 (by decide) z
          · exact newA 1 (List.mem_singleton.mp z) }
    have nw : ∀ q, q < s1.heap.objs.size → q ∉ [s1.heap.objs.size + 4, s1.heap.objs.size + 3, s1.heap.objs.size, s1.heap.objs.size + 1] := fun q hq z => by
      have z2 : q = s1.heap.objs.size + 4 ∨ q = s1.heap.objs.size + 3 ∨ q = s1.heap.objs.size ∨ q = s1.heap.objs.size + 1 := by simpa using z
      have up : ∀ j : Nat, q ≠ s1.heap.objs.size + j := fun j z => Nat.lt_irrefl _ (Nat.lt_of_lt_of_le (Nat.lt_of_lt_of_le hq (Nat.le_add_right _ j)) (Nat.le_of_eq z.symm))
      rcases z2 with z | z | z | z
      · exact up 4 z
      · exact up 3 z
      · exact up 0 z
      · exact up 1 z
    refine ⟨s1.heap.objs.size + 4, _, _, _, _, _, _, fun _ => true, fun i y => y = .bool (pb i), rfl, fun A' hA => (WalksT.zipD2 (A := A') sep (draws_tup (show A'.in1.handled = none from hA) s1.heap.objs.size a (Nat.ne_of_lt halt) its.toArray) (draws_tup (show A'.in1.handled = none from hA) (s1.heap.objs.size + 1) b (fun z => newB 1 z.symm) its2.toArray)).toU, ?_, ?_, ?_, hlimp.extBut hx hcP, ?_, ?_, ?_⟩
    · intro i vals hv
      obtain ⟨x1, x2, _, _, rfl⟩ := hv
      exact ⟨x1, x2, rfl⟩
    · refine ⟨hx _ _ (newP 4) hz, hx _ _ (newP 2) hTI, ⟨_, _, hx _ _ (newP 3) hTO⟩, ⟨hi1.at fun o e => hx _ o (newP 0) e, Heap.IsTuple.at htp fun o e => keep3 _ o (tupP htp) e⟩, hi2.at fun o e => hx _ o (newP 1) e, Heap.IsTuple.at htp2 fun o e => keep3 _ o (tupP htp2) e⟩
    · intro q hq
      show q < h3.objs.size
      have inn : ∀ j : Nat, j < 5 → (s1.heap.objs.size + j : Nat) < h3.objs.size := fun j hj => Nat.lt_of_lt_of_le (Nat.add_lt_add_left hj _) hs3
      have hq2 : q = s1.heap.objs.size + 4 ∨ q = s1.heap.objs.size + 2 ∨ q = s1.heap.objs.size + 3 ∨ q = s1.heap.objs.size ∨ q = a ∨ q = s1.heap.objs.size + 1 ∨ q = b := by simpa using hq
      rcases hq2 with z | z | z | z | z | z | z
      · rw [z]; exact inn 4 (by decide)
      · rw [z]; exact inn 2 (by decide)
      · rw [z]; exact inn 3 (by decide)
      · rw [z]; exact inn 0 (by decide)
      · rw [z]; exact Nat.lt_of_lt_of_le (Nat.lt_of_lt_of_le halt (Nat.le_add_right _ 5)) hs3
      · rw [z]; exact inn 1 (by decide)
      · rw [z]; exact Nat.lt_of_lt_of_le (Nat.lt_of_lt_of_le hblt (Nat.le_add_right _ 5)) hs3
    · exact nw _ hcl
    · intro href hhref
      refine ⟨fun A' E' i va vb s2 m2 hA _ _ hPv hn hma hmb hk => ?_, fun A' E' i va vb s2 m2 hA hD hU hPv _ hn hma hmb hk => ?_⟩
      · simp only [List.forIn_nil]
        exact wpAny_pure ⟨rfl, GxR.keeps_refl _⟩
      · obtain ⟨x1, x2, q1, q2, q3⟩ := hPv
        have q4 : va = x1 ∧ vb = x2 := by simpa using q3
        obtain ⟨rfl, rfl⟩ := q4
        refine hel pins s1 I1 its its2 rv rv2 (genEnv scope (cloFrom X.env.cells scope.names []) h3.objs.size code builtinsNs X.env) rfl rfl rfl A' E' i va vb s2 m2 hA hD hU (by simpa using q1) (by simpa using q2) hn hma hmb (fun q o hq e => ?_)
        exact hk q (List.mem_range.mpr (old3 q o e)) (nw q (Heap.lt_size e)) o (hhref q o (keep3 q o hq e))
    · intro g h5 tk5 gs hgb hag hsz5 hk5 W5 hat
      simp only [GxR.passing_true, List.length_range] at W5
      refine hQ xs ys pb H1 g _ hR ?_
      rw [← hlen, ← hlen2]
      refine ⟨_, _, _, _, _, W5.in4_1, hat, ?_, fun s' hm => ?_⟩
      · intro j y sj Qj Ej hy hQj
        obtain ⟨i, hij, rfl⟩ := hy
        obtain ⟨hj, ej⟩ := List.getElem?_eq_some_iff.mp hij
        have ej2 : i = j := by simpa [GxR.passing_true] using ej.symm
        subst ej2
        exact wpAny_truthy_bool hQj
      · have nwr : ∀ q u, s1.heap.get? q = some u → q ∉ h3.objs.size :: [s1.heap.objs.size + 4, s1.heap.objs.size + 3, s1.heap.objs.size, s1.heap.objs.size + 1] := fun q u e hq => by
          rcases List.mem_cons.mp hq with z | z
          · exact Nat.ne_of_lt (old3 q u e) z
          · exact nw q (Heap.lt_size e) z
        have J := inv_tabX (h' := s'.heap) (g' := s'.gens) (d' := s'.drawn) (t' := s'.toks) I1 hP (fun q u hq e => hm.heap q u (nwr q u e) (hk5 q u (keep3 q u hq e))) (tabIs_at ht3 fun o e => hm.heap P o (nwr P _ hPs) (hk5 P o e)) (AllBare.movedS (I1.bare.push hgb) hm)
        rw [GxR.sh_eta s1 s' hm.os] at J
        exact J
  refine ⟨hlimp, ?_⟩
  cases hf : codeAmong gpos ps.toList with
  | none =>
    refine wpAny_genexprCodeX hcode (cd.code hPp htr) (cd.tab hPp) hf fun c' h2 tk hx hge hlt hco' _ htab' _ => ?_
    obtain ⟨o1, vs, f1, tf, fl, tg, inF, tx, tt, op, _, _, _, _, _, _, _, _, _, htr2, _⟩ := hco'
    exact fin _ h2 tk hx (Nat.le_trans hge (Nat.le_of_lt hlt)) ⟨_, htab'.2, htr2⟩
  | some cv =>
    refine wpAny_genexprCode_hit hcode (cd.code hPp htr) hf ?_
    exact fin cv h' s1.toks (Heap.ExtBut.refl _ _) (Nat.le_refl _) ⟨ps, hPp, htr⟩
def tAllZ (X : Cx) (P : Addr) (scope : Scope) (xa xb : Str) (elt : Expr) (ta : TA) : TE := fun σ H Q => ta σ H fun vs H1 => ∃ (a b : Addr) (xs ys : List V) (pb : Nat → Bool), vs = [.ref a, .ref b] ∧ SqT X.K H1 a xs ∧ SqT X.K H1 b ys ∧ H1 P = some (TabO P) ∧ EltOk2 X scope xa xb elt P σ H1 xs ys pb ∧ Q (.bl ((List.range (min xs.length ys.length)).all pb)) H1
theorem pe_allZ {c P : Addr} {elt e1 e2 : Expr} {xa xb : Str} {pxa pxb pt pz pz2 p pos gpos : Pos} {kt : Nat} {scope : Scope} {ta : TA} {k : Nat} (hr : Room k X.A) (hg : Gl X "all") (hm : X.mg "all" = none) (hgz : Gl X "zip") (hmz : X.mg "zip" = none) (TB : GxR.TabB X.base X.mg c P) (hcode : X.env.code = .ref c) (S : GenS2 X.env scope xa xb) (ha : PA X [e1, e2] ta)
    (he1 : starEach [e1, e2] X.env = (false, eval e1 X.env) :: starEach [e2] X.env := by rfl) (hpl : (backTo pz2 (starEach [e2] X.env)).any (·.1) = false := by rfl) (hs : ∀ v, genFold (.Call (.Name "zip" pz) [e1, e2] [] pz2) X.env v = pure v := by intro _; rfl)
    (he : starEach [.GeneratorExp elt [⟨.Tuple [.Name xa pxa, .Name xb pxb] kt pt, .Call (.Name "zip" pz) [e1, e2] [] pz2, [], 0⟩] scope gpos] X.env = (false, eval (.GeneratorExp elt [⟨.Tuple [.Name xa pxa, .Name xb pxb] kt pt, .Call (.Name "zip" pz) [e1, e2] [] pz2, [], 0⟩] scope gpos) X.env) :: starEach [] X.env := by rfl) :
    PE X (.Call (.Name "all" p) [.GeneratorExp elt [⟨.Tuple [.Name xa pxa, .Name xb pxb] kt pt, .Call (.Name "zip" pz) [e1, e2] [] pz2, [], 0⟩] scope gpos] [] pos) (tAllZ X P scope xa xb elt ta) := by
  refine ⟨fun pins s σ H Q I h => wpAny_Call_Name_kw (ld_blt I hg hm (u := .builtin "all") (by decide +kernel) (PyProof.Rows.callWith_builtin1 ?_ he (by rfl)))⟩
  rw [he]
  refine Calls.spliced_cons (gen_zip (R := fun xs ys pb H1 => Q (.bl ((List.range (min xs.length ys.length)).all pb)) H1) hr hgz hmz TB hcode S ha he1 hpl hs I h fun xs ys pb H1 g s5 hR hG => Calls.spliced_nil ?_)
  obtain ⟨fp, wr, G, F, St, W, hst, htr, hI⟩ := hG
  exact call_all_walkS (W.self 0 _ _ _ hst ⟨g, fp, wr, G, _, F, St, _, rfl, W, hst, htr, fun s' hmv => ⟨.bl _, H1, hI s' hmv, rfl, hR⟩⟩)
/-- x < y, two ints -/
theorem elt_ltI {P : Addr} {scope : Scope} {xa xb : Str} {p1 p2 p3 : Pos} {ns ms : List Int} (hkd : scope.kind = .function) (la : scope.names.lookup xa = some .local) (lb : scope.names.lookup xb = some .local) (da : (xa == ("__debug__" : Str)) = false) (db : (xb == ("__debug__" : Str)) = false) :
    EltOk2 X scope xa xb (.Compare (.Name xa p1) [.Lt] [.Name xb p2] p3) P σ H (ns.map V.int) (ms.map V.int) (fun i => decide (ns.getD i 0 < ms.getD i 0)) := by
  intro pins s I its its2 rv rv2 cenv e1 e2 e3 A' E' i va vb s2 m2 hA hD hU hva hvb hn hma hmb hk
  have item : ∀ {l : List Int} {ts : List Value} {u : Value}, Vals (l.map V.int) ts → ts[i]? = some u → ∃ t, u = .int (l.getD i 0) t := fun {l ts u} r e => by
    have hlt : i < l.length := by
      have := (List.getElem?_eq_some_iff.mp e).1
      rw [← Vals.length r, List.length_map] at this
      exact this
    obtain ⟨u', hu', ru⟩ := Vals.get (i := i) (x := .int l[i]) r (by rw [List.getElem?_map, List.getElem?_eq_getElem hlt]; rfl)
    rw [e] at hu'
    cases hu'
    rw [List.getD_eq_getElem?_getD, List.getElem?_eq_getElem hlt]
    exact ru
  obtain ⟨t1, rfl⟩ := item rv hva
  obtain ⟨t2, rfl⟩ := item rv2 hvb
  have lk : ∀ z, cenv.kindOf z = scope.names.lookup z := fun z => by
    show cenv.scope.names.lookup z = _
    rw [e1]
  refine wpAny_Compare1 (wpAny_Name (wpAny_loadName_local (by rw [e1]; exact hkd) ((lk _).trans la) hn hma ?_) da)
  refine wpAny_Name (wpAny_loadName_local (by rw [e1]; exact hkd) ((lk _).trans lb) hn hmb ?_) db
  exact PyProof.Rows.lt_int ⟨rfl, GxR.keeps_refl _⟩
end
/-! ### the program's curves and lots -/
theorem free_of {cells : List (Str × Addr)} {names : List (Str × NameKind)} (h : (names.all fun y => !(decide (y.2 = .free)) || (cells.lookup y.1).isSome) = true) : ∀ y ∈ names, y.2 = .free → ∃ c, cells.lookup y.1 = some c := fun y hy e => by
  have q := List.all_eq_true.mp h y hy
  rw [decide_eq_true e] at q
  exact Option.isSome_iff_exists.mp q
theorem tyx_ex {K : PySem.W.Frag} {H H' : Hp} {v : V} {t : String} (e : Ex H H') (ty : TyX K H v (.type t)) : TyX K H' v (.type t) := by
  cases ty with
  | base b =>
    cases b with
    | non => exact .base .non
    | bl x => exact .base (.bl x)
    | int i => exact .base (.int i)
    | str x => exact .base (.str x)
    | flt x => exact .base (.flt x)
    | lst h => exact .base (.lst (e _ _ h))
    | frz h => exact .base (.frz (e _ _ h))
    | tup h => exact .base (.tup (e _ _ h))
    | dK h => exact .base (.dK (e _ _ h))
    | dT h => exact .base (.dT (e _ _ h))
  | byt b => exact .byt b
  | set h => exact .set (e _ _ h)
  | kList h c => exact .kList h c
  | kTuple h c => exact .kTuple h c
  | kDict h c => exact .kDict h c
  | fTuple h => exact .fTuple (e _ _ h)
  | fDict h => exact .fDict (e _ _ h)
theorem ty_sqt {K : PySem.W.Frag} {H : Hp} {a : Addr} {xs : List V} (h : SqT K H a xs) : TyX K H (.ref a) (.type "tuple") := by
  rcases h with (h | ⟨o, h⟩) | ⟨o, its, n, hk, hc, _⟩
  · exact .base (.tup h)
  · exact .fTuple h
  · exact .kTuple hk hc
/-- a def whose code object stands at c -/
structure Dc (K : PySem.W.Frag) (mg : Str → Option Value) (x : Str) (st : Stmt) (ps : List Str) (f : Addr) (fd : FuncData) (c : Addr) : Prop where
  F : Fun K x x st f fd
  g : mg x = some (.ref f)
  b : Binds K fd ps []
  cd : ∃ (oc : Value) (od : Option Addr) (kV doc pm : Value) (an : Option Addr) (ct : Value) (osl : Array (Option Value)), fd = PySem.W.fnOf x x (defArgs st) (defBody st) (defScope st) .none kV doc pm an (.ref c) ct ∧ K.lookup f = some ⟨oc, od, .func fd, osl⟩ ∧ PySem.W.codeIn K (.ref c) x = true
theorem Dc.ok {P : Program} {w : World} {K : PySem.W.Frag} {mg : Str → Option Value} {base : Heap} {x : Str} {st : Stmt} {f c : Addr} {fd : FuncData} {N ps : List Str} {k : Nat} {sp : Sp} (D : Dc K mg x st ps f fd c) (S : FnScope N ps (defScope st)) (len : ∀ vs H Q E, sp vs H Q E → vs.length = ps.length)
    (hbody : ∀ (A : Around) (outer : List Env) (s : Shared) (H : Hp) (vs : List V) (Q : VK) (E : XK), Room k (A.deeper (envOfC x (defScope st) s.heap.objs.size f (.ref c))) → sp vs H Q E →
      ∃ t, PSs (cxOf CX0 P w K mg base N x (defScope st) f (.ref c) A outer s H E).nox (defBody st) t ∧ t { nx := fun _ H' => Q .non H', rt := Q } (start N vs) H) : FnOk P w K mg base CX0 (k + 1) f fd ps sp := by
  obtain ⟨oc, od, kV, doc, pm, an, ct, osl, rfl, lk, hcd⟩ := D.cd
  refine fn_of lk hcd S len fun A outer s H vs Q E hr hsp => ?_
  obtain ⟨t, h, q⟩ := hbody A outer s H vs Q E hr hsp
  exact ⟨t, h.nox, q⟩
def risingL (ns : List Int) : Bool := (List.range (min ns.length (ns.drop 1).length)).all fun i => decide (ns.getD i 0 < (ns.drop 1).getD i 0)
def curve2 : V → V → Bool
  | .int m, .int d => decide (1 ≤ d) && decide (d ≤ 6) && (decide (d < m) && decide (m ≤ 9))
  | _, _ => false
def curveB : List V → Bool
  | [x, y] => curve2 x y
  | _ => false
def okC (m d : Int) : Prop := 1 ≤ d ∧ d ≤ 6 ∧ d < m ∧ m ≤ 9
theorem cut1 (xs : List V) : cutV xs (some 1) none = xs.drop 1 := by
  unfold cutV
  rw [show HT.sIx xs.length 0 (some 1) = min 1 xs.length from HT.sIx_nat xs.length 0 1, HT.sIx_none]
  cases xs with
  | nil => rfl
  | cons x r =>
    rw [show min 1 (x :: r).length = 1 by rw [List.length_cons]; omega]
    show List.take ((x :: r).length - 1) r = r
    rw [List.length_cons, Nat.add_sub_cancel, List.take_length]
section
variable {P : Program} {w : World} {K : PySem.W.Frag} {mg : Str → Option Value} {base : Heap}
/-- what a thing is handed in as: its type, its items' types where it is a tuple -/
def Typed (K : PySem.W.Frag) (H : Hp) (v : V) : Prop := ∃ t, t ∈ tyNames ∧ TyX K H v (.type t)
theorem Typed.ex {H H' : Hp} {v : V} (e : Ex H H') (h : Typed K H v) : Typed K H' v := by
  obtain ⟨t, ht, h⟩ := h
  exact ⟨t, ht, tyx_ex e h⟩
theorem typed_int {H : Hp} {i : Int} : Typed K H (.int i) := ⟨"int", by decide, .base (.int i)⟩
theorem ev_wholeT {σ : L2.St} {H : Hp} {te : TE} {v : V} {E : XK} (h : Ev te σ H v) (ht : Typed K H v) : ∃ b, (b = true ↔ ∃ i, v = .int i) ∧ Ev (tCall (spWhole K) [] E (tCons te tNil)) σ H (.bl b) := by
  obtain ⟨t, h1, h2⟩ := ht
  refine ⟨t == "int", ⟨fun e => ty_int_inv h2 (eq_of_beq e), fun e => ?_⟩, ev_whole h h1 fun H1 e => tyx_ex e h2⟩
  obtain ⟨i, rfl⟩ := e
  rw [ty_of_int h2]
  rfl
/-! is_rising, of ints -/
def spRise (K : PySem.W.Frag) (P2 : Addr) : Sp := fun vs H Q _ => ∃ (a : Addr) (ns : List Int), vs = [.ref a] ∧ SqT K H a (ns.map V.int) ∧ H P2 = some (TabO P2) ∧ ∀ H2, Ex H H2 → Q (.bl (risingL ns)) H2
theorem ok_rise {f c P2 : Addr} {fd : FuncData} {k : Nat} (D : Dc K mg "is_rising" s_is_rising ["things"] f fd c) (B : Bt mg) (TB : GxR.TabB base mg c P2) : FnOk P w K mg base CX0 (k + 1) f fd ["things"] (spRise K P2) := by
  refine D.ok sc_is_rising (fun vs H Q E h => ?_) (fun A outer s H vs Q E hr h => ?_)
  · obtain ⟨a, ns, rfl, _⟩ := h
    rfl
  · obtain ⟨a, ns, rfl, hS, hP, q⟩ := h
    refine ⟨_, pss_one (ps_ret (pe_allZ hr (by rfl) B.all_ (by rfl) B.zip_ TB rfl ⟨rfl, rfl, by decide +kernel, rfl, rfl, rfl, by decide, free_of rfl⟩ (pa_cons (pv 0) (pa_cons (pe_slice sl_tupA (pv 0) (po_some pe_int) po_none) pa_nil)))), ?_⟩
    refine ⟨_, rfl, _, rfl, 1, rfl, a, ns.map V.int, rfl, hS, fun hw => ?_, fun hw p hp => ?_⟩
    · have hnil : ns.drop 1 = ns := by
        have h1 := hw.1
        rw [show HT.sIx (ns.map V.int).length 0 (some 1) = min 1 (ns.map V.int).length from HT.sIx_nat _ 0 1, List.length_map] at h1
        cases ns with
        | nil => rfl
        | cons x r => rw [List.length_cons] at h1; omega
      refine ⟨a, a, ns.map V.int, (ns.drop 1).map V.int, _, rfl, hS, by rw [hnil]; exact hS, hP, elt_ltI rfl rfl rfl (by decide) (by decide), ?_⟩
      rw [List.length_map, List.length_map]
      exact q H (Ex.refl H)
    · have e1 : Ex H (upd H p (.tup (cutV (ns.map V.int) (some 1) none))) := Ex.new hp
      refine ⟨a, p, ns.map V.int, (ns.drop 1).map V.int, _, rfl, ex_t e1 hS, ?_, e1 P2 _ hP, elt_ltI rfl rfl rfl (by decide) (by decide), ?_⟩
      · rw [List.map_drop, ← cut1]
        exact st_of upd_same
      · rw [List.length_map, List.length_map]
        exact q _ e1
/-! is_curve -/
def ThC (K : PySem.W.Frag) (H : Hp) (v : V) (b : Bool) : Prop := (∃ t, t ∈ tyNames ∧ t ≠ "tuple" ∧ TyX K H v (.type t) ∧ b = false) ∨ ∃ a xs, v = .ref a ∧ SqT K H a xs ∧ (∀ y ∈ xs, Typed K H y) ∧ b = curveB xs
def spIsC (K : PySem.W.Frag) : Sp := fun vs H Q _ => ∃ (v : V) (b : Bool), vs = [v] ∧ ThC K H v b ∧ ∀ H2, Ex H H2 → Q (.bl b) H2
def tupGood : Bool := tyNames.all fun t => decide (kitB t "tuple" = some (t == "tuple"))
theorem tup_good : tupGood = true := by decide +kernel
theorem ty_tup {t : String} (h : t ∈ tyNames) : kitB t "tuple" = some (t == "tuple") := of_decide_eq_true (List.all_eq_true.mp tup_good t h)
theorem ok_is_curve {f fw : Addr} {fd fdw : FuncData} {k : Nat} {t1 t2 : Tok} (D : Df K mg "is_curve" s_is_curve ["thing"] f fd) (D_is_whole : Df K mg "is_whole" s_is_whole ["thing"] fw fdw) (B : Bt mg) (c_MOST_DEEP : mg "MOST_DEEP" = some (.int 6 t1)) (c_MOST_CORNERS : mg "MOST_CORNERS" = some (.int 9 t2)) : FnOk P w K mg base CX0 (k + 2) f fd ["thing"] (spIsC K) := by
  have G_is_whole : FnOk P w K mg base CX0 (k + 1) fw fdw ["thing"] (spWhole K) := ok_is_whole D_is_whole B
  refine D.F.ok sc_is_curve (fun vs H Q E h => ?_) (fun cdv A outer s H vs Q E hr h => ?_)
  · obtain ⟨a, ns, rfl, _⟩ := h
    rfl
  · obtain ⟨v, b, rfl, hv, q⟩ := h
    refine ⟨_, (pss_cons (ps_if (PW.pt (pw_or (pt_not (pt_val (pe_callB (show CallR _ _ (rIsi K) from call_isi) (by rfl) B.isinstance_ (by decide +kernel) (pa_cons (pv 0) (pa_cons (pe_bltn (v := .ty "tuple") (by rfl) B.tuple_ (by decide +kernel) rfl) pa_nil))))) (pw_or1 (pt_cmpR op_ne (pe_callB (show CallR _ _ (rLenS K) from call_len_seq) (by rfl) B.len_ (by decide +kernel) (pa_cons (pv 0) pa_nil)) pe_int (nomark _)))))   (pss_one (ps_ret pe_bl))   pss_nil)  (pss_cons (ps_asg (pv 0) (pg_tup (by rfl) (pgs_cons (pg_name (i := 1) sc_is_curve.nd rfl (.inl rfl)) (pgs_cons (pg_name (i := 2) sc_is_curve.nd rfl (.inl rfl)) pgs_nil))))  (pss_cons (ps_if (PW.pt (pw_or (pt_not (pt_val (pe_call G_is_whole (hr.mono (by omega)) (by rfl) D_is_whole.g D_is_whole.F.kp D_is_whole.b .nil pass0 (pa_cons (pv 1) pa_nil)))) (pw_or1 (pt_not (pt_val (pe_call G_is_whole (hr.mono (by omega)) (by rfl) D_is_whole.g D_is_whole.F.kp D_is_whole.b .nil pass0 (pa_cons (pv 2) pa_nil)))))))   (pss_one (ps_ret pe_bl))   pss_nil)  (pss_one (ps_ret (pe_and (pe_chain op_le op_le pe_int (pv 2) (pe_glob (v := .int 6) rfl c_MOST_DEEP ⟨_, rfl⟩)) (pe_one (pe_chain op_lt op_le (pv 2) (pv 1) (pe_glob (v := .int 9) rfl c_MOST_CORNERS ⟨_, rfl⟩))))))))), ?_⟩
    rcases hv with ⟨t, ht, hnt, ty, rfl⟩ | ⟨a, xs, rfl, hS, hty, rfl⟩
    · have e0 : (t == "tuple") = false := beq_eq_false_iff_ne.mpr hnt
      refine q_when (b := true) (fun H1 e1 Q' q' => ?_) (fun _ H1 e1 => s_ret ev_c fun H2 e2 => q H2 (e1.trans e2)) (fun hb => by cases hb)
      refine (et_not (et_B (ev_isi (K := K) (ev_var rfl) ev_c (fun H2 e2 => tyx_ex e2 ty) (ty_tup ht)))) H1 e1 _ fun H2 e2 => ?_
      rw [e0]
      exact iteT (q' H2 e2)
    · by_cases h2 : xs.length = 2
      · obtain ⟨x, y, rfl⟩ : ∃ x y, xs = [x, y] := by
          match xs, h2 with
          | [x, y], _ => exact ⟨x, y, rfl⟩
        refine q_when (b := false) (et_is (et_or (et_not (et_B (ev_isi (K := K) (ev_var rfl) ev_c (fun H2 e2 => tyx_ex e2 (ty_sqt hS)) (ty_tup (t := "tuple") (by decide))))) (fun _ => et_test (ev_op (fun H1 e1 Q' q' => ⟨_, rfl, a, [x, y], rfl, .inr (ex_t e1 hS), q' H1 (Ex.refl H1)⟩) ev_c (rv_ne rfl)))) rfl) (fun hb => by cases hb) (fun _ H1 e1 => ?_)
        refine ⟨_, rfl, a, [x, y], rfl, ex_t e1 hS, rfl, _, _, rfl, _, _, rfl, rfl, ?_⟩
        obtain ⟨b1, hb1, w1⟩ := ev_wholeT (K := K) (σ := [some (.ref a), some x, some y]) (te := tVar 1) (E := E0) (ev_var rfl) ((hty x (by simp)).ex e1)
        obtain ⟨b2, hb2, w2⟩ := ev_wholeT (K := K) (σ := [some (.ref a), some x, some y]) (te := tVar 2) (E := E0) (ev_var rfl) ((hty y (by simp)).ex e1)
        refine q_when (et_or (et_not (et_B w1)) (fun _ => et_not (et_B w2))) (fun hb H2 e2 => ?_) (fun hb H2 e2 => ?_)
        · refine s_ret ev_c fun H3 e3 => ?_
          have hc : curveB [x, y] = false := by
            show curve2 x y = false
            cases x with
            | int i =>
              cases y with
              | int j =>
                rw [hb1.mpr ⟨i, rfl⟩, hb2.mpr ⟨j, rfl⟩] at hb
                cases hb
              | _ => rfl
            | _ => rfl
          rw [hc] at q
          exact q H3 ((e1.trans e2).trans e3)
        · have hb3 : b1 = true ∧ b2 = true := by
            cases b1 <;> cases b2 <;> first | exact ⟨rfl, rfl⟩ | cases hb
          obtain ⟨i, rfl⟩ := hb1.mp hb3.1
          obtain ⟨j, rfl⟩ := hb2.mp hb3.2
          refine s_ret (ev_andV (ev_chain ev_c (ev_var rfl) ev_c rv_I0 rv_I0) (fun _ => ev_chain (ev_var rfl) (ev_var rfl) ev_c rv_I0 rv_I0)) fun H3 e3 => ?_
          exact q H3 ((e1.trans e2).trans e3)
      · have hc : curveB xs = false := by
          match xs with
          | [] => rfl
          | [_] => rfl
          | [_, _] => exact absurd rfl h2
          | _ :: _ :: _ :: _ => rfl
        rw [hc] at q
        refine q_when (b := true) (et_is (et_or (et_not (et_B (ev_isi (K := K) (ev_var rfl) ev_c (fun H2 e2 => tyx_ex e2 (ty_sqt hS)) (ty_tup (t := "tuple") (by decide))))) (fun _ => et_test (ev_op (fun H1 e1 Q' q' => ⟨_, rfl, a, xs, rfl, .inr (ex_t e1 hS), q' H1 (Ex.refl H1)⟩) ev_c (rv_ne rfl)))) ?_) (fun _ H1 e1 => s_ret ev_c fun H2 e2 => q H2 (e1.trans e2)) (fun hb => by cases hb)
        rw [dec_int, decide_eq_false (show ¬ ((xs.length : Int) = 2) by omega)]
        rfl
/-! need_curve, of curves -/
def spNeedC (K : PySem.W.Frag) : Sp := fun vs H Q _ => ∃ (m d : Int), DtAll K H vs [curveD m d] ∧ okC m d ∧ ∀ H2, Ex H H2 → Q .non H2
theorem dt_curve {H : Hp} {v : V} {m d : Int} (h : Dt K H v (curveD m d)) : ∃ a, v = .ref a ∧ SqT K H a [.int m, .int d] := by
  cases h with
  | tup hs hx =>
    cases hx with
    | cons h1 h2 =>
      cases h1
      cases h2 with
      | cons h3 h4 =>
        cases h3
        cases h4
        exact ⟨_, rfl, hs⟩
theorem curveB_ok {m d : Int} (h : okC m d) : curveB [.int m, .int d] = true := by
  obtain ⟨h1, h2, h3, h4⟩ := h
  show (decide (1 ≤ d) && decide (d ≤ 6) && (decide (d < m) && decide (m ≤ 9))) = true
  rw [decide_eq_true h1, decide_eq_true h2, decide_eq_true h3, decide_eq_true h4]
  rfl
theorem ok_need_curve {f fc fw : Addr} {fd fdc fdw : FuncData} {k : Nat} {t1 t2 : Tok} (D : Df K mg "need_curve" s_need_curve ["curve"] f fd) (D_is_curve : Df K mg "is_curve" s_is_curve ["thing"] fc fdc) (D_is_whole : Df K mg "is_whole" s_is_whole ["thing"] fw fdw) (B : Bt mg) (c_MOST_DEEP : mg "MOST_DEEP" = some (.int 6 t1)) (c_MOST_CORNERS : mg "MOST_CORNERS" = some (.int 9 t2)) : FnOk P w K mg base CX0 (k + 3) f fd ["curve"] (spNeedC K) := by
  have G_is_curve : FnOk P w K mg base CX0 (k + 2) fc fdc ["thing"] (spIsC K) := ok_is_curve D_is_curve D_is_whole B c_MOST_DEEP c_MOST_CORNERS
  refine D.F.ok sc_need_curve (fun vs H Q E h => ?_) (fun cdv A outer s H vs Q E hr h => ?_)
  · obtain ⟨m, d, h, _⟩ := h
    rw [dta_len h]
    rfl
  · obtain ⟨m, d, h, hc, q⟩ := h
    cases h with
    | cons h1 h2 =>
    cases h2
    obtain ⟨a, rfl, hS⟩ := dt_curve h1
    refine ⟨_, (pss_one (ps_if (pt_not (pt_val (pe_call G_is_curve (hr.mono (by omega)) (by rfl) D_is_curve.g D_is_curve.F.kp D_is_curve.b .nil pass0 (pa_cons (pv 0) pa_nil))))   (pss_one ps_never)   pss_nil)), ?_⟩
    refine s_when (b := false) (et_not (et_B (b := true) (fun H1 e1 Q' q' => ⟨_, rfl, _, _, rfl, .inr ⟨a, _, rfl, ex_t e1 hS, ?_, (curveB_ok hc).symm⟩, fun H2 e2 => q' H2 e2⟩))) (fun hb => by cases hb) (fun _ H1 e1 => q H1 e1)
    intro y hy
    rcases List.mem_cons.mp hy with rfl | hy
    · exact typed_int
    rcases List.mem_cons.mp hy with rfl | hy
    · exact typed_int
    · cases hy
theorem ev_needC {σ : L2.St} {H : Hp} {te : TE} {m d : Int} {E : XK} (h : EvD K te σ H (curveD m d)) (hc : okC m d) : Ev (tCall (spNeedC K) [] E (tCons te tNil)) σ H .non := fun H1 e Q q =>
  h H1 e _ fun v H2 e2 hv => ⟨m, d, .cons hv .nil, hc, fun H3 e3 => q H3 (e2.trans e3)⟩
end
/-! ### lots, blocks -/
def intV : V → Int
  | .int i => i
  | _ => 0
def lotV (m : Int) (xs : List V) : Bool := xs.all (cornerB m) && risingL (xs.map intV)
def lotL (m : Int) (l : List Int) : Bool := lotV m (l.map V.int)
theorem all_getD {α : Type} (f : α → Bool) (d : α) : ∀ l : List α, (List.range l.length).all (fun i => f (l.getD i d)) = l.all f := by
  intro l
  rw [Bool.eq_iff_iff, List.all_eq_true, List.all_eq_true]
  constructor
  · intro h x hx
    obtain ⟨i, hi, e⟩ := List.getElem_of_mem hx
    have q := h i (List.mem_range.mpr hi)
    rw [List.getD_eq_getElem?_getD, List.getElem?_eq_getElem hi, Option.getD_some, e] at q
    exact q
  · intro h i hi
    have hi := List.mem_range.mp hi
    rw [List.getD_eq_getElem?_getD, List.getElem?_eq_getElem hi]
    exact h _ (List.getElem_mem hi)
theorem corners_ints {m : Int} : ∀ {xs : List V}, xs.all (cornerB m) = true → xs = (xs.map intV).map V.int
  | [], _ => rfl
  | x :: xs, h => by
    rw [List.all_cons, Bool.and_eq_true] at h
    rw [List.map_cons, List.map_cons, ← corners_ints h.2]
    cases x with
    | int i => rfl
    | _ => cases h.1
section
variable {P : Program} {w : World} {K : PySem.W.Frag} {mg : Str → Option Value} {base : Heap}
/-- the two tables -/
structure Tbs (H : Hp) (P1 P2 : Addr) : Prop where
  t1 : H P1 = some (TabO P1)
  t2 : H P2 = some (TabO P2)
theorem Tbs.ex {H H' : Hp} {P1 P2 : Addr} (e : Ex H H') (h : Tbs H P1 P2) : Tbs H' P1 P2 := ⟨e _ _ h.t1, e _ _ h.t2⟩
/-- a thing: no lot of so many corners, or the lot l -/
def ThL (K : PySem.W.Frag) (H : Hp) (v : V) (m : Int) : Option (List Int) → Prop
  | none => (∃ t, t ∈ tyNames ∧ t ≠ "tuple" ∧ TyX K H v (.type t)) ∨ ∃ a xs, v = .ref a ∧ SqT K H a xs ∧ (∀ y ∈ xs, Typed K H y) ∧ lotV m xs = false
  | some l => Dt K H v (lotD l) ∧ lotL m l = true
theorem ThL.ex {H H' : Hp} {v : V} {m : Int} : ∀ {r : Option (List Int)}, Ex H H' → ThL K H v m r → ThL K H' v m r
  | none, e, .inl ⟨t, h1, h2, h3⟩ => .inl ⟨t, h1, h2, tyx_ex e h3⟩
  | none, e, .inr ⟨a, xs, h1, h2, h3, h4⟩ => .inr ⟨a, xs, h1, ex_t e h2, fun y hy => (h3 y hy).ex e, h4⟩
  | some _, e, h => ⟨dt_ex e h.1, h.2⟩
theorem typed_ints {H : Hp} {l : List Int} : ∀ y ∈ l.map V.int, Typed K H y := fun y hy => by
  obtain ⟨i, _, rfl⟩ := List.mem_map.mp hy
  exact typed_int
def spIsLot (K : PySem.W.Frag) (P1 P2 : Addr) : Sp := fun vs H Q _ => ∃ (v cv : V) (m d : Int) (r : Option (List Int)), vs = [v, cv] ∧ Dt K H cv (curveD m d) ∧ okC m d ∧ Tbs H P1 P2 ∧ ThL K H v m r ∧ ∀ H2, Ex H H2 → Q (.bl r.isSome) H2
theorem ok_is_lot {f c fn fc fw fo fr cr P1 P2 : Addr} {fd fdn fdc fdw fdo fdr : FuncData} {k : Nat} {t1 t2 : Tok} (D : Dc K mg "is_lot" s_is_lot ["thing", "curve"] f fd c) (D_need_curve : Df K mg "need_curve" s_need_curve ["curve"] fn fdn) (D_is_curve : Df K mg "is_curve" s_is_curve ["thing"] fc fdc) (D_is_whole : Df K mg "is_whole" s_is_whole ["thing"] fw fdw) (D_is_corner : Df K mg "is_corner" s_is_corner ["thing", "many"] fo fdo) (D_is_rising : Dc K mg "is_rising" s_is_rising ["things"] fr fdr cr) (B : Bt mg) (TB1 : GxR.TabB base mg c P1) (TB2 : GxR.TabB base mg cr P2)
    (c_MOST_DEEP : mg "MOST_DEEP" = some (.int 6 t1)) (c_MOST_CORNERS : mg "MOST_CORNERS" = some (.int 9 t2)) : FnOk P w K mg base CX0 (k + 4) f fd ["thing", "curve"] (spIsLot K P1 P2) := by
  have G_need_curve : FnOk P w K mg base CX0 (k + 3) fn fdn ["curve"] (spNeedC K) := ok_need_curve D_need_curve D_is_curve D_is_whole B c_MOST_DEEP c_MOST_CORNERS
  have G_is_rising : FnOk P w K mg base CX0 (k + 1) fr fdr ["things"] (spRise K P2) := ok_rise D_is_rising B TB2
  refine D.ok sc_is_lot (fun vs H Q E h => ?_) (fun A outer s H vs Q E hr h => ?_)
  · obtain ⟨v, cv, m, d, r, rfl, _⟩ := h
    rfl
  · obtain ⟨v, cv, m, d, r, rfl, hcv, hc, hT, hv, q⟩ := h
    obtain ⟨ca, rfl, hca⟩ := dt_curve hcv
    refine ⟨_, pss_cons (ps_expr (pe_call G_need_curve (hr.mono (by omega)) (by rfl) D_need_curve.g D_need_curve.F.kp D_need_curve.b .nil pass0 (pa_cons (pv 1) pa_nil)))
      (pss_cons (ps_if (pt_not (pt_val (pe_callB (show CallR _ _ (rIsi K) from call_isi) (by rfl) B.isinstance_ (by decide +kernel) (pa_cons (pv 0) (pa_cons (pe_bltn (v := .ty "tuple") (by rfl) B.tuple_ (by decide +kernel) rfl) pa_nil))))) (pss_one (ps_ret pe_bl)) pss_nil)
      (pss_one (ps_ret (pe_and (pe_allT hr (by rfl) B.all_ TB1 rfl ⟨rfl, rfl, by decide +kernel, rfl, rfl, free_of rfl⟩ (pv 0)) (pe_one (pe_call G_is_rising (hr.mono (by omega)) (by rfl) D_is_rising.g D_is_rising.F.kp D_is_rising.b .nil pass0 (pa_cons (pv 0) pa_nil))))))), ?_⟩
    refine q_drop (ev_needC (K := K) (ed_var rfl hcv) hc) fun H1 e1 => ?_
    have hcase : (∃ t, t ∈ tyNames ∧ t ≠ "tuple" ∧ TyX K H v (.type t) ∧ r.isSome = false) ∨ ∃ a xs, v = .ref a ∧ SqT K H a xs ∧ (∀ y ∈ xs, Typed K H y) ∧ lotV m xs = r.isSome := by
      cases r with
      | none =>
        rcases hv with ⟨t, h1, h2, h3⟩ | ⟨a, xs, h1, h2, h3, h4⟩
        · exact .inl ⟨t, h1, h2, h3, rfl⟩
        · exact .inr ⟨a, xs, h1, h2, h3, h4⟩
      | some l =>
        obtain ⟨a, ev, hS⟩ := dt_lot hv.1
        exact .inr ⟨a, _, ev, hS, typed_ints, hv.2⟩
    rcases hcase with ⟨t, ht, hnt, ty, hb⟩ | ⟨a, xs, rfl, hS, hty, hb⟩
    · have e0 : (t == "tuple") = false := beq_eq_false_iff_ne.mpr hnt
      rw [hb] at q
      exact q_when (b := true) (et_is (et_not (et_B (ev_isi (K := K) (ev_var rfl) ev_c (fun H2 e2 => tyx_ex (e1.trans e2) ty) (ty_tup ht)))) (by rw [e0]; rfl)) (fun _ H2 e2 => s_ret ev_c fun H3 e3 => q H3 ((e1.trans e2).trans e3)) (fun hb => by cases hb)
    · refine q_when (b := false) (et_not (et_B (ev_isi (K := K) (ev_var rfl) ev_c (fun H2 e2 => tyx_ex (e1.trans e2) (ty_sqt hS)) (ty_tup (t := "tuple") (by decide))))) (fun hb => by cases hb) (fun _ H2 e2' => ?_)
      have e2 := e1.trans e2'
      refine ⟨_, rfl, a, xs, fun i => cornerB m (xs.getD i .non), rfl, ex_t e2 hS, (hT.ex e2).t1, elt_corner (k := k + 1) (j := 1) D_is_corner D_is_whole B hr (hT.ex e2).t1 rfl rfl rfl rfl (by decide +kernel) (by decide) (by decide) (by decide) (free_of rfl) rfl rfl rfl (ex_t e2 hca) (fun y hy => (hty y hy).ex e2), ?_⟩
      rw [all_getD]
      refine ⟨_, rfl, ?_⟩
      cases hall : xs.all (cornerB m) with
      | false =>
        refine iteF ?_
        have : lotV m xs = false := by unfold lotV; rw [hall]; rfl
        rw [← hb, this] at q
        exact q H2 e2
      | true =>
        refine iteT ⟨_, rfl, a, xs.map intV, rfl, by rw [← corners_ints hall]; exact ex_t e2 hS, (hT.ex e2).t2, fun H3 e3 => ?_⟩
        have : lotV m xs = risingL (xs.map intV) := by unfold lotV; rw [hall]; rfl
        rw [← this, hb]
        exact q H3 (e2.trans e3)
theorem et_isLot {σ : L2.St} {H : Hp} {ta tb : TE} {v : V} {m d : Int} {r : Option (List Int)} {E : XK} {P1 P2 : Addr} (ha : Ev ta σ H v) (hb : EvD K tb σ H (curveD m d)) (hc : okC m d) (hT : Tbs H P1 P2) (hv : ThL K H v m r) : Ev (tCall (spIsLot K P1 P2) [] E (tCons ta (tCons tb tNil))) σ H (.bl r.isSome) := fun H1 e Q q =>
  ha H1 e _ fun H2 e2 => hb H2 (e.trans e2) _ fun cv H3 e3 hcv => ⟨v, cv, m, d, r, rfl, hcv, hc, hT.ex ((e.trans e2).trans e3), hv.ex ((e.trans e2).trans e3), fun H4 e4 => q H4 ((e2.trans e3).trans e4)⟩
/-- all that is_lot leans on -/
structure LotD (K : PySem.W.Frag) (mg : Str → Option Value) (base : Heap) (P1 P2 : Addr) : Prop where
  B : Bt mg
  is_whole : ∃ f fd, Df K mg "is_whole" s_is_whole ["thing"] f fd
  is_rising : ∃ f fd c, Dc K mg "is_rising" s_is_rising ["things"] f fd c ∧ GxR.TabB base mg c P2
  is_curve : ∃ f fd, Df K mg "is_curve" s_is_curve ["thing"] f fd
  need_curve : ∃ f fd, Df K mg "need_curve" s_need_curve ["curve"] f fd
  is_corner : ∃ f fd, Df K mg "is_corner" s_is_corner ["thing", "many"] f fd
  is_lot : ∃ f fd c, Dc K mg "is_lot" s_is_lot ["thing", "curve"] f fd c ∧ GxR.TabB base mg c P1
  need_lot : ∃ f fd, Df K mg "need_lot" s_need_lot ["curve", "lot"] f fd
  blocks : ∃ f fd, Df K mg "blocks" s_blocks ["curve", "lot"] f fd
  is_inner : ∃ f fd, Df K mg "is_inner" s_is_inner ["block", "many"] f fd
  odd_inner : ∃ f fd, Df K mg "odd_inner" s_odd_inner ["curve", "lot"] f fd
  deep : ∃ t, mg "MOST_DEEP" = some (.int 6 t)
  corners : ∃ t, mg "MOST_CORNERS" = some (.int 9 t)
theorem LotD.need {P1 P2 : Addr} (L : LotD K mg base P1 P2) (k : Nat) : ∃ f fd, Df K mg "need_curve" s_need_curve ["curve"] f fd ∧ FnOk P w K mg base CX0 (k + 3) f fd ["curve"] (spNeedC K) := by
  obtain ⟨f1, d1, D1⟩ := L.need_curve
  obtain ⟨f2, d2, D2⟩ := L.is_curve
  obtain ⟨f3, d3, D3⟩ := L.is_whole
  obtain ⟨t1, h1⟩ := L.deep
  obtain ⟨t2, h2⟩ := L.corners
  exact ⟨f1, d1, D1, ok_need_curve D1 D2 D3 L.B h1 h2⟩
theorem LotD.lot {P1 P2 : Addr} (L : LotD K mg base P1 P2) (k : Nat) : ∃ f fd c, Dc K mg "is_lot" s_is_lot ["thing", "curve"] f fd c ∧ FnOk P w K mg base CX0 (k + 4) f fd ["thing", "curve"] (spIsLot K P1 P2) := by
  obtain ⟨f1, d1, D1⟩ := L.need_curve
  obtain ⟨f2, d2, D2⟩ := L.is_curve
  obtain ⟨f3, d3, D3⟩ := L.is_whole
  obtain ⟨f4, d4, D4⟩ := L.is_corner
  obtain ⟨f5, d5, c5, D5, T5⟩ := L.is_rising
  obtain ⟨f6, d6, c6, D6, T6⟩ := L.is_lot
  obtain ⟨t1, h1⟩ := L.deep
  obtain ⟨t2, h2⟩ := L.corners
  exact ⟨f6, d6, c6, D6, ok_is_lot D6 D1 D2 D3 D4 D5 L.B T6 T5 h1 h2⟩
/-! need_lot, of lots -/
def spNeedL (K : PySem.W.Frag) (P1 P2 : Addr) : Sp := fun vs H Q _ => ∃ (m d : Int) (l : List Int), DtAll K H vs [curveD m d, lotD l] ∧ okC m d ∧ Tbs H P1 P2 ∧ lotL m l = true ∧ ∀ H2, Ex H H2 → Q .non H2
theorem ok_need_lot {f P1 P2 : Addr} {fd : FuncData} {k : Nat} (D : Df K mg "need_lot" s_need_lot ["curve", "lot"] f fd) (L : LotD K mg base P1 P2) : FnOk P w K mg base CX0 (k + 5) f fd ["curve", "lot"] (spNeedL K P1 P2) := by
  obtain ⟨fl, fdl, cl, D_is_lot, G_is_lot⟩ := L.lot (P := P) (w := w) k
  refine D.F.ok sc_need_lot (fun vs H Q E h => ?_) (fun cdv A outer s H vs Q E hr h => ?_)
  · obtain ⟨m, d, l, h, _⟩ := h
    rw [dta_len h]
    rfl
  · obtain ⟨m, d, l, h, hc, hT, hl, q⟩ := h
    cases h with
    | cons h1 h2 =>
    cases h2 with
    | cons h2 h3 =>
    cases h3
    refine ⟨_, (pss_one (ps_if (pt_not (pt_val (pe_call G_is_lot (hr.mono (by omega)) (by rfl) D_is_lot.g D_is_lot.F.kp D_is_lot.b .nil pass0 (pa_cons (pv 1) (pa_cons (pv 0) pa_nil)))))   (pss_one ps_never)   pss_nil)), ?_⟩
    exact s_when (b := false) (et_not (et_B (et_isLot (K := K) (r := some l) (ev_var rfl) (ed_var rfl h1) hc hT ⟨h2, hl⟩))) (fun hb => by cases hb) (fun _ H1 e1 => q H1 e1)
theorem ev_needL {σ : L2.St} {H : Hp} {ta tb : TE} {m d : Int} {l : List Int} {E : XK} {P1 P2 : Addr} (ha : EvD K ta σ H (curveD m d)) (hb : EvD K tb σ H (lotD l)) (hc : okC m d) (hT : Tbs H P1 P2) (hl : lotL m l = true) : Ev (tCall (spNeedL K P1 P2) [] E (tCons ta (tCons tb tNil))) σ H .non := fun H1 e Q q =>
  (eb_cons ha (eb_cons hb eb_nil)) H1 e _ fun vs H2 e2 hvs => ⟨m, d, l, (by show DtAll K H2 (vs ++ []) _; rw [List.append_nil]; exact hvs), hc, hT.ex (e.trans e2), hl, fun H3 e3 => q H3 (e2.trans e3)⟩
/-! blocks -/
def stepB (acc : List (List Int)) (c : Int) : List (List Int) := match acc.getLast? with
  | none => acc ++ [[c]]
  | some b => if b.getLast?.getD 0 + 1 = c then acc.dropLast ++ [b ++ [c]] else acc ++ [[c]]
def blocksL (l : List Int) : List (List Int) := l.foldl stepB []
theorem stepB_ne {acc : List (List Int)} {c : Int} (h : ∀ b ∈ acc, b ≠ []) : ∀ b ∈ stepB acc c, b ≠ [] := by
  intro b hb
  unfold stepB at hb
  split at hb
  · rcases List.mem_append.mp hb with hb | hb
    · exact h b hb
    · rw [List.mem_singleton.mp hb]
      exact List.cons_ne_nil _ _
  · split at hb
    · rcases List.mem_append.mp hb with hb | hb
      · exact h b (List.dropLast_subset _ hb)
      · rw [List.mem_singleton.mp hb]
        simp
    · rcases List.mem_append.mp hb with hb | hb
      · exact h b hb
      · rw [List.mem_singleton.mp hb]
        exact List.cons_ne_nil _ _
theorem stepB_len (acc : List (List Int)) (c : Int) : (stepB acc c).length ≤ acc.length + 1 := by
  unfold stepB
  split
  · rw [List.length_append]; exact Nat.le_refl _
  · split
    · rw [List.length_append, List.length_dropLast]; simp only [List.length_cons, List.length_nil]; omega
    · rw [List.length_append]; exact Nat.le_refl _
theorem fold_ne : ∀ (l : List Int) (acc : List (List Int)), (∀ b ∈ acc, b ≠ []) → ∀ b ∈ l.foldl stepB acc, b ≠ []
  | [], _, h => h
  | c :: l, acc, h => fold_ne l (stepB acc c) (stepB_ne h)
theorem fold_len : ∀ (l : List Int) (acc : List (List Int)), (l.foldl stepB acc).length ≤ acc.length + l.length
  | [], _ => Nat.le_refl _
  | c :: l, acc => by
    have h1 := fold_len l (stepB acc c)
    have h2 := stepB_len acc c
    rw [List.foldl_cons, List.length_cons]
    omega
theorem fold_take {l : List Int} {i : Nat} {c : Int} (h : l[i]? = some c) : (l.take (i + 1)).foldl stepB [] = stepB ((l.take i).foldl stepB []) c := by
  rw [List.take_add_one, h, List.foldl_append]
  rfl
theorem fold_sz : ∀ (l : List Int) (acc : List (List Int)) (n : Nat), (∀ b ∈ acc, b.length ≤ n) → ∀ b ∈ l.foldl stepB acc, b.length ≤ n + l.length + 1
  | [], _, n, h => fun b hb => Nat.le_trans (h b hb) (by omega)
  | c :: l, acc, n, h => by
    have h1 : ∀ b ∈ stepB acc c, b.length ≤ n + 1 := by
      intro b hb
      unfold stepB at hb
      split at hb
      · rcases List.mem_append.mp hb with hb | hb
        · exact Nat.le_trans (h b hb) (by omega)
        · rw [List.mem_singleton.mp hb]; simp
      · rename_i b0 hl
        have hm : b0 ∈ acc := List.mem_of_getLast? hl
        split at hb
        · rcases List.mem_append.mp hb with hb | hb
          · exact Nat.le_trans (h b (List.dropLast_subset _ hb)) (by omega)
          · rw [List.mem_singleton.mp hb, List.length_append]
            have := h b0 hm
            simp only [List.length_cons, List.length_nil]
            omega
        · rcases List.mem_append.mp hb with hb | hb
          · exact Nat.le_trans (h b hb) (by omega)
          · rw [List.mem_singleton.mp hb]; simp
    intro b hb
    have := fold_sz l (stepB acc c) (n + 1) h1 b hb
    rw [List.length_cons]
    omega
theorem et_truL {σ : L2.St} {H : Hp} {te : TE} {p : Addr} {xs : List V} (h : Ev te σ H (.ref p)) (hs : SqL K H p xs) : EvT (fun σ H Q => te σ H fun x H' => ∃ k, TruV K x H' k ∧ Q k H') σ H (!xs.isEmpty) := fun H1 e _ q =>
  h H1 e _ fun H2 e2 => ⟨_, .inl ⟨xs, ex_l (e.trans e2) hs, rfl⟩, q H2 e2⟩
theorem et_truT {σ : L2.St} {H : Hp} {te : TE} {ds : List PyData} (h : EvD K te σ H (.tuple ds)) : EvT (fun σ H Q => te σ H fun x H' => ∃ k, TruV K x H' k ∧ Q k H') σ H (!ds.isEmpty) := fun H1 e _ q =>
  h H1 e _ fun v H2 e2 hv => by
    cases hv with
    | tup hs hx =>
      refine ⟨_, .inr (.inl ⟨_, hs, rfl⟩), ?_⟩
      cases hx with
      | nil => exact q H2 e2
      | cons _ _ => exact q H2 e2
theorem s_appD {D : Ends} {σ : L2.St} {H : Hp} {ta te : TE} {l : Addr} {xs : List V} {d : PyData} (hl : H l = some (.lst xs)) (ha : Ev ta σ H (.ref l)) (h : EvD K te σ H d) (hz : xs.length < 100000) (k : ∀ v H1, Ex H H1 → Dt K H1 v d → D.nx σ (upd H1 l (.lst (xs ++ [v])))) :
    tDrop (tBM K "list" rAppend ta (tCons te tNil)) D σ H := ha H (Ex.refl H) _ fun H1 e1 =>
  ⟨Or.inl ⟨rfl, xs, sq_of (e1 l _ hl)⟩, h H1 e1 _ fun v H2 e2 hv => ⟨l, xs, v, rfl, rfl, e2 l _ (e1 l _ hl), sz_lt hz, k v H2 (e1.trans e2) hv⟩⟩
theorem q_appD {D : Ends} {σ : L2.St} {H : Hp} {ta te : TE} {tz : TS} {l : Addr} {xs : List V} {d : PyData} (hl : H l = some (.lst xs)) (ha : Ev ta σ H (.ref l)) (h : EvD K te σ H d) (hz : xs.length < 100000) (k : ∀ v H1, Ex H H1 → Dt K H1 v d → tz D σ (upd H1 l (.lst (xs ++ [v])))) :
    tSeq (tDrop (tBM K "list" rAppend ta (tCons te tNil))) tz D σ H := s_appD (D := { D with nx := tz D }) hl ha h hz k
/-- xs[-1] = e -/
theorem s_setLast {D : Ends} {σ : L2.St} {H : Hp} {ta tb te : TE} {l : Addr} {xs : List V} {x : V} {d : PyData} (hl : H l = some (.lst (xs ++ [x]))) (h : EvD K te σ H d) (ho : Ev ta σ H (.ref l)) (hi : Ev tb σ H (.int (-1))) (k : ∀ v H1, Ex H H1 → Dt K H1 v d → D.nx σ (upd H1 l (.lst (xs ++ [v])))) :
    tAsg te (gSub ta tb rSetL) D σ H := h H (Ex.refl H) _ fun v H1 e1 hv => ho H1 e1 _ fun H2 e2 => hi H2 (e1.trans e2) _ fun H3 e3 => by
  refine ⟨l, xs ++ [x], -1, xs.length, rfl, rfl, ((e1.trans e2).trans e3) l _ hl, ?_, ?_⟩
  · unfold ixN
    rw [List.length_append, if_neg (by decide), if_pos (by simp only [List.length_cons, List.length_nil]; omega)]
    simp only [List.length_cons, List.length_nil]
    congr 1
    omega
  · rw [List.set_append_right _ _ (Nat.le_refl _), Nat.sub_self]
    exact k v H3 ((e1.trans e2).trans e3) (dt_ex (e2.trans e3) hv)
def spBlocks (K : PySem.W.Frag) (P1 P2 : Addr) : Sp := fun vs H Q _ => ∃ (m d : Int) (l : List Int), DtAll K H vs [curveD m d, lotD l] ∧ okC m d ∧ Tbs H P1 P2 ∧ lotL m l = true ∧ l.length ≤ 1000 ∧ ∀ p xs H2, H p = none → Ex H H2 → H2 p = some (.lst xs) → DtAll K H2 xs ((blocksL l).map lotD) → Q (.ref p) H2
theorem ok_blocks {f P1 P2 : Addr} {fd : FuncData} {k : Nat} (D : Df K mg "blocks" s_blocks ["curve", "lot"] f fd) (L : LotD K mg base P1 P2) : FnOk P w K mg base CX0 (k + 6) f fd ["curve", "lot"] (spBlocks K P1 P2) := by
  obtain ⟨fn, fdn, D_need_lot⟩ := L.need_lot
  have G_need_lot : FnOk P w K mg base CX0 (k + 5) fn fdn ["curve", "lot"] (spNeedL K P1 P2) := ok_need_lot D_need_lot L
  refine D.F.ok sc_blocks (fun vs H Q E h => ?_) (fun cdv A outer s H vs Q E hr h => ?_)
  · obtain ⟨m, d, l, h, _⟩ := h
    rw [dta_len h]
    rfl
  · obtain ⟨m, d, l, h, hc, hT, hl, hll, q⟩ := h
    cases h with
    | cons h1 h2 =>
    cases h2 with
    | cons h2 h3 =>
    cases h3
    rename_i cv lv
    obtain ⟨la, rfl, hla⟩ := dt_lot h2
    refine ⟨_, (pss_cons (ps_expr (pe_call G_need_lot (hr.mono (by omega)) (by rfl) D_need_lot.g D_need_lot.F.kp D_need_lot.b .nil pass0 (pa_cons (pv 0) (pa_cons (pv 1) pa_nil))))  (pss_cons (ps_set (i := 2) sc_blocks.nd rfl (.inl rfl) (pe_lst pa_nil))  (pss_cons (ps_for PassesOwn.never rfl (pi_tup (pv 1)) (pg_name (i := 3) sc_blocks.nd rfl (.inl rfl))   (pss_one (ps_if (PW.pt (pw_and (pt_truth (pv 2) (by intro _; rfl)) (pw_and1 (pt_cmpR op_eq (pe_op op_add (pe_ix (show IxR _ (rIxT K) from ix_tup) (pe_ix (show IxR _ (rIxL K) from ix_list) (pv 2) (pe_un un_neg pe_int) (fun _ _ => rfl)) (pe_un un_neg pe_int) (fun _ _ => rfl)) pe_int) (pv 3) (nomark _)))))   (pss_one (ps_asg (pe_op (show OpR _ _ (rCatA K) from op_catA) (pe_ix (show IxR _ (rIxL K) from ix_list) (pv 2) (pe_un un_neg pe_int) (fun _ _ => rfl)) (pe_tup (pa_cons (pv 3) pa_nil))) (pg_sub (pv 2) (pe_un un_neg pe_int) set_list)))   (pss_one (ps_expr (pe_bm PySem.F.plainAttrs_list PySem.F.slot_list_append PySem.F.type_list_append mt_append (pv 2) (pa_cons (pe_tup (pa_cons (pv 3) pa_nil)) pa_nil)))))))  (pss_one (ps_ret (pv 2)))))), ?_⟩
    refine q_drop (ev_needL (K := K) (ed_var rfl h1) (ed_var rfl h2) hc hT hl) fun H1 e1 => ?_
    refine q_asgF (K := K) (ds := []) (ef_lst eb_nil (by decide)) fun p xs H2 np e2 hp hx => ?_
    cases hx
    have np0 : H p = none := fresh_back e1 np
    refine q_forT (ev_var rfl) (ex_t (e1.trans e2) hla) (fun i σ' H' => ∃ (xs : List V) (y : Option V), σ' = [some cv, some (.ref la), some (.ref p), y] ∧ Ex H H' ∧ H' p = some (.lst xs) ∧ DtAll K H' xs (((l.take i).foldl stepB []).map lotD))
      (fun H3 e3 => ⟨[], _, rfl, (e1.trans e2).trans e3, e3 p _ hp, .nil⟩) (fun i σ' H' _ hw => ?_) ?_ ?_
    · obtain ⟨_, _, _, e3, _⟩ := hw
      exact ex_t e3 hla
    · rintro i x σ' H' hi ⟨xs, y, rfl, e3, hp3, hx3⟩
      rw [List.getElem?_map] at hi
      cases hci : l[i]? with
      | none => rw [hci] at hi; cases hi
      | some cc =>
        rw [hci] at hi
        cases Option.some.inj hi
        have hilt : i < l.length := (List.getElem?_eq_some_iff.mp hci).1
        have hne := fold_ne (l.take i) [] (fun b hb => nomatch hb)
        have hsz := fold_sz (l.take i) [] 0 (fun b hb => nomatch hb)
        have htk : (l.take i).length ≤ 1000 := by rw [List.length_take]; omega
        have hcnt := fold_len (l.take i) []
        have hstep := fold_take hci
        generalize hacc : (l.take i).foldl stepB [] = acc at hx3 hne hsz hcnt hstep
        have hxl : xs.length = acc.length := by rw [dta_len hx3, List.length_map]
        have hxz : xs.length < 100000 := by
          rw [hxl]
          simp only [List.length_nil] at hcnt
          omega
        show tIfS _ _ _ _ [some cv, some (.ref la), some (.ref p), some (.int cc)] H'
        cases hlast : acc.getLast? with
        | none =>
          have hnil : acc = [] := List.getLast?_eq_none_iff.mp hlast
          subst hnil
          cases hx3
          refine s_if (b := false) (et_and (b := false) (et_truL (K := K) (ev_var rfl) (sq_of hp3)) (fun z => by cases z)) (fun hb => by cases hb) (fun _ H4 e4 => ?_)
          refine s_appD (K := K) (d := lotD [cc]) (e4 p _ hp3) (ev_var rfl) (ed_tup (eb_cons (ed_int (ev_var rfl)) eb_nil) (by show 1 ≤ 100000; decide)) (by decide) fun v H5 e5 hv => ⟨_, _, rfl, Ex.mut ((e3.trans e4).trans e5) np0, upd_same, ?_⟩
          rw [hstep]
          exact dta_tx (tx_lst (e5 p _ (e4 p _ hp3))) (dta_one hv)
        | some b =>
          have hb : b ≠ [] := hne b (List.mem_of_getLast? hlast)
          have hblen : b.length ≤ 2000 := by have := hsz b (List.mem_of_getLast? hlast); omega
          have hsplit : acc = acc.dropLast ++ [b] := by
            have hne0 : acc ≠ [] := fun z => by rw [z] at hlast; cases hlast
            have hgl : acc.getLast hne0 = b := by rw [List.getLast?_eq_some_getLast hne0] at hlast; exact Option.some.inj hlast
            rw [← hgl]
            exact (List.dropLast_concat_getLast hne0).symm
          -- the last of the list
          have hxs : ∃ (xs0 : List V) (x0 : V), xs = xs0 ++ [x0] ∧ DtAll K H' xs0 (acc.dropLast.map lotD) ∧ Dt K H' x0 (lotD b) := by
            rw [hsplit, List.map_append] at hx3
            have hsplitD : ∀ {vs : List V} {ds : List PyData} {d : PyData}, DtAll K H' vs (ds ++ [d]) → ∃ vs0 v0, vs = vs0 ++ [v0] ∧ DtAll K H' vs0 ds ∧ Dt K H' v0 d := by
              intro vs ds
              induction ds generalizing vs with
              | nil =>
                intro d h
                cases h with
                | cons a t => cases t; exact ⟨[], _, rfl, .nil, a⟩
              | cons e ds ih =>
                intro d h
                cases h with
                | cons a t =>
                  obtain ⟨vs0, v0, rfl, q1, q2⟩ := ih t
                  exact ⟨_ :: vs0, v0, rfl, .cons a q1, q2⟩
            exact hsplitD hx3
          obtain ⟨xs0, x0, rfl, hx0, hd0⟩ := hxs
          have hix : EvD K (tOp (rIxL K) (tVar 2) (tUn (rU fun i => .int (-i)) (tC (.int 1)))) [some cv, some (.ref la), some (.ref p), some (.int cc)] H' (lotD b) := by
            refine ed_ixL (ds := acc.map lotD) (ev_var rfl) (sq_of hp3) hx3 (ev_un ev_c ru_neg) ?_
            rw [hsplit, List.map_append]
            exact atI_last _ _
          have hixl : Ev (tOp (rIxT K) (tOp (rIxL K) (tVar 2) (tUn (rU fun i => .int (-i)) (tC (.int 1)))) (tUn (rU fun i => .int (-i)) (tC (.int 1)))) [some cv, some (.ref la), some (.ref p), some (.int cc)] H' (.int (b.getLast?.getD 0)) := by
            refine ev_int (K := K) (ed_ixT (ds := b.map PyData.int) hix (ev_un ev_c ru_neg) ?_)
            rw [List.getLast?_eq_some_getLast hb]
            exact lotD_ix (lastD b hb)
          refine s_if (b := decide (b.getLast?.getD 0 + 1 = cc)) (et_is (et_and (et_truL (K := K) (ev_var rfl) (sq_of hp3)) (fun _ => et_test (ev_op (ev_op hixl ev_c rv_I0) (ev_var rfl) (rv_eq rfl)))) ?_) (fun hb2 H4 e4 => ?_) (fun hb2 H4 e4 => ?_)
          · rw [dec_int]
            have : (xs0 ++ [x0]).isEmpty = false := by cases xs0 <;> rfl
            rw [this]
            rfl
          · have hcond := of_decide_eq_true hb2
            refine s_setLast (K := K) (d := lotD (b ++ [cc])) (e4 p _ hp3) (ed_is (ed_cat (hix.mono e4) (ed_tup (eb_cons (ed_int (ev_var rfl)) eb_nil) (by show 1 ≤ 100000; decide)) ?_) ?_) (ev_var rfl) (ev_un ev_c ru_neg) fun v H5 e5 hv => ⟨_, _, rfl, Ex.mut ((e3.trans e4).trans e5) np0, upd_same, ?_⟩
            · show (b.map PyData.int).length + 1 ≤ 100000
              rw [List.length_map]; omega
            · show PyData.tuple (b.map PyData.int ++ [.int cc]) = lotD (b ++ [cc])
              unfold lotD
              rw [List.map_append]
              rfl
            · rw [hstep]
              unfold stepB
              rw [hlast]
              show DtAll K _ _ ((if b.getLast?.getD 0 + 1 = cc then acc.dropLast ++ [b ++ [cc]] else acc ++ [[cc]]).map lotD)
              rw [if_pos hcond, List.map_append]
              exact dta_tx (tx_lst (e5 p _ (e4 p _ hp3))) (dta_app (dta_ex (e4.trans e5) hx0) (dta_one hv))
          · have hcond := of_decide_eq_false hb2
            refine s_appD (K := K) (d := lotD [cc]) (e4 p _ hp3) (ev_var rfl) (ed_tup (eb_cons (ed_int (ev_var rfl)) eb_nil) (by show 1 ≤ 100000; decide)) hxz fun v H5 e5 hv => ⟨_, _, rfl, Ex.mut ((e3.trans e4).trans e5) np0, upd_same, ?_⟩
            rw [hstep]
            unfold stepB
            rw [hlast]
            show DtAll K _ _ ((if b.getLast?.getD 0 + 1 = cc then acc.dropLast ++ [b ++ [cc]] else acc ++ [[cc]]).map lotD)
            rw [if_neg hcond, List.map_append]
            exact dta_tx (tx_lst (e5 p _ (e4 p _ hp3))) (dta_app (dta_ex (e4.trans e5) hx3) (dta_one hv))
    · rintro σ' H' ⟨xs, y, rfl, e3, hp3, hx3⟩
      rw [List.length_map, List.take_length] at hx3
      exact s_ret (ev_var rfl) fun H4 e4 => q p xs H4 np0 (e3.trans e4) (e4 p _ hp3) (dta_ex e4 hx3)
theorem ef_blocks {σ : L2.St} {H : Hp} {ta tb : TE} {m d : Int} {l : List Int} {E : XK} {P1 P2 : Addr} (ha : EvD K ta σ H (curveD m d)) (hb : EvD K tb σ H (lotD l)) (hc : okC m d) (hT : Tbs H P1 P2) (hl : lotL m l = true) (hll : l.length ≤ 1000) : EvF K (tCall (spBlocks K P1 P2) [] E (tCons ta (tCons tb tNil))) σ H ((blocksL l).map lotD) := fun H1 e Q q =>
  (eb_cons ha (eb_cons hb eb_nil)) H1 e _ fun vs H2 e2 hvs => ⟨m, d, l, (by show DtAll K H2 (vs ++ []) _; rw [List.append_nil]; exact hvs), hc, hT.ex (e.trans e2), hl, hll, fun p xs H3 np e3 hp hx => q p xs H3 (fresh_back e2 np) (e2.trans e3) hp hx⟩
end
/-! ### inner blocks -/
def innerB (m : Int) (b : List Int) : Bool := (!decide (b.headD 0 = 0)) && !decide (b.getLast?.getD 0 = m - 1)
def oddB (b : List Int) : Bool := decide ((b.length : Int) % 2 = 1)
def oddL (m : Int) (l : List Int) : Int := ((((blocksL l).filter (innerB m)).filter oddB).length : Int)
def paneP (m d : Int) (l : List Int) : Bool := decide ((l.length : Int) = d) && decide (oddL m l = 0)
def faceP (m d : Int) (l : List Int) : Bool := decide (oddL m l ≤ d - (l.length : Int))
theorem blocks_ne {l : List Int} : ∀ b ∈ blocksL l, b ≠ [] := fold_ne l [] (fun b hb => nomatch hb)
theorem blocks_len (l : List Int) : (blocksL l).length ≤ l.length := by
  have := fold_len l []
  simp only [List.length_nil] at this
  show (l.foldl stepB []).length ≤ _
  omega
section
variable {P : Program} {w : World} {K : PySem.W.Frag} {mg : Str → Option Value} {base : Heap}
def spInner (K : PySem.W.Frag) : Sp := fun vs H Q _ => ∃ (v : V) (b : List Int) (m : Int), vs = [v, .int m] ∧ Dt K H v (lotD b) ∧ b ≠ [] ∧ ∀ H2, Ex H H2 → Q (.bl (innerB m b)) H2
theorem ok_inner {f : Addr} {fd : FuncData} {k : Nat} (D : Df K mg "is_inner" s_is_inner ["block", "many"] f fd) : FnOk P w K mg base CX0 (k + 1) f fd ["block", "many"] (spInner K) := by
  refine D.F.ok sc_is_inner (fun vs H Q E h => ?_) (fun cdv A outer s H vs Q E hr h => ?_)
  · obtain ⟨v, b, m, rfl, _⟩ := h
    rfl
  · obtain ⟨v, b, m, rfl, hv, hb, q⟩ := h
    refine ⟨_, (pss_one (ps_ret (pe_and (pe_cmpR op_ne (pe_ix (show IxR _ (rIxT K) from ix_tup) (pv 0) pe_int (fun _ _ => rfl)) pe_int (nomark _)) (pe_one (pe_cmpR op_ne (pe_ix (show IxR _ (rIxT K) from ix_tup) (pv 0) (pe_un un_neg pe_int) (fun _ _ => rfl)) (pe_op op_sub (pv 1) pe_int) (nomark _)))))), ?_⟩
    have h0 : Ev (tOp (rIxT K) (tVar 0) (tC (.int 0))) (L2.start N_is_inner [v, .int m]) H (.int (b.headD 0)) := by
      refine ev_int (K := K) (ed_ixT (ds := b.map PyData.int) (ed_var rfl hv) ev_c ?_)
      cases b with
      | nil => exact absurd rfl hb
      | cons x r => exact atI_nat (j := 0) rfl
    have h1 : Ev (tOp (rIxT K) (tVar 0) (tUn (rU fun i => .int (-i)) (tC (.int 1)))) (L2.start N_is_inner [v, .int m]) H (.int (b.getLast?.getD 0)) := by
      refine ev_int (K := K) (ed_ixT (ds := b.map PyData.int) (ed_var rfl hv) (ev_un ev_c ru_neg) ?_)
      rw [List.getLast?_eq_some_getLast hb]
      exact lotD_ix (lastD b hb)
    refine s_ret (v := .bl (innerB m b)) (ev_is (ev_andV (ev_op h0 ev_c (rv_ne rfl)) (fun _ => ev_op h1 (ev_op (ev_var rfl) ev_c rv_I0) (rv_ne rfl))) ?_) fun H1 e1 => q H1 e1
    rw [dec_int, dec_int]
    rfl
theorem ev_inner {σ : L2.St} {H : Hp} {ta tb : TE} {b : List Int} {m : Int} {E : XK} (ha : EvD K ta σ H (lotD b)) (hb : Ev tb σ H (.int m)) (hn : b ≠ []) : Ev (tCall (spInner K) [] E (tCons ta (tCons tb tNil))) σ H (.bl (innerB m b)) := fun H1 e Q q =>
  ha H1 e _ fun v H2 e2 hv => hb H2 (e.trans e2) _ fun H3 e3 => ⟨v, b, m, rfl, dt_ex e3 hv, hn, fun H4 e4 => q H4 ((e2.trans e3).trans e4)⟩
def spOdd (K : PySem.W.Frag) (P1 P2 : Addr) : Sp := fun vs H Q _ => ∃ (m d : Int) (l : List Int), DtAll K H vs [curveD m d, lotD l] ∧ okC m d ∧ Tbs H P1 P2 ∧ lotL m l = true ∧ l.length ≤ 1000 ∧ ∀ H2, Ex H H2 → Q (.int (oddL m l)) H2
theorem ok_odd {f P1 P2 : Addr} {fd : FuncData} {k : Nat} (D : Df K mg "odd_inner" s_odd_inner ["curve", "lot"] f fd) (L : LotD K mg base P1 P2) : FnOk P w K mg base CX0 (k + 7) f fd ["curve", "lot"] (spOdd K P1 P2) := by
  obtain ⟨fb, fdb, D_blocks⟩ := L.blocks
  obtain ⟨fi, fdi, D_is_inner⟩ := L.is_inner
  have G_blocks : FnOk P w K mg base CX0 (k + 6) fb fdb ["curve", "lot"] (spBlocks K P1 P2) := ok_blocks D_blocks L
  have G_is_inner : FnOk P w K mg base CX0 (k + 1) fi fdi ["block", "many"] (spInner K) := ok_inner D_is_inner
  have B := L.B
  refine D.F.ok sc_odd_inner (fun vs H Q E h => ?_) (fun cdv A outer s H vs Q E hr h => ?_)
  · obtain ⟨m, d, l, h, _⟩ := h
    rw [dta_len h]
    rfl
  · obtain ⟨m, d, l, h, hc, hT, hl, hll, q⟩ := h
    cases h with
    | cons h1 h2 =>
    cases h2 with
    | cons h2 h3 =>
    cases h3
    rename_i cv lv
    have hbl := blocks_len l
    refine ⟨_, (pss_cons (ps_setLc (i := 2) (own := [("block", 3)]) rfl sc_odd_inner.nd rfl rfl (sw_true rfl rfl rfl (by decide +kernel)) (pi_list (pe_call G_blocks (hr.mono (by omega)) (by rfl) D_blocks.g D_blocks.F.kp D_blocks.b .nil pass0 (pa_cons (pv 0) (pa_cons (pv 1) pa_nil)))) (blkOk_by (own := [("block", 3)]) (N := N_odd_inner) (sc := defScope s_odd_inner) (by decide +kernel)) (fun _ _ _ _ _ => (pg_name (i := 3) sc_odd_inner.nd rfl (.inl rfl))) (fun _ _ _ _ _ => pts_one (pt_val (pe_call G_is_inner (hr.mono (by omega)) (by rfl) D_is_inner.g D_is_inner.F.kp D_is_inner.b .nil pass0 (pa_cons (pv 3) (pa_cons (pe_ix (show IxR _ (rIxT K) from ix_tup) (pv 0) pe_int (fun _ _ => rfl)) pa_nil))))) (fun _ _ _ _ _ => (pv 3)))  (pss_one (ps_ret (pe_callB (show CallR _ _ (rLenS K) from call_len_seq) (by rfl) B.len_ (by decide +kernel) (pa_cons (pe_lc (own := [("block", 3)]) rfl sc_odd_inner.nd (pi_list (pv 2)) (blkOk_by (own := [("block", 3)]) (N := N_odd_inner) (sc := defScope s_odd_inner) (by decide +kernel)) (fun _ _ _ _ _ => (pg_name (i := 3) sc_odd_inner.nd rfl (.inl rfl))) (fun _ _ _ _ _ => pts_one (pt_cmpR op_eq (pe_op op_mod (pe_callB (show CallR _ _ (rLenS K) from call_len_seq) (by rfl) B.len_ (by decide +kernel) (pa_cons (pv 3) pa_nil)) pe_int) pe_int (nomark _))) (fun _ _ _ _ _ => (pv 3))) pa_nil))))), ?_⟩
    refine q_asgF (K := K) (ds := ((blocksL l).filter (innerB m)).map lotD) (ef_is (ef_lcF (ds := (blocksL l).map lotD) (fun x => innerB m (unlot x)) (fun x => x) (ef_blocks (ed_var rfl h1) (ed_var rfl h2) hc hT hl hll) (by rw [List.length_map]; omega) (fun _ => rfl) (fun x v H1 e1 hm hx => ?_) (fun x v H1 e1 hm hx _ => ed_var rfl hx)) (filt_lots fun l => by rw [unlot_lot])) fun p xs H1 np e1 hp hx => ?_
    · obtain ⟨b, hb, rfl⟩ := mem_lots hm
      rw [unlot_lot]
      exact et_B (ev_inner (K := K) (ed_var rfl hx) (ev_int (K := K) (ed_ixT (ds := [.int m, .int d]) (ed_var rfl (dt_ex e1 h1)) ev_c rfl)) (blocks_ne b hb))
    · have hfl : ((blocksL l).filter (innerB m)).length ≤ 1000 := Nat.le_trans (List.length_filter_le _ _) (by omega)
      refine s_ret (v := .int (oddL m l)) (ev_is (ev_lenF (K := K) (ef_is (ef_lcL (ds := ((blocksL l).filter (innerB m)).map lotD) (fun x => oddB (unlot x)) (fun x => x) (ev_var rfl) (sq_of hp) hx (by rw [List.length_map]; omega) (fun _ => rfl) (fun x v H2 e2 hm hx => ?_) (fun x v H2 e2 hm hx _ => ed_var rfl hx)) (filt_lots fun l => by rw [unlot_lot]))) ?_) fun H2 e2 => q H2 (e1.trans e2)
      · obtain ⟨b, hb, rfl⟩ := mem_lots hm
        rw [unlot_lot]
        refine et_is (et_test (ev_op (ev_op (ev_lenT (K := K) (ds := b.map PyData.int) (ed_var rfl hx)) ev_c (rv_I (by show (0 : Int) < 2; decide))) ev_c (rv_eq rfl))) ?_
        rw [dec_int, List.length_map]
        rfl
      · rw [List.length_map]
        rfl
theorem ev_odd {σ : L2.St} {H : Hp} {ta tb : TE} {m d : Int} {l : List Int} {E : XK} {P1 P2 : Addr} (ha : EvD K ta σ H (curveD m d)) (hb : EvD K tb σ H (lotD l)) (hc : okC m d) (hT : Tbs H P1 P2) (hl : lotL m l = true) (hll : l.length ≤ 1000) : Ev (tCall (spOdd K P1 P2) [] E (tCons ta (tCons tb tNil))) σ H (.int (oddL m l)) := fun H1 e Q q =>
  (eb_cons ha (eb_cons hb eb_nil)) H1 e _ fun vs H2 e2 hvs => ⟨m, d, l, (by show DtAll K H2 (vs ++ []) _; rw [List.append_nil]; exact hvs), hc, hT.ex (e.trans e2), hl, hll, fun H3 e3 => q H3 (e2.trans e3)⟩
/-! the law's curve -/
def spCurve (K : PySem.W.Frag) : Sp := fun vs H Q _ => ∃ b, vs = [.ref b] ∧ BoxAt H b ∧ ∀ v m d H2, okC m d → Dt K H2 v (curveD m d) → BoxAt H2 b → Bk b H H2 → Q v H2
theorem ok_curve {f ft fm : Addr} {fd fdt fdm : FuncData} {k : Nat} (D : Df K mg "_law_curve" s__law_curve ["_law_box_here"] f fd) (D__law_take : Df K mg "_law_take" s__law_take ["_law_box_here", "_law_wide"] ft fdt) (D__law_more : Df K mg "_law_more" s__law_more ["_law_box_here"] fm fdm) (B : Bt mg) : FnOk P w K mg base CX0 (k + 3) f fd ["_law_box_here"] (spCurve K) := by
  have G__law_take : FnOk P w K mg base CX0 (k + 2) ft fdt ["_law_box_here", "_law_wide"] spTake := ok_take D__law_take D__law_more B
  refine D.F.ok sc__law_curve (fun vs H Q E h => ?_) (fun cdv A outer s H vs Q E hr h => ?_)
  · obtain ⟨b, rfl, _⟩ := h
    rfl
  · obtain ⟨b, rfl, hb, q⟩ := h
    refine ⟨_, (pss_cons (ps_set (i := 1) sc__law_curve.nd rfl (.inl rfl) (pe_op op_add pe_int (pe_call G__law_take (hr.mono (by omega)) (by rfl) D__law_take.g D__law_take.F.kp D__law_take.b .nil pass0 (pa_cons (pv 0) (pa_cons pe_int pa_nil)))))  (pss_one (ps_ret (pe_tup (pa_cons (pe_op op_add (pe_op op_add (pv 1) pe_int) (pe_call G__law_take (hr.mono (by omega)) (by rfl) D__law_take.g D__law_take.F.kp D__law_take.b .nil pass0 (pa_cons (pv 0) (pa_cons (pe_op op_sub pe_int (pv 1)) pa_nil)))) (pa_cons (pv 1) pa_nil)))))), ?_⟩
    refine q_asgK (K := K) (b := b) (ek_opI (f := fun i j => i + j) ev_c fun H1 e1 => ek_take rfl (hb.ex e1) ev_c (by decide) (by decide)) fun v d H1 hp hv hb1 x1 => ?_
    obtain ⟨r, rfl, r0, r1⟩ := hp
    cases hv
    refine (ek_opI (K := K) (b := b) (f := fun i j => i + j) (σ := [some (.ref b), some (.int (1 + r))]) (H := H1) (ta := tOp (rI0 fun i j => .int (i + j)) (tVar 1) (tC (.int 1))) (ev_op (ev_var rfl) ev_c rv_I0) fun H2 e2 => ek_take (wd := 9 - (1 + r)) rfl (hb1.ex e2) (ev_op ev_c (ev_var rfl) rv_I0) (by omega) (by omega)) _ fun v d H2 hp hv hb2 x2 => ?_
    obtain ⟨r', rfl, r0', r1'⟩ := hp
    cases hv
    refine ⟨_, rfl, sz_of (by show 2 ≤ 100000; decide), fun p hp => ?_⟩
    have e3 : Ex H2 (upd H2 p (.tup [.int (1 + r + 1 + r'), .int (1 + r)])) := Ex.new hp
    exact q _ (1 + r + 1 + r') (1 + r) _ ⟨by omega, by omega, by omega, by omega⟩ (.tup (st_of upd_same) (.cons (.int _) (.cons (.int _) .nil))) (hb2.ex e3) ((x1.trans x2).trans (bk_ex e3))
theorem q_curve {D : Ends} {tz : TS} {σ : L2.St} {H : Hp} {i j : Nat} {b : Addr} {E : XK} (hj : σ[j]? = some (some (.ref b))) (hb : BoxAt H b) (k : ∀ v m d H2, okC m d → Dt K H2 v (curveD m d) → BoxAt H2 b → Bk b H H2 → tz D (σ.set i (some v)) H2) : tSeq (tAsg (tCall (spCurve K) [] E (tCons (tVar j) tNil)) (gName i)) tz D σ H :=
  ⟨_, hj, b, rfl, hb, k⟩
end
/-! ### the end: the tables stand as tables for the law's own walk -/
def hext (cs : List Addr) (H : Hp) : Hp := fun b => if b ∈ cs then some (TabO b) else H b
def hback (cs : List Addr) (h : Heap) (H : Hp) : Hp := fun b => if b ∈ cs then (match h.get? b with
  | some ⟨_, _, .fields ps, _⟩ => some (.tbl ps)
  | _ => none) else H b
theorem hext_in {cs : List Addr} {H : Hp} {b : Addr} (h : b ∈ cs) : hext cs H b = some (TabO b) := if_pos h
theorem hext_out {cs : List Addr} {H : Hp} {b : Addr} (h : b ∉ cs) : hext cs H b = H b := if_neg h
theorem hback_in {cs : List Addr} {h : Heap} {H : Hp} {b : Addr} {ps : Array Value} (hb : b ∈ cs) (e : h.get? b = some { cls := .none, data := .fields ps }) : hback cs h H b = some (.tbl ps) := by
  unfold hback
  rw [if_pos hb, e]
theorem hback_out {cs : List Addr} {h : Heap} {H : Hp} {b : Addr} (hb : b ∉ cs) : hback cs h H b = H b := if_neg hb
/-- the law with its tables as things that stay tables; as the head leaves them -/
def spLawX (K : PySem.W.Frag) (cs : List Addr) : Sp := fun vs H Q _ => ∃ (a : Addr) (ns : List Int), vs = [.ref a] ∧ SqL K H a (ns.map V.int) ∧ ns.length ≤ 63 ∧ (∀ p ∈ cs, H p = some (TabO p)) ∧ ∀ H', (∀ p ∈ cs, H' p = some (TabO p)) → Q (.bl true) H'
def spLawT (K : PySem.W.Frag) (cs : List Addr) : Sp := fun vs H Q _ => ∃ (a : Addr) (ns : List Int), vs = [.ref a] ∧ SqL K H a (ns.map V.int) ∧ ns.length ≤ 63 ∧ (∀ p ∈ cs, H p = some (.tbl #[])) ∧ ∀ H', Q (.bl true) H'
theorem fn_tabs {P : Program} {w : World} {K : PySem.W.Frag} {mg : Str → Option Value} {base : Heap} {k : Nat} {f : Addr} {fd : FuncData} {x : Str} {cs : List Addr} (F : FnOk P w K mg base CX0 k f fd [x] (spLawX K cs)) : FnOk P w K mg base CX0 k f fd [x] (spLawT K cs) := by
  refine ⟨fun vs H Q E h => ?_, fun A outer s H args us vs Q E hr e0 hb hv hs => ?_⟩
  · obtain ⟨a, ns, rfl, _⟩ := h
    rfl
  · obtain ⟨a, ns, rfl, hS, hl, hcs, q⟩ := hs
    have out : ∀ {b : Addr} {u : HO}, H b = some u → u ≠ .tbl #[] → b ∉ cs := fun {b u} e n z => by
      rw [hcs b z] at e
      exact n (Option.some.inj e).symm
    have none_out : ∀ {b : Addr}, H b = none → b ∉ cs := fun {b} e z => by
      rw [hcs b z] at e
      cases e
    have none_x : ∀ {b : Addr}, H b = none → hext cs H b = none := fun {b} e => (hext_out (none_out e)).trans e
    have hS' : SqL K (hext cs H) a (ns.map V.int) := by
      rcases hS with (h | ⟨o, h⟩) | h
      · exact .inl (.inl ((hext_out (out h fun z => nomatch z)).trans h))
      · exact .inl (.inr ⟨o, (hext_out (out h fun z => nomatch z)).trans h⟩)
      · exact .inr h
    have hok' : HOk P w (hext cs H) s.heap := fun b u e => by
      by_cases hb : b ∈ cs
      · rw [hext_in hb] at e
        cases e
        have ht : s.heap.get? b = some { cls := .none, data := .fields #[] } := e0.hok b _ (hcs b hb)
        exact tab_obj ⟨#[], ht, True.intro⟩
      · rw [hext_out hb] at e
        exact (e0.hok b u e).stay (fun c v _ q => q) (fun c q => (hext_out (out q fun z => nomatch z)).trans q) fun c xs q => (hext_out (out q fun z => nomatch z)).trans q
    have e0' : Env0 P w K mg base A outer s (hext cs H) := ⟨e0.frames, e0.mod, fun b o e => ⟨(e0.bs b o e).1, none_x (e0.bs b o e).2⟩, e0.bsz, e0.funs, fun b hb => none_x (e0.frf b hb), hok', e0.bare⟩
    refine codeAny_mono (F.run A outer s (hext cs H) args us _ (fun v H' => v = .bl true ∧ ∀ p ∈ cs, H' p = some (TabO p)) E hr e0' hb hv ⟨a, ns, rfl, hS', hl, fun p hp => hext_in hp, fun H' h' => ⟨rfl, h'⟩⟩) fun r s' h => ?_
    cases r with
    | error e => exact h
    | ok fl =>
      cases fl with
      | next => exact h
      | brk => exact h
      | cont => exact h
      | ret u =>
        obtain ⟨v, H', os, bare, un, hok2, rv, rfl, htab⟩ := h
        have tb : ∀ b ∈ cs, ∃ ps, s'.heap.get? b = some { cls := .none, data := .fields ps } := fun b hb => by
          obtain ⟨⟨ps, e, _⟩, _⟩ := hok2 b _ (htab b hb)
          exact ⟨ps, e⟩
        have out2 : ∀ {b : Addr} {u : HO}, H' b = some u → (∀ φ, u ≠ .ext φ) → b ∉ cs := fun {b u} e n z => by
          rw [htab b z] at e
          exact n _ (Option.some.inj e).symm
        have same : ∀ {b : Addr} {u : HO}, H' b = some u → (∀ φ, u ≠ .ext φ) → hback cs s'.heap H' b = some u := fun {b u} e n => (hback_out (out2 e n)).trans e
        refine ⟨_, hback cs s'.heap H', os, bare, ⟨fun b o e n hb hx => un.keep b o e (none_x n) hb hx, fun b o e n hb hx => un.slot b o e (none_x n) hb hx, fun b o e n hx => (hback_out (none_out n)).trans (un.free b o e (none_x n) hx), fun b o e hx => un.there b o e hx, fun b xs e => ?_, fun b o u e => ?_, fun b ps e => ?_⟩, fun b u e => ?_, rv, q _⟩
        · exact same (un.tups b xs ((hext_out (out e fun z => nomatch z)).trans e)) fun _ z => nomatch z
        · exact same (un.frzs b o u ((hext_out (out e fun z => nomatch z)).trans e)) fun _ z => nomatch z
        · by_cases hb : b ∈ cs
          · rw [hcs b hb] at e
            cases e
            obtain ⟨ps, hp⟩ := tb b hb
            exact ⟨ps, by rw [hback_in hb hp, Array.empty_append]⟩
          · obtain ⟨more, h2⟩ := un.tbls b ps ((hext_out hb).trans e)
            exact ⟨more, (hback_out hb).trans h2⟩
        · by_cases hb : b ∈ cs
          · obtain ⟨ps, hp⟩ := tb b hb
            rw [hback_in hb hp] at e
            cases e
            exact hp
          · rw [hback_out hb] at e
            exact (hok2 b u e).stay (fun c v _ q => q) (fun c q => same q fun _ z => nomatch z) fun c xs q => same q fun _ z => nomatch z
/-- the walk of a law some of whose defs hold a generator expression -/
theorem walk_gens {l : PySem.W.OpenLaw} {n k : Nat} {q : Program} {loose : List Str} {XP : (Str → Option Value) → Heap → Prop} {YP : World → Heap → Prop} {d : DefRec} {K : Params → PySem.W.Frag} {x : Str} (names : List Str)
    (hn : l.most = some n) (hn2 : n ≤ sizeLine) (hdf : d.params.defaults = []) (hr : Room k callerA) (hrec : (names.all fun nm => (recsOf q).any fun e => e.name == nm) = true) (hY : ∀ (w : World) (h : Heap), YP w h → (K w.params).In h)
    (F : ∀ (w : World) (mg : Str → Option Value) (fa : Addr) (h : Heap), (K w.params).In h → h.Ns mainGlobals mg → mg d.name = some (.ref fa) → (∀ nm ∈ names, ∀ f, mg nm = some (.ref f) → LamX.OwnTab (K w.params) f h) → LamX.LawAtS l w (K w.params) CX0 k n x mg fa h) :
    PySem.W.WalkO q loose XP YP l.row.toRowW d [] (fun f vs => PySem.call f vs) := by
  refine Att.attach_callB hn hdf fun w s₀ s₁ mg mb fa o pm cd doc a vs ns G Y ho hd hcd hmg hobj hints hlen hbits hg => ?_
  have KX := hY w _ Y
  have own : ∀ nm ∈ names, ∀ f, mg nm = some (.ref f) → LamX.OwnTab (K w.params) f s₁.heap := fun nm hnm f hf c P o1 fd1 e dd vs1 sl k1 k2 k3 k4 k5 => by
    obtain ⟨r, hr1, hr2⟩ := List.any_eq_true.mp (List.all_eq_true.mp hrec nm hnm)
    have er : r.name = nm := beq_iff_eq.mp hr2
    obtain ⟨a', o', fd', c', P', h1, h2, h3, h4, _, h6⟩ := G.T.tab r hr1
    rw [er, hf] at h1
    cases h1
    rw [KX _ _ k1] at h2
    cases h2
    rw [k2] at h3
    cases h3
    rw [k3] at h4
    cases h4
    obtain ⟨⟨oc, vc, e1, _, e3, e4⟩, hP⟩ := h6
    rw [KX _ _ k4] at e1
    cases e1
    cases e3
    rw [k5] at e4
    cases e4
    exact hP
  obtain ⟨fd, cs, sp, hT, nT, C, hb, hsp, hF⟩ := F w mg fa _ KX G.T.g hmg own
  exact LamX.law_callTs KX G.T.g G.T.b G.T.builtins G.T.nolimit hg hT nT C G.T.bmain hobj hints (Nat.le_trans hlen hn2) hr hF hb (fun H hH hS => hsp H a ns hlen hbits hH hS) fun H e s' z => z
/-- a def's code object and its table -/
structure CdT (K : PySem.W.Frag) (h : Heap) (c P : Addr) : Prop where
  tab : h.get? P = some { cls := .none, data := .fields #[] }
  free : K.lookup P = none
  hd : PySem.W.CodeHd h c P
theorem cdt_mk {K : PySem.W.Frag} {h : Heap} {f c P : Addr} {oc e : Value} {od dd : Option Addr} {fd : FuncData} {osl sl : Array (Option Value)} {vs : Array Value} (X : K.In h) (O : LamX.OwnTab K f h) (l : K.lookup f = some ⟨oc, od, .func fd, osl⟩) (hc : fd.code = .ref c) (lc : K.lookup c = some ⟨e, dd, .fields vs, sl⟩) (v : vs[11]? = some (.ref P)) (hh : PySem.W.codeHdIn K c P = true) (np : K.lookup P = none) : CdT K h c P :=
  ⟨O c P _ fd e dd vs sl l rfl hc lc v, np, PySem.W.codeHd_of_K X hh⟩
theorem tabB_x {base : Heap} {mg : Str → Option Value} {c P : Addr} (t : LamX.TabB base mg c P) : GxR.TabB base mg c P := ⟨t.code, t.bm, t.gP⟩
theorem law_at2 {l : PySem.W.OpenLaw} {w : World} {K : PySem.W.Frag} {k : Nat} {x : Str} {mg : Str → Option Value} {fa : Addr} {h : Heap} {fd : FuncData} {c1 P1 c2 P2 : Addr} (C1 : CdT K h c1 P1) (C2 : CdT K h c2 P2) (hb : ∀ (s : Shared) (u : Value), BindsTo s fd ⟨[u], []⟩ [(x, u)])
    (F : ∀ base : Heap, K.In base → base.Ns mainGlobals mg → GxR.TabB base mg c1 P1 → GxR.TabB base mg c2 P2 → FnOk l.prog w K mg base CX0 k fa fd [x] (spLawX K [P1, P2])) : LamX.LawAtS l w K CX0 k 63 x mg fa h := by
  have two : ∀ {p : Addr × Addr}, p ∈ [(c1, P1), (c2, P2)] → p = (c1, P1) ∨ p = (c2, P2) := fun {p} hp => by simpa using hp
  refine ⟨fd, [(c1, P1), (c2, P2)], spLawT K [P1, P2], fun p hp => ?_, fun p hp => ?_, fun p hp => ?_, hb, fun H a ns hl _ ht hS => ⟨a, ns, rfl, hS, hl, fun p hp => ?_, fun _ => rfl⟩, fun base hK hn ht => fn_tabs (F base hK hn (tabB_x (ht (c1, P1) (by simp))) (tabB_x (ht (c2, P2) (by simp))))⟩
  · rcases two hp with rfl | rfl
    · exact C1.tab
    · exact C2.tab
  · rcases two hp with rfl | rfl
    · exact C1.free
    · exact C2.free
  · rcases two hp with rfl | rfl
    · exact C1.hd
    · exact C2.hd
  · have hp2 : p = P1 ∨ p = P2 := by simpa using hp
    rcases hp2 with rfl | rfl
    · exact ht (c1, _) (by simp)
    · exact ht (c2, _) (by simp)
theorem tbs_of {H : Hp} {P1 P2 : Addr} (h : ∀ p ∈ [P1, P2], H p = some (TabO p)) : Tbs H P1 P2 := ⟨h P1 (by simp), h P2 (by simp)⟩
theorem tbs_to {H : Hp} {P1 P2 : Addr} (h : Tbs H P1 P2) : ∀ p ∈ [P1, P2], H p = some (TabO p) := fun p hp => by
  have hp2 : p = P1 ∨ p = P2 := by simpa using hp
  rcases hp2 with rfl | rfl
  · exact h.t1
  · exact h.t2
theorem ef_of_el {K : PySem.W.Frag} {σ : L2.St} {H : Hp} {te : TE} {xs : List V} {ds : List PyData} (h : EvL te σ H xs) (hd : DtAll K H xs ds) : EvF K te σ H ds := fun H1 e Q q => h H1 e Q fun p H2 np e2 hp => q p xs H2 np e2 hp (dta_ex (e.trans e2) hd)
theorem cut_last (xs : List V) (x : V) : cutV (xs ++ [x]) none (some (-1)) = xs := by
  unfold cutV
  rw [HT.sIx_none]
  have e : HT.sIx (xs ++ [x]).length (xs ++ [x]).length (some (-1)) = xs.length := by
    unfold HT.sIx
    simp
    omega
  rw [e]
  simp
theorem ints_lay : ∀ l : List Int, PyData.canLayAll0 (l.map PyData.int) = true
  | [] => rfl
  | i :: l => by
    show (PyData.canLay0 (.int i) && PyData.canLayAll0 (l.map PyData.int)) = true
    rw [ints_lay l]
    rfl
theorem lots_lay : ∀ ls : List (List Int), PyData.canLayAll0 (ls.map lotD) = true
  | [] => rfl
  | l :: ls => by
    show (PyData.canLayAll0 (l.map PyData.int) && PyData.canLayAll0 (ls.map lotD)) = true
    rw [ints_lay l, lots_lay ls]
    rfl
theorem ints_deep : ∀ l : List Int, PyData.depthAll (l.map PyData.int) = 0
  | [] => rfl
  | i :: l => by
    show max (PyData.depth (.int i)) (PyData.depthAll (l.map PyData.int)) = 0
    rw [ints_deep l]
    rfl
theorem lots_deep : ∀ ls : List (List Int), PyData.depthAll (ls.map lotD) ≤ 1
  | [] => Nat.zero_le _
  | l :: ls => by
    show max (PyData.depthAll (l.map PyData.int) + 1) (PyData.depthAll (ls.map lotD)) ≤ 1
    rw [ints_deep l]
    exact Nat.max_le.mpr ⟨Nat.le_refl _, lots_deep ls⟩
theorem lots_shaped (ls : List (List Int)) : SeqAt.shaped (.list (ls.map lotD)) = true := by
  show (PyData.canLayAll0 (ls.map lotD) && decide (PyData.depthAll (ls.map lotD) + 1 ≤ 64)) = true
  rw [lots_lay ls, decide_eq_true (by have := lots_deep ls; omega)]
  rfl
theorem eqv_ints : ∀ l : List Int, PyData.eqvAll (l.map PyData.int) (l.map PyData.int) = true
  | [] => rfl
  | i :: l => by
    show ((i == i) && PyData.eqvAll (l.map PyData.int) (l.map PyData.int)) = true
    rw [eqv_ints l, beq_self_eq_true]
    rfl
theorem eqv_lots : ∀ ls : List (List Int), PyData.eqvAll (ls.map lotD) (ls.map lotD) = true
  | [] => rfl
  | l :: ls => by
    show (PyData.eqvAll (l.map PyData.int) (l.map PyData.int) && PyData.eqvAll (ls.map lotD) (ls.map lotD)) = true
    rw [eqv_ints l, eqv_lots ls]
    rfl
theorem eqv_lotsL (ls : List (List Int)) : PyData.eqv (.list (ls.map lotD)) (.list (ls.map lotD)) = true := eqv_lots ls
theorem ints_shaped (l : List Int) : SeqAt.shaped (.list (l.map PyData.int)) = true := by
  show (PyData.canLayAll0 (l.map PyData.int) && decide (PyData.depthAll (l.map PyData.int) + 1 ≤ 64)) = true
  rw [ints_lay l, ints_deep l]
  rfl
theorem lot_shaped (l : List Int) : SeqAt.shaped (lotD l) = true := by
  show (PyData.canLayAll0 (l.map PyData.int) && decide (PyData.depthAll (l.map PyData.int) + 1 ≤ 64)) = true
  rw [ints_lay l, ints_deep l]
  rfl
theorem eqv_nil (ds : List PyData) : PyData.eqv (.list ds) (.list []) = ds.isEmpty := by
  cases ds <;> rfl
theorem eqv_ints2 : ∀ a b : List Int, PyData.eqvAll (a.map PyData.int) (b.map PyData.int) = decide (a = b)
  | [], [] => rfl
  | [], _ :: _ => rfl
  | _ :: _, [] => rfl
  | x :: a, y :: b => by
    show ((x == y) && PyData.eqvAll (a.map PyData.int) (b.map PyData.int)) = decide (x :: a = y :: b)
    rw [eqv_ints2 a b]
    by_cases h1 : x = y
    · subst h1
      by_cases h2 : a = b
      · subst h2
        simp
      · simp [h2]
    · simp [h1]
theorem eqv_lot (a b : List Int) : PyData.eqv (lotD a) (lotD b) = decide (a = b) := eqv_ints2 a b
theorem any_lot (ls : List (List Int)) (l : List Int) : (ls.map lotD).any (fun z => PyData.eqv z (lotD l)) = ls.any (fun z => decide (z = l)) := by
  rw [List.any_map]
  congr 1
  funext z
  exact eqv_lot z l
/-! ### a drawn lot -/
def rTupS (K : PySem.W.Frag) : List V → Hp → VK → Prop := fun xs H Q => ∃ p ys, xs = [.ref p] ∧ ((SqL K H p ys ∧ ∀ l, H l = none → Q (.ref l) (upd H l (.tup ys))) ∨ (SqT K H p ys ∧ Q (.ref p) H))
theorem bk_mut {b D : Addr} {H H' : Hp} {o : HO} (x : Bk b H H') (n : H D = none) : Bk b H (upd H' D o) := ⟨fun c u hc h => by rw [upd_ne (ne_of_none h n)]; exact x.bx c u hc h, fun c u r => by
  have nc : c ≠ D := fun z => by
    subst z
    rcases r with r | ⟨o, r⟩ <;> (rw [n] at r; cases r)
  rcases x.tx c u r with r | ⟨o, r⟩
  · exact .inl (by rw [upd_ne nc]; exact r)
  · exact .inr ⟨o, by rw [upd_ne nc]; exact r⟩⟩
def subs : List Int → List (List Int)
  | [] => [[]]
  | x :: r => (subs r).map (x :: ·) ++ subs r
theorem subs_of {l r : List Int} (h : l.Sublist r) : l ∈ subs r := by
  induction h with
  | slnil => exact List.mem_singleton.mpr rfl
  | cons a _ ih => exact List.mem_append_right _ ih
  | cons_cons a _ ih => exact List.mem_append_left _ (List.mem_map.mpr ⟨_, ih, rfl⟩)
section
variable {P : Program} {w : World} {K : PySem.W.Frag} {mg : Str → Option Value} {base : Heap}
def spLot (K : PySem.W.Frag) : Sp := fun vs H Q _ => ∃ (b : Addr) (m : Int), vs = [.ref b, .int m] ∧ BoxAt H b ∧ 0 ≤ m ∧ m < 100 ∧ ∀ v l H2, l.Sublist (upTo 0 m) → Dt K H2 v (lotD l) → BoxAt H2 b → Bk b H H2 → Q v H2
theorem ok_lot {f ft fm : Addr} {fd fdt fdm : FuncData} {k : Nat} (D : Df K mg "_law_lot" s__law_lot ["_law_box_here", "_law_many"] f fd) (D__law_take : Df K mg "_law_take" s__law_take ["_law_box_here", "_law_wide"] ft fdt) (D__law_more : Df K mg "_law_more" s__law_more ["_law_box_here"] fm fdm) (B : Bt mg) : FnOk P w K mg base CX0 (k + 3) f fd ["_law_box_here", "_law_many"] (spLot K) := by
  have G__law_take : FnOk P w K mg base CX0 (k + 2) ft fdt ["_law_box_here", "_law_wide"] spTake := ok_take D__law_take D__law_more B
  refine D.F.ok sc__law_lot (fun vs H Q E h => ?_) (fun cdv A outer s H vs Q E hr h => ?_)
  · obtain ⟨b, m, rfl, _⟩ := h
    rfl
  · obtain ⟨b, m, rfl, hb, m0, m1, q⟩ := h
    refine ⟨_, (pss_cons (ps_set (i := 2) sc__law_lot.nd rfl (.inr rfl) (pe_op op_add pe_int (pe_call G__law_take (hr.mono (by omega)) (by rfl) D__law_take.g D__law_take.F.kp D__law_take.b .nil pass0 (pa_cons (pv 0) (pa_cons pe_int pa_nil)))))  (pss_one (ps_ret (pe_callTy (show CallR _ _ (rTupS K) from call_tuple_of) (by rfl) B.tuple_ (by decide +kernel) (pa_cons (pe_lc (own := [("_law_corner", 3)]) rfl sc__law_lot.nd (pi_range1 (by rfl) B.range_ (pa_cons (pv 1) pa_nil)) (blkOk_by (own := [("_law_corner", 3)]) (N := N__law_lot) (sc := defScope s__law_lot) (by decide +kernel)) (fun _ _ _ _ _ => (pg_name (i := 3) sc__law_lot.nd rfl (.inl rfl))) (fun _ _ _ _ _ => pts_one (pt_cmpR op_lt (pe_call G__law_take (hr.mono (by omega)) (by rfl) D__law_take.g D__law_take.F.kp D__law_take.b .nil pass0 (pa_cons (pv 0) (pa_cons pe_int pa_nil))) (pv 2) (nomark _))) (fun _ _ _ _ _ => (pv 3))) pa_nil))))), ?_⟩
    refine q_asgK (K := K) (b := b) (ek_opI (f := fun i j => i + j) ev_c fun H1 e1 => ek_take rfl (hb.ex e1) ev_c (by decide) (by decide)) fun v d H1 hp hv hb1 x1 => ?_
    obtain ⟨sh, rfl, s0, s1⟩ := hp
    cases hv
    refine ⟨_, rfl, m, rfl, by omega, by omega, fun Dl hD => ?_⟩
    have nbD : Dl ≠ b := box_ne hb1 hD
    refine lc_range (lo := 0) (n := m.toNat) (fun i H' => BoxAt H' b ∧ Bk b H1 H' ∧ ∃ l : List Int, l.Sublist ((upTo 0 m).take i) ∧ H' Dl = some (.lst (l.map V.int))) ⟨hb1.ex (Ex.new hD), bk_ex (Ex.new hD), [], List.nil_sublist _, upd_same⟩ (fun i H' hi hw => ?_) (fun H' hw => ?_)
    · obtain ⟨hb2, x2, l, hsub, hl⟩ := hw
      have hget : (upTo 0 m)[i]? = some (0 + (i : Int)) := upTo_get (by omega)
      have hlen : l.length ≤ 100 := by
        have h1 := hsub.length_le
        have h2 : ((upTo 0 m).take i).length ≤ (upTo 0 m).length := by rw [List.length_take]; exact Nat.min_le_right _ _
        rw [upTo_len] at h2
        omega
      refine ⟨rfl, ?_⟩
      refine (ek_take (K := K) (b := b) (σ := [some (.ref b), some (.int m), some (.int (1 + sh)), some (.int (0 + (i : Int)))]) (ta := tC (.int 4)) (wd := 4) (j := 0) rfl hb2 ev_c (by decide) (by decide)) _ fun v d H3 hp hv hb3 x3 => ?_
      obtain ⟨r, rfl, r0, r1⟩ := hp
      cases hv
      have hl3 : H3 Dl = some (.lst (l.map V.int)) := x3.bx Dl _ nbD hl
      refine ⟨_, rfl, r, 1 + sh, rfl, rfl, _, rfl, ?_⟩
      rw [List.take_add_one, hget]
      refine ite2 (fun _ => ?_) (fun _ => ?_)
      · refine ⟨_, rfl, l.map V.int, hl3, sz_lt (by rw [List.length_map]; omega), ?_, bk_mut (x2.trans x3) hD, l ++ [0 + (i : Int)], hsub.append (List.Sublist.refl _), ?_⟩
        · obtain ⟨n1, n2, hb4⟩ := hb3
          exact ⟨n1, n2, by rw [upd_ne nbD.symm]; exact hb4⟩
        · rw [upd_same, List.map_append]
          rfl
      · exact ⟨hb3, x2.trans x3, l, hsub.trans (List.sublist_append_left _ _), hl3⟩
    · obtain ⟨hb2, x2, l, hsub, hl⟩ := hw
      rw [List.take_of_length_le (by rw [upTo_len]; omega)] at hsub
      refine ⟨Dl, l.map V.int, rfl, .inl ⟨sq_of hl, fun t ht => ?_⟩⟩
      exact q _ l _ hsub (lot_dt (st_of upd_same)) (hb2.ex (Ex.new ht)) ((x1.trans x2).trans (bk_ex (Ex.new ht)))
theorem ek_lot {σ : L2.St} {H : Hp} {te : TE} {b : Addr} {m : Int} {j : Nat} {E : XK} (hj : σ[j]? = some (some (.ref b))) (hb : BoxAt H b) (h : Ev te σ H (.int m)) (m0 : 0 ≤ m) (m1 : m < 100) : EvK K b (tCall (spLot K) [] E (tCons (tVar j) (tCons te tNil))) σ H (fun d => ∃ l, d = lotD l ∧ l.Sublist (upTo 0 m)) := fun Q q =>
  ⟨_, hj, h H (Ex.refl H) _ fun H2 e2 => ⟨b, m, rfl, hb.ex e2, m0, m1, fun v l H3 hs hv hb3 x3 => q v (lotD l) H3 ⟨l, rfl, hs⟩ hv hb3 ((bk_ex e2).trans x3)⟩⟩
/-! displays some of whose items change the box -/
def EvKA (K : PySem.W.Frag) (b : Addr) (ta : TA) (σ : L2.St) (H : Hp) (p : List PyData → Prop) : Prop := ∀ Q : List V → Hp → Prop, (∀ vs ds H2, p ds → DtAll K H2 vs ds → BoxAt H2 b → Bk b H H2 → Q vs H2) → ta σ H Q
theorem ka_nil {σ : L2.St} {H : Hp} {b : Addr} (hb : BoxAt H b) : EvKA K b tNil σ H (fun ds => ds = []) := fun Q q => q [] [] H rfl .nil hb (Bk.refl b H)
theorem ka_cons {σ : L2.St} {H : Hp} {b : Addr} {te : TE} {tr : TA} {p1 : PyData → Prop} {p2 : List PyData → Prop} (h : EvK K b te σ H p1) (hr : ∀ H', Bk b H H' → BoxAt H' b → EvKA K b tr σ H' p2) : EvKA K b (tCons te tr) σ H (fun ds => ∃ d r, ds = d :: r ∧ p1 d ∧ p2 r) := fun Q q =>
  h _ fun v d H2 h1 hv hb2 x2 => hr H2 x2 hb2 _ fun vs ds H3 h2 hvs hb3 x3 => q (v :: vs) (d :: ds) H3 ⟨d, ds, rfl, h1, h2⟩ (.cons (dt_tx x3.tx hv) hvs) hb3 (x2.trans x3)
theorem ka_pure {σ : L2.St} {H : Hp} {b : Addr} {ta : TA} {ds : List PyData} (h : EvB K ta σ H ds) (hb : BoxAt H b) : EvKA K b ta σ H (fun es => es = ds) := fun Q q => h H (Ex.refl H) _ fun vs H2 e2 hvs => q vs ds H2 rfl hvs (hb.ex e2) (bk_ex e2)
def EvG (K : PySem.W.Frag) (b : Addr) (te : TE) (σ : L2.St) (H : Hp) (p : List PyData → Prop) : Prop := ∀ Q : VK, (∀ q xs ds H2, p ds → H q = none → H2 q = some (.lst xs) → DtAll K H2 xs ds → BoxAt H2 b → Bk b H H2 → Q (.ref q) H2) → te σ H Q
theorem bk_free {b q : Addr} {H H' : Hp} (x : Bk b H H') (hb : BoxAt H' b) (n : H' q = none) : H q = none := by
  cases e : H q with
  | none => rfl
  | some o =>
    have nq : q ≠ b := box_ne hb n
    rw [x.bx q o nq e] at n
    cases n
theorem eg_lst {σ : L2.St} {H : Hp} {b : Addr} {ta : TA} {p : List PyData → Prop} (h : EvKA K b ta σ H p) (hp : ∀ ds, p ds → ds.length ≤ 1000) : EvG K b (tLst ta) σ H p := fun Q q =>
  h _ fun vs ds H2 h1 hvs hb2 x2 => ⟨sz_of (by rw [dta_len hvs]; have := hp ds h1; omega), fun r hr => q r vs ds _ h1 (bk_free x2 hb2 hr) upd_same (dta_ex (Ex.new hr) hvs) (hb2.ex (Ex.new hr)) (x2.trans (bk_ex (Ex.new hr)))⟩
theorem ka_imp {σ : L2.St} {H : Hp} {b : Addr} {ta : TA} {p p' : List PyData → Prop} (h : EvKA K b ta σ H p) (hi : ∀ ds, p ds → p' ds) : EvKA K b ta σ H p' := fun Q q => h Q fun vs ds H2 hp => q vs ds H2 (hi ds hp)
theorem eg_imp {σ : L2.St} {H : Hp} {b : Addr} {te : TE} {p p' : List PyData → Prop} (h : EvG K b te σ H p) (hi : ∀ ds, p ds → p' ds) : EvG K b te σ H p' := fun Q q => h Q fun r xs ds H2 hp => q r xs ds H2 (hi ds hp)
theorem q_forG {σ : L2.St} {H : Hp} {b : Addr} {D : Ends} {tl : TE} {g : TG} {tu tz : TS} {p : List PyData → Prop} (h : EvG K b tl σ H p)
    (k : ∀ ds H1, p ds → BoxAt H1 b → Bk b H H1 → ∃ Pv : Nat → L2.St → Hp → Prop, Pv 0 σ H1 ∧ (∀ i x d σ' H', Ex H1 H' → ds[i]? = some d → Dt K H' x d → Pv i σ' H' → g x σ' H' fun σ2 H2 => tu { D with nx := fun σ3 H3 => Ex H1 H3 ∧ Pv (i + 1) σ3 H3, ct := fun σ3 H3 => Ex H1 H3 ∧ Pv (i + 1) σ3 H3, bk := tz D } σ2 H2) ∧ (∀ σ' H', Ex H1 H' → Pv ds.length σ' H' → tz D σ' H')) : tSeq (tFor (iList K tl) g tu) tz D σ H :=
  h _ fun r xs ds H1 h1 nr hr hx hb1 x1 => by
    obtain ⟨Pv, h0, hs, hd⟩ := k ds H1 h1 hb1 x1
    exact ⟨r, rfl, ⟨xs, sq_of hr⟩, for_list (xs := xs) (fun i σ' H' => Ex H1 H' ∧ Pv i σ' H') ⟨Ex.refl _, h0⟩ (fun i σ' H' _ hw => sq_of (hw.1 r _ hr)) (fun i x σ' H' hi hw => by
      obtain ⟨d, h1, h2⟩ := dta_get (dta_ex hw.1 hx) hi
      exact hs i x d σ' H' hw.1 h1 h2 hw.2) (fun σ' H' hw => hd σ' H' hw.1 (by rw [← dta_len hx]; exact hw.2))⟩
theorem ed_tupRg {σ : L2.St} {H : Hp} {te : TE} {m : Int} (h : Ev te σ H (.int m)) (m0 : 0 ≤ m) (m1 : m < 1000) : EvD K (tTupRg (tRg1 te)) σ H (lotD (upTo 0 m)) := fun H1 e Q q =>
  h H1 e _ fun H2 e2 => ⟨m, rfl, RgOk.of_le (by decide) (by omega) (by decide) m0, fun t ht => q _ _ (e2.trans (Ex.new ht)) (lot_dt (st_of (by
    rw [upd_same]
    congr 2
    unfold rgV upTo
    rw [List.map_map]
    rfl)))⟩
theorem q_parFF {σ : L2.St} {H : Hp} {D : Ends} {tz : TS} {ta tb : TE} {i j : Nat} {ds es : List PyData} (h1 : EvF K ta σ H ds) (h2 : ∀ H1, Ex H H1 → EvF K tb σ H1 es) (k : ∀ p xs q ys H2, Ex H H2 → H2 p = some (.lst xs) → DtAll K H2 xs ds → H2 q = some (.lst ys) → DtAll K H2 ys es → tz D ((σ.set i (some (.ref p))).set j (some (.ref q))) H2) : tSeq (tPar i j (tCons ta (tCons tb tNil))) tz D σ H :=
  h1 H (Ex.refl H) _ fun p xs H1 np e1 hp hx => h2 H1 e1 H1 (Ex.refl H1) _ fun q ys H2 nq e2 hq hy => ⟨.ref p, .ref q, rfl, k p xs q ys H2 (e1.trans e2) (e2 p _ hp) (dta_ex e2 hx) hq hy⟩
theorem ev_neLF {σ : L2.St} {H : Hp} {ta tb : TE} {a : Addr} {xs : List V} {ds es : List PyData} (ha : Ev ta σ H (.ref a)) (hs : SqL K H a xs) (hx : DtAll K H xs ds) (hb : EvF K tb σ H es) (sd : SeqAt.shaped (.list ds) = true) (se : SeqAt.shaped (.list es) = true) : Ev (tOp (rNeD K) ta tb) σ H (.bl (!PyData.eqv (.list ds) (.list es))) := fun H1 e1 Q q =>
  ha H1 e1 _ fun H2 e2 => hb H2 (e1.trans e2) _ fun r ys H3 _ e3 hr hy => ⟨_, _, .lst (ex_l ((e1.trans e2).trans e3) hs) (dta_dp (dta_ex ((e1.trans e2).trans e3) hx)), .lst (sq_of hr) (dta_dp hy), sd, se, q H3 (e2.trans e3)⟩
end
/-! ### blocks as the law tells them -/
def lbStep (l : List Int) (acc : List (List Int)) (c : Int) : List (List Int) := if l.contains c then acc.dropLast ++ [acc.getLast?.getD [] ++ [c]] else acc ++ [[]]
def lbFold (m : Int) (l : List Int) (i : Nat) : List (List Int) := ((upTo 0 m).take i).foldl (lbStep l) [[]]
def neB (b : List Int) : Bool := !decide (b = [])
def lblocksL (m : Int) (l : List Int) : List (List Int) := (lbFold m l m.toNat).filter neB
theorem lb_succ {m : Int} {l : List Int} {i : Nat} (h : i < m.toNat) : lbFold m l (i + 1) = lbStep l (lbFold m l i) (i : Int) := by
  unfold lbFold
  rw [List.take_add_one, upTo_get (by omega), List.foldl_append]
  show lbStep l _ (0 + (i : Int)) = _
  rw [Int.zero_add]
theorem lbStep_sz {l : List Int} {acc : List (List Int)} {c : Int} {n : Nat} (h : acc.length ≤ n ∧ ∀ b ∈ acc, b.length ≤ n) : (lbStep l acc c).length ≤ n + 1 ∧ ∀ b ∈ lbStep l acc c, b.length ≤ n + 1 := by
  unfold lbStep
  split
  · refine ⟨by rw [List.length_append, List.length_dropLast]; simp only [List.length_cons, List.length_nil]; omega, fun b hb => ?_⟩
    rcases List.mem_append.mp hb with hb | hb
    · exact Nat.le_trans (h.2 b (List.dropLast_subset _ hb)) (by omega)
    · rw [List.mem_singleton.mp hb, List.length_append]
      cases hl : acc.getLast? with
      | none => simp
      | some b0 =>
        have := h.2 b0 (List.mem_of_getLast? hl)
        simp only [Option.getD_some, List.length_cons, List.length_nil]
        omega
  · refine ⟨by rw [List.length_append]; simp only [List.length_cons, List.length_nil]; omega, fun b hb => ?_⟩
    rcases List.mem_append.mp hb with hb | hb
    · exact Nat.le_trans (h.2 b hb) (by omega)
    · rw [List.mem_singleton.mp hb]; simp
theorem lb_sz (m : Int) (l : List Int) : ∀ i : Nat, i ≤ m.toNat → (lbFold m l i).length ≤ i + 1 ∧ ∀ b ∈ lbFold m l i, b.length ≤ i + 1
  | 0, _ => ⟨by show 1 ≤ 1; exact Nat.le_refl _, fun b hb => by
      have hb : b ∈ [([] : List Int)] := hb
      rw [List.mem_singleton.mp hb]
      simp⟩
  | i + 1, h => by
    rw [lb_succ (by omega)]
    exact lbStep_sz (lb_sz m l i (by omega))
def innB (m : Int) (b : List Int) : Bool := !b.contains 0 && !b.contains (m - 1)
def ok3 (m : Int) (l : List Int) : Bool := lotL m l && decide (l.length ≤ 9) && decide (blocksL l = lblocksL m l) && decide (oddL m l = ((((lblocksL m l).filter (innB m)).filter oddB).length : Int))
def fix3 (m : Int) : List (List Int) := [[], upTo 0 m, [0], [m - 1], [0, m - 1]]
def all3 : Bool := (List.range 8).all fun j => (subs (upTo 0 ((j : Int) + 2))).all (ok3 ((j : Int) + 2)) && (fix3 ((j : Int) + 2)).all (ok3 ((j : Int) + 2)) && decide (blocksL [0] = [[0]]) && decide (blocksL (upTo 0 ((j : Int) + 2)) = [upTo 0 ((j : Int) + 2)])
theorem all_3 : all3 = true := by decide +kernel
theorem facts3 {m : Int} (h1 : 2 ≤ m) (h2 : m ≤ 9) : (∀ l, l.Sublist (upTo 0 m) → ok3 m l = true) ∧ (∀ l ∈ fix3 m, ok3 m l = true) ∧ blocksL [0] = [[0]] ∧ blocksL (upTo 0 m) = [upTo 0 m] := by
  have h := List.all_eq_true.mp all_3 (m - 2).toNat (List.mem_range.mpr (by omega))
  rw [show (((m - 2).toNat : Nat) : Int) + 2 = m by omega] at h
  simp only [Bool.and_eq_true, decide_eq_true_eq] at h
  obtain ⟨⟨⟨a, b⟩, c⟩, d⟩ := h
  exact ⟨fun l hl => List.all_eq_true.mp a l (subs_of hl), fun l hl => List.all_eq_true.mp b l hl, c, d⟩
theorem ok3_of {m : Int} {l : List Int} (h : ok3 m l = true) : lotL m l = true ∧ l.length ≤ 9 ∧ blocksL l = lblocksL m l ∧ oddL m l = ((((lblocksL m l).filter (innB m)).filter oddB).length : Int) := by
  unfold ok3 at h
  simp only [Bool.and_eq_true, decide_eq_true_eq] at h
  obtain ⟨⟨⟨a, b⟩, c⟩, d⟩ := h
  exact ⟨a, b, c, d⟩
section
variable {P : Program} {w : World} {K : PySem.W.Frag} {mg : Str → Option Value} {base : Heap}
def spLB (K : PySem.W.Frag) : Sp := fun vs H Q _ => ∃ (v : V) (m : Int) (l : List Int), vs = [.int m, v] ∧ Dt K H v (lotD l) ∧ 0 ≤ m ∧ m < 100 ∧ ∀ p xs H2, H p = none → Ex H H2 → H2 p = some (.lst xs) → DtAll K H2 xs ((lblocksL m l).map lotD) → Q (.ref p) H2
theorem dta_split {H : Hp} {d : PyData} : ∀ {ds : List PyData} {vs : List V}, DtAll K H vs (ds ++ [d]) → ∃ vs0 v0, vs = vs0 ++ [v0] ∧ DtAll K H vs0 ds ∧ Dt K H v0 d
  | [], _, .cons a .nil => ⟨[], _, rfl, .nil, a⟩
  | _ :: ds, _, .cons a t => by
    obtain ⟨vs0, v0, rfl, q1, q2⟩ := dta_split (ds := ds) t
    exact ⟨_ :: vs0, v0, rfl, .cons a q1, q2⟩
theorem ok_lb {f : Addr} {fd : FuncData} {k : Nat} (D : Df K mg "_law_blocks" s__law_blocks ["_law_many", "_law_lot_here"] f fd) (B : Bt mg) : FnOk P w K mg base CX0 (k + 1) f fd ["_law_many", "_law_lot_here"] (spLB K) := by
  refine D.F.ok sc__law_blocks (fun vs H Q E h => ?_) (fun cdv A outer s H vs Q E hr h => ?_)
  · obtain ⟨v, m, l, rfl, _⟩ := h
    rfl
  · obtain ⟨v, m, l, rfl, hv, m0, m1, q⟩ := h
    obtain ⟨la, rfl, hla⟩ := dt_lot hv
    refine ⟨_, (pss_cons (ps_set (i := 2) sc__law_blocks.nd rfl (.inl rfl) (pe_lst (pa_cons (pe_tup pa_nil) pa_nil)))  (pss_cons (ps_for PassesOwn.never rfl (pi_range1 (by rfl) B.range_ (pa_cons (pv 0) pa_nil)) (pg_name (i := 3) sc__law_blocks.nd rfl (.inl rfl))   (pss_one (ps_if (pt_cmpR (show OpR _ _ (rIn K false) from op_in_seq) (pv 3) (pv 1) (by rfl))   (pss_one (ps_asg (pe_op (show OpR _ _ (rCatA K) from op_catA) (pe_ix (show IxR _ (rIxL K) from ix_list) (pv 2) (pe_un un_neg pe_int) (fun _ _ => rfl)) (pe_tup (pa_cons (pv 3) pa_nil))) (pg_sub (pv 2) (pe_un un_neg pe_int) set_list)))   (pss_one (ps_expr (pe_bm PySem.F.plainAttrs_list PySem.F.slot_list_append PySem.F.type_list_append mt_append (pv 2) (pa_cons (pe_tup pa_nil) pa_nil)))))))  (pss_one (ps_ret (pe_lc (own := [("_law_one", 4)]) rfl sc__law_blocks.nd (pi_list (pv 2)) (blkOk_by (own := [("_law_one", 4)]) (N := N__law_blocks) (sc := defScope s__law_blocks) (by decide +kernel)) (fun _ _ _ _ _ => (pg_name (i := 4) sc__law_blocks.nd rfl (.inl rfl))) (fun _ _ _ _ _ => pts_one (pt_cmpR (show OpR _ _ (rNeD K) from op_neD hr.units) (pv 4) (pe_tup pa_nil) (nomark _))) (fun _ _ _ _ _ => (pv 4))))))), ?_⟩
    refine q_asgF (K := K) (ds := [lotD []]) (ef_lst (eb_cons (ed_tup eb_nil (by decide)) eb_nil) (by decide)) fun p xs H1 np e1 hp hx => ?_
    refine q_forR1 (n := m) (ea_cons (ev_var rfl) ea_nil) ⟨m0, by omega⟩ (fun i σ' H' => ∃ (xs : List V) (y3 y4 : Option V), σ' = [some (.int m), some (.ref la), some (.ref p), y3, y4] ∧ Ex H H' ∧ H' p = some (.lst xs) ∧ (lbFold m l i) ≠ [] ∧ DtAll K H' xs ((lbFold m l i).map lotD)) (fun H2 e2 => ⟨xs, _, _, rfl, e1.trans e2, e2 p _ hp, List.cons_ne_nil _ _, dta_ex e2 hx⟩) ?_ ?_
    · rintro i σ' H' hi ⟨xs, y3, y4, rfl, e', hp', hne, hx'⟩
      have hsz := lb_sz m l i (by omega)
      have hst := lb_succ (m := m) (l := l) (i := i) (by omega)
      generalize hacc : lbFold m l i = acc at hne hx' hsz hst
      have hxl : xs.length = acc.length := by rw [dta_len hx', List.length_map]
      have hgl : acc.getLast? = some (acc.getLast hne) := List.getLast?_eq_some_getLast hne
      have hsplit : acc = acc.dropLast ++ [acc.getLast hne] := (List.dropLast_concat_getLast hne).symm
      have hbl := hsz.2 _ (List.getLast_mem hne)
      generalize acc.getLast hne = bl at hgl hsplit hbl
      have hx2 := hx'
      rw [hsplit, List.map_append] at hx2
      obtain ⟨xs0, x0, rfl, hx0, hd0⟩ := dta_split hx2
      refine s_if (et_is (et_test (ev_op (ev_var rfl) (ev_var rfl) (rv_isT (ex_t e' hla) rfl (flat_ints l)))) (inV_ints (i : Int) l)) (fun hb H2 e2 => ?_) (fun hb H2 e2 => ?_)
      · refine s_setLast (K := K) (d := lotD (bl ++ [(i : Int)])) (e2 p _ hp') (ed_is (ed_cat (xs := bl.map PyData.int) (ed_ixL (ds := acc.map lotD) (ev_var rfl) (sq_of (e2 p _ hp')) (dta_ex e2 hx') (ev_un ev_c ru_neg) ?_) (ed_tup (eb_cons (ed_int (ev_var rfl)) eb_nil) (by show 1 ≤ 100000; decide)) ?_) ?_) (ev_var rfl) (ev_un ev_c ru_neg) fun v H3 e3 hv3 => ⟨_, _, _, rfl, Ex.mut ((e'.trans e2).trans e3) np, upd_same, ?_, ?_⟩
        · rw [hsplit, List.map_append]
          exact atI_last _ _
        · show (bl.map PyData.int).length + 1 ≤ 100000
          rw [List.length_map]; omega
        · show PyData.tuple (bl.map PyData.int ++ [.int (i : Int)]) = lotD (bl ++ [(i : Int)])
          unfold lotD
          rw [List.map_append]
          rfl
        · rw [hst]
          unfold lbStep
          rw [if_pos hb]
          simp
        · rw [hst]
          unfold lbStep
          rw [if_pos hb, hgl, List.map_append]
          exact dta_tx (tx_lst (e3 p _ (e2 p _ hp'))) (dta_app (dta_ex (e2.trans e3) hx0) (dta_one hv3))
      · refine s_appD (K := K) (d := lotD []) (e2 p _ hp') (ev_var rfl) (ed_tup eb_nil (by decide)) (by rw [hxl]; omega) fun v H3 e3 hv3 => ⟨_, _, _, rfl, Ex.mut ((e'.trans e2).trans e3) np, upd_same, ?_, ?_⟩
        · rw [hst]
          unfold lbStep
          rw [if_neg (by rw [hb]; exact Bool.false_ne_true)]
          simp
        · rw [hst]
          unfold lbStep
          rw [if_neg (by rw [hb]; exact Bool.false_ne_true), List.map_append]
          exact dta_tx (tx_lst (e3 p _ (e2 p _ hp'))) (dta_app (dta_ex (e2.trans e3) hx') (dta_one hv3))
    · rintro σ' H' ⟨xs, y3, y4, rfl, e', hp', hne, hx'⟩
      have hsz := lb_sz m l m.toNat (Nat.le_refl _)
      refine s_retF (K := K) (ds := (lblocksL m l).map lotD) (ef_is (ef_lcL (ds := (lbFold m l m.toNat).map lotD) (fun z => neB (unlot z)) (fun z => z) (ev_var rfl) (sq_of hp') hx' (by rw [List.length_map]; omega) (fun _ => rfl) (fun z v H2 e2 hm hz => ?_) (fun z v H2 e2 hm hz _ => ed_var rfl hz)) (filt_lots fun l => by rw [unlot_lot])) fun r zs H2 nr e2 hr2 hz2 => q r zs H2 (fresh_back e' nr) (e'.trans e2) hr2 hz2
      obtain ⟨b, _, rfl⟩ := mem_lots hm
      rw [unlot_lot]
      refine et_is (et_test (ev_neDD (K := K) (d := lotD b) (e := lotD []) (ed_var rfl hz) (ed_tup eb_nil (by decide)) (lot_shaped b) (lot_shaped []))) ?_
      rw [eqv_lot]
      rfl
theorem ef_lb {σ : L2.St} {H : Hp} {ta tb : TE} {m : Int} {l : List Int} {E : XK} (ha : Ev ta σ H (.int m)) (hb : EvD K tb σ H (lotD l)) (m0 : 0 ≤ m) (m1 : m < 100) : EvF K (tCall (spLB K) [] E (tCons ta (tCons tb tNil))) σ H ((lblocksL m l).map lotD) := fun H1 e Q q =>
  ha H1 e _ fun H2 e2 => hb H2 (e.trans e2) _ fun v H3 e3 hv => ⟨v, m, l, rfl, hv, m0, m1, fun p xs H4 np e4 hp hx => q p xs H4 (fresh_back (e2.trans e3) np) ((e2.trans e3).trans e4) hp hx⟩
theorem ok_law {f f5 f6 f7 f8 f9 f10 P1 P2 : Addr} {fd d5 d6 d7 d8 d9 d10 : FuncData} (D : Df K mg "law" s_law ["_law_script"] f fd) (L : LotD K mg base P1 P2)
    (D__law_box : Df K mg "_law_box" s__law_box ["_law_script", "_law_k"] f5 d5) (D__law_more : Df K mg "_law_more" s__law_more ["_law_box_here"] f6 d6) (D__law_take : Df K mg "_law_take" s__law_take ["_law_box_here", "_law_wide"] f7 d7) (D__law_curve : Df K mg "_law_curve" s__law_curve ["_law_box_here"] f8 d8)
    (D__law_lot : Df K mg "_law_lot" s__law_lot ["_law_box_here", "_law_many"] f9 d9) (D__law_blocks : Df K mg "_law_blocks" s__law_blocks ["_law_many", "_law_lot_here"] f10 d10) : FnOk P w K mg base CX0 9 f fd ["_law_script"] (spLawX K [P1, P2]) := by
  have B := L.B
  obtain ⟨fb, fdb, D_blocks⟩ := L.blocks
  obtain ⟨fo, fdo, D_odd_inner⟩ := L.odd_inner
  have G_blocks : FnOk P w K mg base CX0 8 fb fdb ["curve", "lot"] (spBlocks K P1 P2) := ok_blocks (k := 2) D_blocks L
  have G_odd_inner : FnOk P w K mg base CX0 8 fo fdo ["curve", "lot"] (spOdd K P1 P2) := ok_odd (k := 1) D_odd_inner L
  have G__law_lot : FnOk P w K mg base CX0 3 f9 d9 ["_law_box_here", "_law_many"] (spLot K) := ok_lot D__law_lot D__law_take D__law_more B
  have G__law_blocks : FnOk P w K mg base CX0 1 f10 d10 ["_law_many", "_law_lot_here"] (spLB K) := ok_lb D__law_blocks B
  have G__law_box : FnOk P w K mg base CX0 1 f5 d5 ["_law_script", "_law_k"] (spBox K) := ok_box D__law_box B
  have G__law_curve : FnOk P w K mg base CX0 3 f8 d8 ["_law_box_here"] (spCurve K) := ok_curve D__law_curve D__law_take D__law_more B
  refine D.F.ok sc_law (fun vs H Q E h => ?_) (fun cdv A outer s H vs Q E hr h => ?_)
  · obtain ⟨a, ns, rfl, _⟩ := h
    rfl
  · obtain ⟨a, ns, rfl, hS, hlen, htab, q⟩ := h
    have hT := tbs_of htab
    refine ⟨_, (pss_cons (ps_for PassesOwn.never rfl (pi_range1 (by rfl) B.range_ (pa_cons (pe_callB (call_max2 rfl) (by rfl) B.max_ (by decide +kernel) (pa_cons pe_int (pa_cons (pe_callB (call_min2 rfl) (by rfl) B.min_ (by decide +kernel) (pa_cons (pe_callB (show CallR _ _ (rLenS K) from call_len_seq) (by rfl) B.len_ (by decide +kernel) (pa_cons (pv 0) pa_nil)) (pa_cons pe_int pa_nil))) pa_nil))) pa_nil)) (pg_name (i := 1) sc_law.nd rfl (.inl rfl))   (pss_cons (ps_set (i := 2) sc_law.nd rfl (.inl rfl) (pe_call G__law_box (hr.mono (by omega)) (by rfl) D__law_box.g D__law_box.F.kp D__law_box.b .nil pass0 (pa_cons (pv 0) (pa_cons (pv 1) pa_nil))))  (pss_cons (ps_set (i := 3) sc_law.nd rfl (.inl rfl) (pe_call G__law_curve (hr.mono (by omega)) (by rfl) D__law_curve.g D__law_curve.F.kp D__law_curve.b .nil pass0 (pa_cons (pv 2) pa_nil)))  (pss_cons (ps_set (i := 4) sc_law.nd rfl (.inr rfl) (pe_ix (show IxR _ (rIxT K) from ix_tup) (pv 3) pe_int (fun _ _ => rfl)))  (pss_cons (ps_for PassesOwn.never rfl (pi_list (pe_lst (pa_cons (pe_call G__law_lot (hr.mono (by omega)) (by rfl) D__law_lot.g D__law_lot.F.kp D__law_lot.b .nil pass0 (pa_cons (pv 2) (pa_cons (pv 4) pa_nil))) (pa_cons (pe_call G__law_lot (hr.mono (by omega)) (by rfl) D__law_lot.g D__law_lot.F.kp D__law_lot.b .nil pass0 (pa_cons (pv 2) (pa_cons (pv 4) pa_nil))) (pa_cons (pe_tup pa_nil) (pa_cons (pe_tupRg rfl (by rfl) B.tuple_ (prg_1 (by rfl) B.range_ (pv 4))) (pa_cons (pe_tup (pa_cons pe_int pa_nil)) (pa_cons (pe_tup (pa_cons (pe_op op_sub (pv 4) pe_int) pa_nil)) (pa_cons (pe_tup (pa_cons pe_int (pa_cons (pe_op op_sub (pv 4) pe_int) pa_nil))) pa_nil))))))))) (pg_name (i := 5) sc_law.nd rfl (.inl rfl))   (pss_cons (ps_set (i := 6) sc_law.nd rfl (.inl rfl) (pe_call G__law_blocks (hr.mono (by omega)) (by rfl) D__law_blocks.g D__law_blocks.F.kp D__law_blocks.b .nil pass0 (pa_cons (pv 4) (pa_cons (pv 5) pa_nil))))  (pss_cons (ps_setLc (i := 7) (own := [("_law_one", 8)]) rfl sc_law.nd rfl rfl (sw_true rfl rfl rfl (by decide +kernel)) (pi_list (pv 6)) (blkOk_by (own := [("_law_one", 8)]) (N := N_law) (sc := defScope s_law) (by decide +kernel)) (fun _ _ _ _ _ => (pg_name (i := 8) sc_law.nd rfl (.inl rfl))) (fun _ _ _ _ _ => pts_one (PW.pt (pw_and (pt_cmpR (show OpR _ _ (rIn K true) from op_notIn_seq) pe_int (pv 8) (by rfl)) (pw_and1 (pt_cmpR (show OpR _ _ (rIn K true) from op_notIn_seq) (pe_op op_sub (pv 4) pe_int) (pv 8) (by rfl)))))) (fun _ _ _ _ _ => (pv 8)))  (pss_cons (ps_for PassesOwn.never rfl (pi_range1 (by rfl) B.range_ (pa_cons pe_int pa_nil)) (pg_name (i := 9) sc_law.nd rfl (.inl rfl))   (pss_cons (ps_set (i := 10) sc_law.nd rfl (.inl rfl) (pe_call G_blocks (hr.mono (by omega)) (by rfl) D_blocks.g D_blocks.F.kp D_blocks.b .nil pass0 (pa_cons (pv 3) (pa_cons (pv 5) pa_nil))))  (pss_cons (ps_if (PW.pt (pw_or (pt_not (pt_val (pe_callB (show CallR _ _ (rIsi K) from call_isi) (by rfl) B.isinstance_ (by decide +kernel) (pa_cons (pv 10) (pa_cons (pe_bltn (v := .ty "list") (by rfl) B.list_ (by decide +kernel) rfl) pa_nil))))) (pw_or1 (pt_cmpR (show OpR _ _ (rNeD K) from op_neD hr.units) (pv 10) (pv 6) (nomark _)))))   (pss_one (ps_ret pe_bl))   pss_nil)  (pss_one (ps_expr (pe_bm PySem.F.plainAttrs_list PySem.F.slot_list_append PySem.F.type_list_append mt_append (pv 10) (pa_cons (pe_tup pa_nil) pa_nil)))))))  (pss_cons (ps_set (i := 11) sc_law.nd rfl (.inl rfl) (pe_call G_odd_inner (hr.mono (by omega)) (by rfl) D_odd_inner.g D_odd_inner.F.kp D_odd_inner.b .nil pass0 (pa_cons (pv 3) (pa_cons (pv 5) pa_nil))))  (pss_cons (ps_if (PW.pt (pw_or (pt_not (pt_val (pe_callB (show CallR _ _ (rIsi K) from call_isi) (by rfl) B.isinstance_ (by decide +kernel) (pa_cons (pv 11) (pa_cons (pe_bltn (v := .ty "int") (by rfl) B.int_ (by decide +kernel) rfl) pa_nil))))) (pw_or1 (pt_val (pe_callB (show CallR _ _ (rIsi K) from call_isi) (by rfl) B.isinstance_ (by decide +kernel) (pa_cons (pv 11) (pa_cons (pe_bltn (v := .ty "bool") (by rfl) B.bool_ (by decide +kernel) rfl) pa_nil)))))))   (pss_one (ps_ret pe_bl))   pss_nil)  (pss_one (ps_if (pt_cmpR op_ne (pv 11) (pe_callB (show CallR _ _ (rLenS K) from call_len_seq) (by rfl) B.len_ (by decide +kernel) (pa_cons (pe_lc (own := [("_law_one", 8)]) rfl sc_law.nd (pi_list (pv 7)) (blkOk_by (own := [("_law_one", 8)]) (N := N_law) (sc := defScope s_law) (by decide +kernel)) (fun _ _ _ _ _ => (pg_name (i := 8) sc_law.nd rfl (.inl rfl))) (fun _ _ _ _ _ => pts_one (pt_cmpR op_eq (pe_op op_mod (pe_callB (show CallR _ _ (rLenS K) from call_len_seq) (by rfl) B.len_ (by decide +kernel) (pa_cons (pv 8) pa_nil)) pe_int) pe_int (nomark _))) (fun _ _ _ _ _ => (pv 8))) pa_nil)) (nomark _))   (pss_one (ps_ret pe_bl))   pss_nil))))))))  (pss_cons (ps_par (i := 12) (j := 13) (by rfl) sc_law.nd rfl rfl (by decide) rfl rfl (pa_cons (pe_call G_blocks (hr.mono (by omega)) (by rfl) D_blocks.g D_blocks.F.kp D_blocks.b .nil pass0 (pa_cons (pv 3) (pa_cons (pe_tup (pa_cons pe_int pa_nil)) pa_nil))) (pa_cons (pe_call G_blocks (hr.mono (by omega)) (by rfl) D_blocks.g D_blocks.F.kp D_blocks.b .nil pass0 (pa_cons (pv 3) (pa_cons (pe_tupRg rfl (by rfl) B.tuple_ (prg_1 (by rfl) B.range_ (pv 4))) pa_nil))) pa_nil)) (by rfl))  (pss_one (ps_if (PW.pt (pw_or (pt_cmpR (show OpR _ _ (rNeD K) from op_neD hr.units) (pv 12) (pe_lst (pa_cons (pe_tup (pa_cons pe_int pa_nil)) pa_nil)) (nomark _)) (pw_or1 (pt_cmpR (show OpR _ _ (rNeD K) from op_neD hr.units) (pv 13) (pe_lst (pa_cons (pe_tupRg rfl (by rfl) B.tuple_ (prg_1 (by rfl) B.range_ (pv 4))) pa_nil)) (nomark _)))))   (pss_one (ps_ret pe_bl))   pss_nil))))))))  (pss_one (ps_ret pe_bl))), ?_⟩
    obtain ⟨n, n0, n1, hn⟩ := ev_cells (K := K) (H := H) (σ := L2.start N_law [.ref a]) (ta := tVar 0) (c := 3) (ev_var rfl) hS (by decide)
    refine q_forR1 (n := n) (ea_cons hn ea_nil) ⟨by omega, by omega⟩ (fun i σ' H' => ∃ y1 y2 y3 y4 y5 y6 y7 y8 y9 y10 y11 y12 y13 : Option V, σ' = [some (.ref a), y1, y2, y3, y4, y5, y6, y7, y8, y9, y10, y11, y12, y13] ∧ Ex H H') (fun H2 e3 => ⟨_, _, _, _, _, _, _, _, _, _, _, _, _, rfl, e3⟩) ?_ ?_
    · rintro i σ' Hs hi ⟨y1, y2, y3, y4, y5, y6, y7, y8, y9, y10, y11, y12, y13, rfl, es⟩
      refine q_box (ev_var rfl) (ex_l es hS) (ev_var rfl) (by omega) (by omega) fun b H2 nb e2 hb => ?_
      refine q_curve (K := K) rfl hb fun cv m d H3 hc hcv hb3 x3 => ?_
      have e3 : Ex Hs H3 := ex_bx e2 x3 nb
      obtain ⟨c1, c2, c3, c4⟩ := id hc
      obtain ⟨fs, ff, fb0, fbu⟩ := facts3 (m := m) (by omega) (by omega)
      refine q_asg (v := .int m) (ev_int (K := K) (ed_ixT (ds := [.int m, .int d]) (ed_var rfl hcv) ev_c rfl)) fun H4 e4 => ?_
      have hb4 := hb3.ex e4
      refine q_forG (K := K) (b := b) (p := fun ds => ∀ dd ∈ ds, ∃ l, dd = lotD l ∧ ok3 m l = true) ?_ ?_
      · refine eg_imp (p := fun ds => (∀ dd ∈ ds, ∃ l, dd = lotD l ∧ ok3 m l = true) ∧ ds.length = 7) (eg_lst (ka_imp (ka_cons (ek_lot (K := K) rfl hb4 (ev_var rfl) (by omega) (by omega)) fun H5 x5 hb5 => ka_cons (ek_lot (K := K) rfl hb5 (ev_var rfl) (by omega) (by omega)) fun H6 x6 hb6 => ka_pure (ds := [lotD [], lotD (upTo 0 m), lotD [0], lotD [m - 1], lotD [0, m - 1]]) (eb_cons (ed_tup eb_nil (by decide)) (eb_cons (ed_tupRg (ev_var rfl) (by omega) (by omega)) (eb_cons (ed_tup (eb_cons (ed_int ev_c) eb_nil) (by decide)) (eb_cons (ed_tup (eb_cons (ed_int (ev_op (ev_var rfl) ev_c rv_I0)) eb_nil) (by show 1 ≤ 100000; decide)) (eb_cons (ed_tup (eb_cons (ed_int ev_c) (eb_cons (ed_int (ev_op (ev_var rfl) ev_c rv_I0)) eb_nil)) (by show 2 ≤ 100000; decide)) eb_nil))))) hb6) ?_) (fun ds h => by omega)) (fun ds h => h.1)
        rintro ds hp
        refine ⟨?_, ?_⟩
        · obtain ⟨d1, r1, rfl, ⟨l1, rfl, s1⟩, d2, r2, rfl, ⟨l2, rfl, s2⟩, rfl⟩ := hp
          intro dd hdd
          rcases List.mem_cons.mp hdd with rfl | hdd
          · exact ⟨l1, rfl, fs l1 s1⟩
          rcases List.mem_cons.mp hdd with rfl | hdd
          · exact ⟨l2, rfl, fs l2 s2⟩
          rcases List.mem_cons.mp hdd with rfl | hdd
          · exact ⟨_, rfl, ff _ (by simp [fix3])⟩
          rcases List.mem_cons.mp hdd with rfl | hdd
          · exact ⟨_, rfl, ff _ (by simp [fix3])⟩
          rcases List.mem_cons.mp hdd with rfl | hdd
          · exact ⟨_, rfl, ff _ (by simp [fix3])⟩
          rcases List.mem_cons.mp hdd with rfl | hdd
          · exact ⟨_, rfl, ff _ (by simp [fix3])⟩
          rcases List.mem_cons.mp hdd with rfl | hdd
          · exact ⟨_, rfl, ff _ (by simp [fix3])⟩
          · cases hdd
        · obtain ⟨d1, r1, rfl, _, d2, r2, rfl, _, rfl⟩ := hp
          rfl
      · intro ds H5 hds hb5 x5
        have e5 : Ex Hs H5 := ex_bx (e3.trans e4) x5 nb
        have eH5 := es.trans e5
        have hcv5 : Dt K H5 cv (curveD m d) := dt_tx x5.tx (dt_ex e4 hcv)
        refine ⟨fun _ σ' H' => ∃ y5 y6 y7 y8 y9 y10 y11 y12 y13 : Option V, σ' = [some (.ref a), some (.int (i : Int)), some (.ref b), some cv, some (.int m), y5, y6, y7, y8, y9, y10, y11, y12, y13], ⟨_, _, _, _, _, _, _, _, _, rfl⟩, ?_, ?_⟩
        · rintro t x dx σ' H6 e6 ht hx ⟨y5, y6, y7, y8, y9, y10, y11, y12, y13, rfl⟩
          obtain ⟨l, rfl, hok⟩ := hds dx (List.mem_of_getElem? ht)
          obtain ⟨k1, k2, k3, k4⟩ := ok3_of hok
          have hcv6 := dt_ex e6 hcv5
          have hT6 := hT.ex (eH5.trans e6)
          have hbl := blocks_len l
          refine q_asgF (K := K) (ef_lb (ev_var rfl) (ed_var rfl hx) (by omega) (by omega)) fun p6 xs6 H7 np6 e7 hp6 hx6 => ?_
          refine q_asgF (K := K) (ds := ((lblocksL m l).filter (innB m)).map lotD) (ef_is (ef_lcL (ds := (lblocksL m l).map lotD) (fun z => innB m (unlot z)) (fun z => z) (ev_var rfl) (sq_of hp6) hx6 (by rw [List.length_map, ← k3]; omega) (fun _ => rfl) (fun z v H8 e8 hm hz => ?_) (fun z v H8 e8 hm hz _ => ed_var rfl hz)) (filt_lots fun l => by rw [unlot_lot])) fun p7 xs7 H8 np7 e8 hp7 hx7 => ?_
          · obtain ⟨bk, _, rfl⟩ := mem_lots hm
            rw [unlot_lot]
            obtain ⟨za, rfl, hza⟩ := dt_lot hz
            refine et_is (et_and (et_test (ev_op ev_c (ev_var rfl) (rv_niT hza rfl (flat_ints bk)))) (fun _ => et_test (ev_op (ev_op (ev_var rfl) ev_c rv_I0) (ev_var rfl) (rv_niT hza rfl (flat_ints bk))))) ?_
            rw [inV_ints, inV_ints]
            rfl
          have e68 := e7.trans e8
          refine q_forR1 (n := 2) (ea_cons ev_c ea_nil) (by decide) (fun _ σ' H' => ∃ y8 y9 y10 y11 y12 y13 : Option V, σ' = [some (.ref a), some (.int (i : Int)), some (.ref b), some cv, some (.int m), some x, some (.ref p6), some (.ref p7), y8, y9, y10, y11, y12, y13] ∧ Ex H8 H') (fun H9 e9 => ⟨_, _, _, _, _, _, rfl, e9⟩) ?_ ?_
          · rintro u σ' H9 hu ⟨y8, y9, y10, y11, y12, y13, rfl, e9⟩
            have e69 := e68.trans e9
            refine q_asgF (K := K) (ef_blocks (ed_var rfl (dt_ex e69 hcv6)) (ed_var rfl (dt_ex e69 hx)) hc (hT6.ex e69) k1 (by omega)) fun p10 xs10 H10 np10 e10 hp10 hx10 => ?_
            refine q_when (b := false) (et_is (et_or (et_not (et_B (ev_isi (K := K) (ev_var rfl) ev_c (fun H1 e1 => .base (.lst (e1 p10 _ hp10))) (ty := "list") (b := true) (by decide +kernel)))) (fun _ => et_test (ev_op (ev_var rfl) (ev_var rfl) (rv_neL (sq_of hp10) hx10 (sq_of (e10 _ _ (e9 _ _ (e8 p6 _ hp6)))) (dta_ex ((e8.trans e9).trans e10) hx6) (lots_shaped _) (lots_shaped _))))) ?_) (fun hb => by cases hb) (fun _ H11 e11 => ?_)
            · rw [k3, eqv_lotsL]
              rfl
            exact s_appD (K := K) (d := .tuple []) (e11 p10 _ hp10) (ev_var rfl) (ed_tup eb_nil (by decide)) (by rw [dta_len hx10, List.length_map]; omega) fun v H12 e12 hv => ⟨_, _, _, _, _, _, rfl, e9.trans (Ex.mut ((e10.trans e11).trans e12) np10)⟩
          · rintro σ' H9 ⟨y8, y9, y10, y11, y12, y13, rfl, e9⟩
            have e69 := e68.trans e9
            refine q_asg (v := .int (oddL m l)) (ev_odd (K := K) (ed_var rfl (dt_ex e69 hcv6)) (ed_var rfl (dt_ex e69 hx)) hc (hT6.ex e69) k1 (by omega)) fun H10 e10 => ?_
            refine q_when (b := false) (et_is (et_or (et_not (et_B (ev_isi (K := K) (ev_var rfl) ev_c ty_int (b := true) (by decide +kernel)))) (fun _ => et_B (ev_isi (K := K) (ev_var rfl) ev_c ty_int (b := false) (by decide +kernel)))) rfl) (fun hb => by cases hb) (fun _ H11 e11 => ?_)
            have hil : ((lblocksL m l).filter (innB m)).length ≤ 1000 := Nat.le_trans (List.length_filter_le _ _) (by rw [← k3]; omega)
            refine s_when (b := false) (et_is (et_test (ev_op (ev_var rfl) (ev_lenF (K := K) (ef_is (ef_lcL (ds := ((lblocksL m l).filter (innB m)).map lotD) (fun z => oddB (unlot z)) (fun z => z) (ev_var rfl) (sq_of (e11 _ _ (e10 _ _ (e9 p7 _ hp7)))) (dta_ex ((e9.trans e10).trans e11) hx7) (by rw [List.length_map]; omega) (fun _ => rfl) (fun z v H12 e12 hm hz => ?_) (fun z v H12 e12 hm hz _ => ed_var rfl hz)) (filt_lots fun l => by rw [unlot_lot]))) (rv_ne rfl))) ?_) (fun hb => by cases hb) (fun _ H12 e12 => ⟨e6.trans (((e69.trans e10).trans e11).trans e12), _, _, _, _, _, _, _, _, _, rfl⟩)
            · obtain ⟨bk, _, rfl⟩ := mem_lots hm
              rw [unlot_lot]
              refine et_is (et_test (ev_op (ev_op (ev_lenT (K := K) (ds := bk.map PyData.int) (ed_var rfl hz)) ev_c (rv_I (by show (0 : Int) < 2; decide))) ev_c (rv_eq rfl))) ?_
              rw [dec_int, List.length_map]
              rfl
            · rw [dec_int, k4, List.length_map]
              simp
        · rintro σ' H6 e6 ⟨y5, y6, y7, y8, y9, y10, y11, y12, y13, rfl⟩
          have hcv6 := dt_ex e6 hcv5
          have hT6 := hT.ex (eH5.trans e6)
          have g1 := ok3_of (ff [0] (by simp [fix3]))
          have g2 := ok3_of (ff (upTo 0 m) (by simp [fix3]))
          refine q_parFF (K := K) (ef_blocks (l := [0]) (ed_var rfl hcv6) (ed_tup (eb_cons (ed_int ev_c) eb_nil) (by decide)) hc hT6 g1.1 (by decide)) (fun H7 e7 => ef_blocks (l := upTo 0 m) (ed_var rfl (dt_ex e7 hcv6)) (ed_tupRg (ev_var rfl) (by omega) (by omega)) hc (hT6.ex e7) g2.1 (by have := g2.2.1; omega)) fun p xs r ys H7 e7 hp hx hr' hy => ?_
          rw [fb0] at hx
          rw [fbu] at hy
          refine s_when (b := false) (et_is (et_or (et_test (ev_neLF (K := K) (ev_var rfl) (sq_of hp) hx (ef_lst (ds := [lotD [0]]) (eb_cons (ed_tup (eb_cons (ed_int ev_c) eb_nil) (by decide)) eb_nil) (by decide)) (lots_shaped [[0]]) (lots_shaped [[0]]))) (fun _ => et_test (ev_neLF (K := K) (ev_var rfl) (sq_of hr') hy (ef_lst (ds := [lotD (upTo 0 m)]) (eb_cons (ed_tupRg (ev_var rfl) (by omega) (by omega)) eb_nil) (by show 1 ≤ 100000; decide)) (lots_shaped [upTo 0 m]) (lots_shaped [upTo 0 m])))) ?_) (fun hb => by cases hb) (fun _ H8 e8 => ⟨_, _, _, _, _, _, _, _, _, _, _, _, _, rfl, ((eH5.trans e6).trans e7).trans e8⟩)
          rw [show PyData.eqv (.list ([[0]].map lotD)) (.list [lotD [0]]) = true from eqv_lotsL [[0]], show PyData.eqv (.list ([upTo 0 m].map lotD)) (.list [lotD (upTo 0 m)]) = true from eqv_lotsL [upTo 0 m]]
          rfl
    · rintro σ' H' ⟨y1, y2, y3, y4, y5, y6, y7, y8, y9, y10, y11, y12, y13, rfl, es⟩
      exact s_ret ev_c fun H2 e3 => q H2 (tbs_to (hT.ex (es.trans e3)))
end
theorem all_mk {l : PySem.W.OpenLaw} {w : World} {K : PySem.W.Frag} {h : Heap} {mg : Str → Option Value} {fa f5 f6 f10 f11 f12 f13 f14 f15 f16 f17 f19 f20 f21 f22 f23 f24 f25 cc6 pp6 cc13 pp13 : Addr} (X : K.In h) (G : h.Ns mainGlobals mg) (hfa : mg "law" = some (.ref fa)) (O : ∀ nm ∈ (["is_lot", "is_rising"] : List Str), ∀ f, mg nm = some (.ref f) → LamX.OwnTab K f h)
    {od5 an5 od6 an6 od10 an10 od11 an11 od12 an12 od13 an13 od14 an14 od15 an15 od16 an16 od17 an17 od19 an19 od20 an20 od21 an21 od22 an22 od23 an23 od24 an24 od25 an25 gd6 gd13 : Option Addr} {sl5 sl6 sl10 sl11 sl12 sl13 sl14 sl15 sl16 sl17 sl19 sl20 sl21 sl22 sl23 sl24 sl25 gs6 gs13 : Array (Option Value)} {gv6 gv13 : Array Value} {oc5 kV5 dc5 pm5 cd5 ct5 oc6 kV6 dc6 pm6 ct6 oc10 kV10 dc10 pm10 cd10 ct10 oc11 kV11 dc11 pm11 cd11 ct11 oc12 kV12 dc12 pm12 cd12 ct12 oc13 kV13 dc13 pm13 ct13 oc14 kV14 dc14 pm14 cd14 ct14 oc15 kV15 dc15 pm15 cd15 ct15 oc16 kV16 dc16 pm16 cd16 ct16 oc17 kV17 dc17 pm17 cd17 ct17 oc19 kV19 dc19 pm19 cd19 ct19 oc20 kV20 dc20 pm20 cd20 ct20 oc21 kV21 dc21 pm21 cd21 ct21 oc22 kV22 dc22 pm22 cd22 ct22 oc23 kV23 dc23 pm23 cd23 ct23 oc24 kV24 dc24 pm24 cd24 ct24 oc25 kV25 dc25 pm25 cd25 ct25 ge6 ge13 : Value} {tk_MOST_DEEP tk_MOST_CORNERS : Tok}
    (a5 : PySem.W.nsIn K mainGlobals "is_whole" = some (some (.ref f5))) (l5 : K.lookup f5 = some ⟨oc5, od5, .func (PySem.W.fnOf "is_whole" "is_whole" (defArgs s_is_whole) (defBody s_is_whole) (defScope s_is_whole) .none kV5 dc5 pm5 an5 cd5 ct5), sl5⟩) (c5 : PySem.W.codeIn K cd5 "is_whole" = true) (k5 : PySem.W.keepIn K (.ref f5) = true)
    (a6 : PySem.W.nsIn K mainGlobals "is_rising" = some (some (.ref f6))) (l6 : K.lookup f6 = some ⟨oc6, od6, .func (PySem.W.fnOf "is_rising" "is_rising" (defArgs s_is_rising) (defBody s_is_rising) (defScope s_is_rising) .none kV6 dc6 pm6 an6 (.ref cc6) ct6), sl6⟩) (c6 : PySem.W.codeIn K (.ref cc6) "is_rising" = true) (k6 : PySem.W.keepIn K (.ref f6) = true)
    (lc6 : K.lookup cc6 = some ⟨ge6, gd6, .fields gv6, gs6⟩) (v6 : gv6[11]? = some (.ref pp6)) (hh6 : PySem.W.codeHdIn K cc6 pp6 = true) (np6 : K.lookup pp6 = none)
    (a10 : PySem.W.nsIn K mainGlobals "is_curve" = some (some (.ref f10))) (l10 : K.lookup f10 = some ⟨oc10, od10, .func (PySem.W.fnOf "is_curve" "is_curve" (defArgs s_is_curve) (defBody s_is_curve) (defScope s_is_curve) .none kV10 dc10 pm10 an10 cd10 ct10), sl10⟩) (c10 : PySem.W.codeIn K cd10 "is_curve" = true) (k10 : PySem.W.keepIn K (.ref f10) = true)
    (a11 : PySem.W.nsIn K mainGlobals "need_curve" = some (some (.ref f11))) (l11 : K.lookup f11 = some ⟨oc11, od11, .func (PySem.W.fnOf "need_curve" "need_curve" (defArgs s_need_curve) (defBody s_need_curve) (defScope s_need_curve) .none kV11 dc11 pm11 an11 cd11 ct11), sl11⟩) (c11 : PySem.W.codeIn K cd11 "need_curve" = true) (k11 : PySem.W.keepIn K (.ref f11) = true)
    (a12 : PySem.W.nsIn K mainGlobals "is_corner" = some (some (.ref f12))) (l12 : K.lookup f12 = some ⟨oc12, od12, .func (PySem.W.fnOf "is_corner" "is_corner" (defArgs s_is_corner) (defBody s_is_corner) (defScope s_is_corner) .none kV12 dc12 pm12 an12 cd12 ct12), sl12⟩) (c12 : PySem.W.codeIn K cd12 "is_corner" = true) (k12 : PySem.W.keepIn K (.ref f12) = true)
    (a13 : PySem.W.nsIn K mainGlobals "is_lot" = some (some (.ref f13))) (l13 : K.lookup f13 = some ⟨oc13, od13, .func (PySem.W.fnOf "is_lot" "is_lot" (defArgs s_is_lot) (defBody s_is_lot) (defScope s_is_lot) .none kV13 dc13 pm13 an13 (.ref cc13) ct13), sl13⟩) (c13 : PySem.W.codeIn K (.ref cc13) "is_lot" = true) (k13 : PySem.W.keepIn K (.ref f13) = true)
    (lc13 : K.lookup cc13 = some ⟨ge13, gd13, .fields gv13, gs13⟩) (v13 : gv13[11]? = some (.ref pp13)) (hh13 : PySem.W.codeHdIn K cc13 pp13 = true) (np13 : K.lookup pp13 = none)
    (a14 : PySem.W.nsIn K mainGlobals "need_lot" = some (some (.ref f14))) (l14 : K.lookup f14 = some ⟨oc14, od14, .func (PySem.W.fnOf "need_lot" "need_lot" (defArgs s_need_lot) (defBody s_need_lot) (defScope s_need_lot) .none kV14 dc14 pm14 an14 cd14 ct14), sl14⟩) (c14 : PySem.W.codeIn K cd14 "need_lot" = true) (k14 : PySem.W.keepIn K (.ref f14) = true)
    (a15 : PySem.W.nsIn K mainGlobals "blocks" = some (some (.ref f15))) (l15 : K.lookup f15 = some ⟨oc15, od15, .func (PySem.W.fnOf "blocks" "blocks" (defArgs s_blocks) (defBody s_blocks) (defScope s_blocks) .none kV15 dc15 pm15 an15 cd15 ct15), sl15⟩) (c15 : PySem.W.codeIn K cd15 "blocks" = true) (k15 : PySem.W.keepIn K (.ref f15) = true)
    (a16 : PySem.W.nsIn K mainGlobals "is_inner" = some (some (.ref f16))) (l16 : K.lookup f16 = some ⟨oc16, od16, .func (PySem.W.fnOf "is_inner" "is_inner" (defArgs s_is_inner) (defBody s_is_inner) (defScope s_is_inner) .none kV16 dc16 pm16 an16 cd16 ct16), sl16⟩) (c16 : PySem.W.codeIn K cd16 "is_inner" = true) (k16 : PySem.W.keepIn K (.ref f16) = true)
    (a17 : PySem.W.nsIn K mainGlobals "odd_inner" = some (some (.ref f17))) (l17 : K.lookup f17 = some ⟨oc17, od17, .func (PySem.W.fnOf "odd_inner" "odd_inner" (defArgs s_odd_inner) (defBody s_odd_inner) (defScope s_odd_inner) .none kV17 dc17 pm17 an17 cd17 ct17), sl17⟩) (c17 : PySem.W.codeIn K cd17 "odd_inner" = true) (k17 : PySem.W.keepIn K (.ref f17) = true)
    (a19 : PySem.W.nsIn K mainGlobals "_law_box" = some (some (.ref f19))) (l19 : K.lookup f19 = some ⟨oc19, od19, .func (PySem.W.fnOf "_law_box" "_law_box" (defArgs s__law_box) (defBody s__law_box) (defScope s__law_box) .none kV19 dc19 pm19 an19 cd19 ct19), sl19⟩) (c19 : PySem.W.codeIn K cd19 "_law_box" = true) (k19 : PySem.W.keepIn K (.ref f19) = true)
    (a20 : PySem.W.nsIn K mainGlobals "_law_more" = some (some (.ref f20))) (l20 : K.lookup f20 = some ⟨oc20, od20, .func (PySem.W.fnOf "_law_more" "_law_more" (defArgs s__law_more) (defBody s__law_more) (defScope s__law_more) .none kV20 dc20 pm20 an20 cd20 ct20), sl20⟩) (c20 : PySem.W.codeIn K cd20 "_law_more" = true) (k20 : PySem.W.keepIn K (.ref f20) = true)
    (a21 : PySem.W.nsIn K mainGlobals "_law_take" = some (some (.ref f21))) (l21 : K.lookup f21 = some ⟨oc21, od21, .func (PySem.W.fnOf "_law_take" "_law_take" (defArgs s__law_take) (defBody s__law_take) (defScope s__law_take) .none kV21 dc21 pm21 an21 cd21 ct21), sl21⟩) (c21 : PySem.W.codeIn K cd21 "_law_take" = true) (k21 : PySem.W.keepIn K (.ref f21) = true)
    (a22 : PySem.W.nsIn K mainGlobals "_law_curve" = some (some (.ref f22))) (l22 : K.lookup f22 = some ⟨oc22, od22, .func (PySem.W.fnOf "_law_curve" "_law_curve" (defArgs s__law_curve) (defBody s__law_curve) (defScope s__law_curve) .none kV22 dc22 pm22 an22 cd22 ct22), sl22⟩) (c22 : PySem.W.codeIn K cd22 "_law_curve" = true) (k22 : PySem.W.keepIn K (.ref f22) = true)
    (a23 : PySem.W.nsIn K mainGlobals "_law_lot" = some (some (.ref f23))) (l23 : K.lookup f23 = some ⟨oc23, od23, .func (PySem.W.fnOf "_law_lot" "_law_lot" (defArgs s__law_lot) (defBody s__law_lot) (defScope s__law_lot) .none kV23 dc23 pm23 an23 cd23 ct23), sl23⟩) (c23 : PySem.W.codeIn K cd23 "_law_lot" = true) (k23 : PySem.W.keepIn K (.ref f23) = true)
    (a24 : PySem.W.nsIn K mainGlobals "_law_blocks" = some (some (.ref f24))) (l24 : K.lookup f24 = some ⟨oc24, od24, .func (PySem.W.fnOf "_law_blocks" "_law_blocks" (defArgs s__law_blocks) (defBody s__law_blocks) (defScope s__law_blocks) .none kV24 dc24 pm24 an24 cd24 ct24), sl24⟩) (c24 : PySem.W.codeIn K cd24 "_law_blocks" = true) (k24 : PySem.W.keepIn K (.ref f24) = true)
    (a25 : PySem.W.nsIn K mainGlobals "law" = some (some (.ref f25))) (l25 : K.lookup f25 = some ⟨oc25, od25, .func (PySem.W.fnOf "law" "law" (defArgs s_law) (defBody s_law) (defScope s_law) .none kV25 dc25 pm25 an25 cd25 ct25), sl25⟩) (c25 : PySem.W.codeIn K cd25 "law" = true) (k25 : PySem.W.keepIn K (.ref f25) = true)
    (z_isinstance : PySem.W.nsIn K mainGlobals "isinstance" = some none)    (z_int : PySem.W.nsIn K mainGlobals "int" = some none)    (z_bool : PySem.W.nsIn K mainGlobals "bool" = some none)    (z_all : PySem.W.nsIn K mainGlobals "all" = some none)    (z_zip : PySem.W.nsIn K mainGlobals "zip" = some none)    (z_tuple : PySem.W.nsIn K mainGlobals "tuple" = some none)    (z_len : PySem.W.nsIn K mainGlobals "len" = some none)    (z_range : PySem.W.nsIn K mainGlobals "range" = some none)    (z_abs : PySem.W.nsIn K mainGlobals "abs" = some none)    (z_divmod : PySem.W.nsIn K mainGlobals "divmod" = some none)    (z_max : PySem.W.nsIn K mainGlobals "max" = some none)    (z_min : PySem.W.nsIn K mainGlobals "min" = some none)    (z_list : PySem.W.nsIn K mainGlobals "list" = some none)    (y_MOST_DEEP : PySem.W.nsIn K mainGlobals "MOST_DEEP" = some (some (.int 6 tk_MOST_DEEP)))    (y_MOST_CORNERS : PySem.W.nsIn K mainGlobals "MOST_CORNERS" = some (some (.int 9 tk_MOST_CORNERS))) :
    LamX.LawAtS l w K CX0 9 63 "_law_script" mg fa h := by
  have e := hfa.symm.trans (PySem.W.mg_of X G a25)
  cases e
  have F5 := fun_mk (st := s_is_whole) l5 c5 k5
  have b5 := F5.binds (ps := ["thing"]) fun _ _ _ _ _ _ us hl => match us, hl with | [_], _ => rfl
  have D_is_whole : Df K mg "is_whole" s_is_whole ["thing"] _ _ := ⟨F5, PySem.W.mg_of X G a5, b5⟩
  have F6 := fun_mk (st := s_is_rising) l6 c6 k6
  have b6 := F6.binds (ps := ["things"]) fun _ _ _ _ _ _ us hl => match us, hl with | [_], _ => rfl
  have D_is_rising : Dc K mg "is_rising" s_is_rising ["things"] _ _ cc6 := ⟨F6, PySem.W.mg_of X G a6, b6, ⟨_, _, _, _, _, _, _, _, rfl, l6, c6⟩⟩
  have T_is_rising := cdt_mk X (O "is_rising" (by simp) _ (PySem.W.mg_of X G a6)) l6 rfl lc6 v6 hh6 np6
  have F10 := fun_mk (st := s_is_curve) l10 c10 k10
  have b10 := F10.binds (ps := ["thing"]) fun _ _ _ _ _ _ us hl => match us, hl with | [_], _ => rfl
  have D_is_curve : Df K mg "is_curve" s_is_curve ["thing"] _ _ := ⟨F10, PySem.W.mg_of X G a10, b10⟩
  have F11 := fun_mk (st := s_need_curve) l11 c11 k11
  have b11 := F11.binds (ps := ["curve"]) fun _ _ _ _ _ _ us hl => match us, hl with | [_], _ => rfl
  have D_need_curve : Df K mg "need_curve" s_need_curve ["curve"] _ _ := ⟨F11, PySem.W.mg_of X G a11, b11⟩
  have F12 := fun_mk (st := s_is_corner) l12 c12 k12
  have b12 := F12.binds (ps := ["thing", "many"]) fun _ _ _ _ _ _ us hl => match us, hl with | [_, _], _ => rfl
  have D_is_corner : Df K mg "is_corner" s_is_corner ["thing", "many"] _ _ := ⟨F12, PySem.W.mg_of X G a12, b12⟩
  have F13 := fun_mk (st := s_is_lot) l13 c13 k13
  have b13 := F13.binds (ps := ["thing", "curve"]) fun _ _ _ _ _ _ us hl => match us, hl with | [_, _], _ => rfl
  have D_is_lot : Dc K mg "is_lot" s_is_lot ["thing", "curve"] _ _ cc13 := ⟨F13, PySem.W.mg_of X G a13, b13, ⟨_, _, _, _, _, _, _, _, rfl, l13, c13⟩⟩
  have T_is_lot := cdt_mk X (O "is_lot" (by simp) _ (PySem.W.mg_of X G a13)) l13 rfl lc13 v13 hh13 np13
  have F14 := fun_mk (st := s_need_lot) l14 c14 k14
  have b14 := F14.binds (ps := ["curve", "lot"]) fun _ _ _ _ _ _ us hl => match us, hl with | [_, _], _ => rfl
  have D_need_lot : Df K mg "need_lot" s_need_lot ["curve", "lot"] _ _ := ⟨F14, PySem.W.mg_of X G a14, b14⟩
  have F15 := fun_mk (st := s_blocks) l15 c15 k15
  have b15 := F15.binds (ps := ["curve", "lot"]) fun _ _ _ _ _ _ us hl => match us, hl with | [_, _], _ => rfl
  have D_blocks : Df K mg "blocks" s_blocks ["curve", "lot"] _ _ := ⟨F15, PySem.W.mg_of X G a15, b15⟩
  have F16 := fun_mk (st := s_is_inner) l16 c16 k16
  have b16 := F16.binds (ps := ["block", "many"]) fun _ _ _ _ _ _ us hl => match us, hl with | [_, _], _ => rfl
  have D_is_inner : Df K mg "is_inner" s_is_inner ["block", "many"] _ _ := ⟨F16, PySem.W.mg_of X G a16, b16⟩
  have F17 := fun_mk (st := s_odd_inner) l17 c17 k17
  have b17 := F17.binds (ps := ["curve", "lot"]) fun _ _ _ _ _ _ us hl => match us, hl with | [_, _], _ => rfl
  have D_odd_inner : Df K mg "odd_inner" s_odd_inner ["curve", "lot"] _ _ := ⟨F17, PySem.W.mg_of X G a17, b17⟩
  have F19 := fun_mk (st := s__law_box) l19 c19 k19
  have b19 := F19.binds (ps := ["_law_script", "_law_k"]) fun _ _ _ _ _ _ us hl => match us, hl with | [_, _], _ => rfl
  have D__law_box : Df K mg "_law_box" s__law_box ["_law_script", "_law_k"] _ _ := ⟨F19, PySem.W.mg_of X G a19, b19⟩
  have F20 := fun_mk (st := s__law_more) l20 c20 k20
  have b20 := F20.binds (ps := ["_law_box_here"]) fun _ _ _ _ _ _ us hl => match us, hl with | [_], _ => rfl
  have D__law_more : Df K mg "_law_more" s__law_more ["_law_box_here"] _ _ := ⟨F20, PySem.W.mg_of X G a20, b20⟩
  have F21 := fun_mk (st := s__law_take) l21 c21 k21
  have b21 := F21.binds (ps := ["_law_box_here", "_law_wide"]) fun _ _ _ _ _ _ us hl => match us, hl with | [_, _], _ => rfl
  have D__law_take : Df K mg "_law_take" s__law_take ["_law_box_here", "_law_wide"] _ _ := ⟨F21, PySem.W.mg_of X G a21, b21⟩
  have F22 := fun_mk (st := s__law_curve) l22 c22 k22
  have b22 := F22.binds (ps := ["_law_box_here"]) fun _ _ _ _ _ _ us hl => match us, hl with | [_], _ => rfl
  have D__law_curve : Df K mg "_law_curve" s__law_curve ["_law_box_here"] _ _ := ⟨F22, PySem.W.mg_of X G a22, b22⟩
  have F23 := fun_mk (st := s__law_lot) l23 c23 k23
  have b23 := F23.binds (ps := ["_law_box_here", "_law_many"]) fun _ _ _ _ _ _ us hl => match us, hl with | [_, _], _ => rfl
  have D__law_lot : Df K mg "_law_lot" s__law_lot ["_law_box_here", "_law_many"] _ _ := ⟨F23, PySem.W.mg_of X G a23, b23⟩
  have F24 := fun_mk (st := s__law_blocks) l24 c24 k24
  have b24 := F24.binds (ps := ["_law_many", "_law_lot_here"]) fun _ _ _ _ _ _ us hl => match us, hl with | [_, _], _ => rfl
  have D__law_blocks : Df K mg "_law_blocks" s__law_blocks ["_law_many", "_law_lot_here"] _ _ := ⟨F24, PySem.W.mg_of X G a24, b24⟩
  have F25 := fun_mk (st := s_law) l25 c25 k25
  have b25 := F25.binds (ps := ["_law_script"]) fun _ _ _ _ _ _ us hl => match us, hl with | [_], _ => rfl
  have D_law : Df K mg "law" s_law ["_law_script"] _ _ := ⟨F25, PySem.W.mg_of X G a25, b25⟩
  have B : Bt mg := ⟨PySem.W.mg_none_of X G z_isinstance, PySem.W.mg_none_of X G z_int, PySem.W.mg_none_of X G z_bool, PySem.W.mg_none_of X G z_all, PySem.W.mg_none_of X G z_zip, PySem.W.mg_none_of X G z_tuple, PySem.W.mg_none_of X G z_len, PySem.W.mg_none_of X G z_range, PySem.W.mg_none_of X G z_abs, PySem.W.mg_none_of X G z_divmod, PySem.W.mg_none_of X G z_max, PySem.W.mg_none_of X G z_min, PySem.W.mg_none_of X G z_list⟩
  have c_MOST_DEEP := PySem.W.mg_of X G y_MOST_DEEP
  have c_MOST_CORNERS := PySem.W.mg_of X G y_MOST_CORNERS
  refine law_at2 (fd := PySem.W.fnOf "law" "law" (defArgs s_law) (defBody s_law) (defScope s_law) .none kV25 dc25 pm25 an25 cd25 ct25) T_is_lot T_is_rising (fun s v => .of_eq rfl) fun base _ _ TB1 TB2 => ?_
  exact ok_law D_law ⟨B, ⟨_, _, D_is_whole⟩, ⟨_, _, _, D_is_rising, TB2⟩, ⟨_, _, D_is_curve⟩, ⟨_, _, D_need_curve⟩, ⟨_, _, D_is_corner⟩, ⟨_, _, _, D_is_lot, TB1⟩, ⟨_, _, D_need_lot⟩, ⟨_, _, D_blocks⟩, ⟨_, _, D_is_inner⟩, ⟨_, _, D_odd_inner⟩, ⟨_, c_MOST_DEEP⟩, ⟨_, c_MOST_CORNERS⟩⟩ D__law_box D__law_more D__law_take D__law_curve D__law_lot D__law_blocks
end CF
open PySem PySem.W PyProof.Rows
set_option maxHeartbeats 0 in
theorem PySem.Challenge.cw_curvefaces_k03_blocks_holds : PySem.Challenge.rw_curvefaces_k03_blocks.Holds := by
  w_on; o_law; k_head; (case hw => w_witness2)
  k_fill
  refine CF.walk_gens (l := PySem.Challenge.rw_curvefaces_k03_blocks) (n := 63) (k := 9) (x := "_law_script") ["is_lot", "is_rising"] rfl (by decide) rfl ⟨rfl, by decide, by decide⟩ (by decide +kernel) (fun w h Y => PySem.W.kIn_of Y) ?F
  case F =>
    intro w mg fa h KX G hmg O
    refine' CF.all_mk KX G hmg O ?a5 ?l5 ?c5 ?k5 ?a6 ?l6 ?c6 ?k6 ?lc6 ?v6 ?hh6 ?np6 ?a10 ?l10 ?c10 ?k10 ?a11 ?l11 ?c11 ?k11 ?a12 ?l12 ?c12 ?k12 ?a13 ?l13 ?c13 ?k13 ?lc13 ?v13 ?hh13 ?np13 ?a14 ?l14 ?c14 ?k14 ?a15 ?l15 ?c15 ?k15 ?a16 ?l16 ?c16 ?k16 ?a17 ?l17 ?c17 ?k17 ?a19 ?l19 ?c19 ?k19 ?a20 ?l20 ?c20 ?k20 ?a21 ?l21 ?c21 ?k21 ?a22 ?l22 ?c22 ?k22 ?a23 ?l23 ?c23 ?k23 ?a24 ?l24 ?c24 ?k24 ?a25 ?l25 ?c25 ?k25 ?z_isinstance ?z_int ?z_bool ?z_all ?z_zip ?z_tuple ?z_len ?z_range ?z_abs ?z_divmod ?z_max ?z_min ?z_list ?y_MOST_DEEP ?y_MOST_CORNERS
    (case a5 => k_is)
    (case l5 => k_is)
    (case c5 => k_is)
    (case k5 => k_is)
    (case a6 => k_is)
    (case l6 => k_is)
    (case c6 => k_is)
    (case k6 => k_is)
    (case lc6 => k_is)
    (case v6 => first | rfl | k_is)
    (case hh6 => first | k_is | rfl | decide +kernel)
    (case np6 => first | k_is | rfl | decide +kernel)
    (case a10 => k_is)
    (case l10 => k_is)
    (case c10 => k_is)
    (case k10 => k_is)
    (case a11 => k_is)
    (case l11 => k_is)
    (case c11 => k_is)
    (case k11 => k_is)
    (case a12 => k_is)
    (case l12 => k_is)
    (case c12 => k_is)
    (case k12 => k_is)
    (case a13 => k_is)
    (case l13 => k_is)
    (case c13 => k_is)
    (case k13 => k_is)
    (case lc13 => k_is)
    (case v13 => first | rfl | k_is)
    (case hh13 => first | k_is | rfl | decide +kernel)
    (case np13 => first | k_is | rfl | decide +kernel)
    (case a14 => k_is)
    (case l14 => k_is)
    (case c14 => k_is)
    (case k14 => k_is)
    (case a15 => k_is)
    (case l15 => k_is)
    (case c15 => k_is)
    (case k15 => k_is)
    (case a16 => k_is)
    (case l16 => k_is)
    (case c16 => k_is)
    (case k16 => k_is)
    (case a17 => k_is)
    (case l17 => k_is)
    (case c17 => k_is)
    (case k17 => k_is)
    (case a19 => k_is)
    (case l19 => k_is)
    (case c19 => k_is)
    (case k19 => k_is)
    (case a20 => k_is)
    (case l20 => k_is)
    (case c20 => k_is)
    (case k20 => k_is)
    (case a21 => k_is)
    (case l21 => k_is)
    (case c21 => k_is)
    (case k21 => k_is)
    (case a22 => k_is)
    (case l22 => k_is)
    (case c22 => k_is)
    (case k22 => k_is)
    (case a23 => k_is)
    (case l23 => k_is)
    (case c23 => k_is)
    (case k23 => k_is)
    (case a24 => k_is)
    (case l24 => k_is)
    (case c24 => k_is)
    (case k24 => k_is)
    (case a25 => k_is)
    (case l25 => k_is)
    (case c25 => k_is)
    (case k25 => k_is)
    (case z_isinstance => k_is)
    (case z_int => k_is)
    (case z_bool => k_is)
    (case z_all => k_is)
    (case z_zip => k_is)
    (case z_tuple => k_is)
    (case z_len => k_is)
    (case z_range => k_is)
    (case z_abs => k_is)
    (case z_divmod => k_is)
    (case z_max => k_is)
    (case z_min => k_is)
    (case z_list => k_is)
    (case y_MOST_DEEP => k_is)
    (case y_MOST_CORNERS => k_is)
