import PyProof.Rows.All
import Wide.All
import OpenK.AllK
import Wide.FinOn
import HandS.ForMost
import HandS.IsInst
import HandS.Evl
import HandS.Defaults
import HandS.TupAny
import HandS.Deep
import KE.LtData
import KE.GoesMore
import KE.SortData
import HandS.TupSets
import HandS.SetKeys
import HandS.SetBool
import HandS.RepeatKit
import HandS.DictComp
import KE.KDictCopyH
import HandS.Conv
import HandS.Exc
import HandS.ExcField
import HandS.ExcIs
import HandS.Small
import HandS.ExcInit
import HandS.WordsExc
import PySem.Challenge.RW_saidground_k23_doors_of_a_hand
import HandS.WideBits
import HandS.Wide
import HandS.More
import HandS.Star
import KE.DataAny
import HandS.Zip
import HandS.TupLen
import HandS.TryOnly
set_option Elab.async false
set_option linter.all false
section
set_option maxRecDepth 100000
set_option maxHeartbeats 4000000
/-! Words over the layer: a module's own def by its name, isinstance of data, comprehensions over texts and tuples. -/
namespace Sg
open PySem PySem.Spec PyProof.Rows L2 Evl

/-! ### an own def by its name -/
/-- the module's name x holds a def that keeps the promise sp, at level k; dvs: the values of the parameters that a call leaves out -/
def Okd (P : Program) (w : World) (K : PySem.W.Frag) (mg : Str → Option Value) (base : Heap) (CX : CXT) (k : Nat) (x : Str) (ps : List Str) (dvs : List V) (sp : Sp) : Prop :=
  ∃ (f : Addr) (fd : FuncData) (ds : List Value), mg x = some (.ref f) ∧ PySem.W.keepIn K (.ref f) = true ∧ Binds K fd ps ds ∧ Vals dvs ds ∧ FnOk P w K mg base CX k f fd ps sp

theorem Okd.mono {P : Program} {w : World} {K : PySem.W.Frag} {mg : Str → Option Value} {base : Heap} {CX : CXT} {j k : Nat} {x : Str} {ps : List Str} {dvs : List V} {sp : Sp} (F : Okd P w K mg base CX j x ps dvs sp) (h : j ≤ k) : Okd P w K mg base CX k x ps dvs sp := by
  obtain ⟨f, fd, ds, a, b, c, d, e⟩ := F
  exact ⟨f, fd, ds, a, b, c, d, e.mono h⟩

section
variable {X : Cx} {CX : CXT} {k : Nat} {ps : List Str} {sp : Sp} {dvs : List V} {E : XK} {x : Str} {p pos : Pos} {e : Expr} {es : List Expr} {t : TA}
theorem pe_own (F : Okd X.prog X.w X.K X.mg X.base CX k x ps dvs sp) (hr : Room k X.A) (ha : PA X (e :: es) t) (hx : Passes CX X E) (hg : Gl X x := by rfl) (hdb : (x == ("__debug__" : Str)) = false := by decide)
    (he : starEach (e :: es) X.env = (false, eval e X.env) :: starEach es X.env := by rfl) (hpl : (backTo pos (starEach es X.env)).any (·.1) = false := by rfl) :
    PE X (.Call (.Name x p) (e :: es) [] pos) (tCall sp dvs E t) := by
  obtain ⟨f, fd, ds, a, b, c, d, g⟩ := F
  exact pe_call g hr hg a b c d hx ha hdb he hpl
/-- a constant of the module -/
theorem pe_cst {v : V} (h : ∃ u, X.mg x = some u ∧ RelV v u) (hg : Gl X x := by rfl) (hdb : (x == ("__debug__" : Str)) = false := by decide) : PE X (.Name x pos) (tC v) := by
  obtain ⟨u, h1, h2⟩ := h
  exact pe_glob hg h1 h2 hdb
end

/-! ### what a value is, by data -/
/-- the built-in class that data is of -/
def tyD : PyData → String
  | .none => "NoneType"
  | .bool _ => "bool"
  | .int _ => "int"
  | .str _ => "str"
  | .list _ => "list"
  | .tuple _ => "tuple"
  | .dict _ => "dict"
theorem tyx_D {K : PySem.W.Frag} {H : Hp} {v : V} {d : PyData} (h : Dp K H v d) : TyX K H v (.type (tyD d)) := by
  cases h with
  | non => exact .base .non
  | bl b => exact .base (.bl b)
  | int i => exact .base (.int i)
  | str x => exact .base (.str x)
  | lst hs _ =>
    rcases hs with (hs | ⟨o, hs⟩) | ⟨o, its, n, lk, hc, _⟩
    · exact .base (.lst hs)
    · exact .base (.frz hs)
    · exact .kList lk hc
  | tup hs _ =>
    rcases hs with (hs | ⟨o, hs⟩) | ⟨o, its, n, lk, hc, _⟩
    · exact .base (.tup hs)
    · exact .fTuple hs
    · exact .kTuple lk hc
mutual
theorem dp_ex {K : PySem.W.Frag} {H H' : Hp} (e : Ex H H') : ∀ (d : PyData) (v : V), Dp K H v d → Dp K H' v d
  | .none, _, h => by cases h; exact .non
  | .bool b, _, h => by cases h; exact .bl b
  | .int i, _, h => by cases h; exact .int i
  | .str s, _, h => by cases h; exact .str s
  | .list ds, _, h => by
    cases h with
    | lst hs ha => exact .lst (ex_l e hs) (dpAll_ex e ds _ ha)
  | .tuple ds, _, h => by
    cases h with
    | tup hs ha => exact .tup (ex_t e hs) (dpAll_ex e ds _ ha)
  | .dict _, _, h => by cases h
theorem dpAll_ex {K : PySem.W.Frag} {H H' : Hp} (e : Ex H H') : ∀ (ds : List PyData) (vs : List V), DpAll K H vs ds → DpAll K H' vs ds
  | [], _, h => by cases h; exact .nil
  | d :: ds, _, h => by
    cases h with
    | cons h1 h2 => exact .cons (dp_ex e d _ h1) (dpAll_ex e ds _ h2)
end
theorem dpAll_len {K : PySem.W.Frag} {H : Hp} : ∀ {ds : List PyData} {vs : List V}, DpAll K H vs ds → vs.length = ds.length
  | [], _, h => by cases h; rfl
  | d :: ds, _, h => by
    cases h with
    | cons h1 h2 => exact congrArg Nat.succ (dpAll_len h2)
theorem dpAll_get {K : PySem.W.Frag} {H : Hp} : ∀ {ds : List PyData} {vs : List V} {i : Nat} {v : V}, DpAll K H vs ds → vs[i]? = some v → ∃ d, ds[i]? = some d ∧ Dp K H v d
  | [], _, _, _, h, e => by cases h; simp at e
  | d :: ds, _, 0, _, h, e => by
    cases h with
    | cons h1 h2 =>
      simp at e
      subst e
      exact ⟨d, rfl, h1⟩
  | d :: ds, _, i + 1, _, h, e => by
    cases h with
    | cons h1 h2 =>
      obtain ⟨d', e1, e2⟩ := dpAll_get (i := i) h2 (by simpa using e)
      exact ⟨d', by simpa using e1, e2⟩
theorem dpAll_get' {K : PySem.W.Frag} {H : Hp} : ∀ {ds : List PyData} {vs : List V} {i : Nat} {d : PyData}, DpAll K H vs ds → ds[i]? = some d → ∃ v, vs[i]? = some v ∧ Dp K H v d
  | [], _, _, _, h, e => by simp at e
  | d :: ds, _, 0, _, h, e => by
    cases h with
    | cons h1 h2 =>
      simp at e
      subst e
      exact ⟨_, rfl, h1⟩
  | d :: ds, _, i + 1, _, h, e => by
    cases h with
    | cons h1 h2 =>
      obtain ⟨v', e1, e2⟩ := dpAll_get' (i := i) h2 (by simpa using e)
      exact ⟨v', by simpa using e1, e2⟩

/-! ### evaluation: isinstance, chains -/
section
variable {K : PySem.W.Frag} {σ : L2.St} {H : Hp} {ta tb tc te : TE} {x y z v : V}
/-- isinstance(x, T) of data -/
theorem ev_isi {d : PyData} {n : String} {b : Bool} (h : Ev ta σ H v) (hd : Dp K H v d) (hb : kitB (tyD d) n = some b) : Ev (tCB (rIsi K) (tCons ta (tCons (tC (.ty n)) tNil))) σ H (.bl b) := fun H1 e Q q =>
  h H1 e _ fun H2 e2 => ⟨v, .ty n, _, _, b, rfl, .ty n, tyx_D (dp_ex (e.trans e2) d v hd), kit_ty hb, q H2 e2⟩
theorem et_chain {r r' : R2} {b c : Bool} (ha : Ev ta σ H x) (hb : Ev tb σ H y) (hr : RV r x y H (.bl b)) (hc : b = true → Ev tc σ H z) (hr' : b = true → RV r' y z H (.bl c)) : EvT (tTest (tChain r r' ta tb tc)) σ H (b && c) := fun H1 e Q q =>
  ha H1 e _ fun H2 e2 => hb H2 (e.trans e2) _ fun H3 e3 => hr H3 ((e.trans e2).trans e3) _ fun H4 e4 => ⟨b, rfl, by
    cases b with
    | false => exact ⟨false, rfl, q H4 ((e2.trans e3).trans e4)⟩
    | true => exact hc rfl H4 (((e.trans e2).trans e3).trans e4) _ fun H5 e5 => hr' rfl H5 ((((e.trans e2).trans e3).trans e4).trans e5) _ fun H6 e6 => ⟨c, rfl, q H6 ((((e2.trans e3).trans e4).trans e5).trans e6)⟩⟩
theorem ev_chain {r r' : R2} {b c : Bool} (ha : Ev ta σ H x) (hb : Ev tb σ H y) (hr : RV r x y H (.bl b)) (hc : b = true → Ev tc σ H z) (hr' : b = true → RV r' y z H (.bl c)) : Ev (tChain r r' ta tb tc) σ H (.bl (b && c)) := fun H1 e Q q =>
  ha H1 e _ fun H2 e2 => hb H2 (e.trans e2) _ fun H3 e3 => hr H3 ((e.trans e2).trans e3) _ fun H4 e4 => ⟨b, rfl, by
    cases b with
    | false => exact q H4 ((e2.trans e3).trans e4)
    | true => exact hc rfl H4 (((e.trans e2).trans e3).trans e4) _ fun H5 e5 => hr' rfl H5 ((((e.trans e2).trans e3).trans e4).trans e5) _ fun H6 e6 => q H6 ((((e2.trans e3).trans e4).trans e5).trans e6)⟩
/-- len by LenV -/
def rLenG (K : PySem.W.Frag) : List V → Hp → VK → Prop := fun xs H Q => ∃ (x : V) (n : Nat), xs = [x] ∧ LenV K x H n ∧ Q (.int n) H
theorem ev_lenG {n : Nat} (h : Ev ta σ H v) (hl : ∀ H1, Ex H H1 → LenV K v H1 n) : Ev (tCB (rLenG K) (tCons ta tNil)) σ H (.int n) := fun H1 e Q q =>
  h H1 e _ fun H2 e2 => ⟨v, n, rfl, hl H2 (e.trans e2), q H2 e2⟩
/-- all(a new list of truths), any(..) -/
theorem ev_allL {bs : List Bool} (h : EvL te σ H (bs.map V.bl)) : Ev (tCB (rAll K) (tCons te tNil)) σ H (.bl (bs.all id)) := fun H1 e Q q =>
  h H1 e _ fun p H2 _ e2 hp => ⟨p, bs, rfl, sq_of hp, q H2 e2⟩
theorem ev_anyL {bs : List Bool} (h : EvL te σ H (bs.map V.bl)) : Ev (tCB (rAny K) (tCons te tNil)) σ H (.bl (bs.any id)) := fun H1 e Q q =>
  h H1 e _ fun p H2 _ e2 hp => ⟨p, bs, rfl, sq_of hp, q H2 e2⟩
end

/-! ### comprehensions: what they give, by a list of data beside -/
theorem given_filter {β : Type} (ys : List β) (p : β → Bool) (g : β → V) : given ys.length (fun i => (ys[i]?.map p).getD false) (fun i => (ys[i]?.map g).getD .non) = (ys.filter p).map g := by
  have all : ∀ n, n ≤ ys.length → given n (fun i => (ys[i]?.map p).getD false) (fun i => (ys[i]?.map g).getD .non) = ((ys.take n).filter p).map g := by
    intro n
    induction n with
    | zero => intro _; rfl
    | succ n ih =>
      intro hn
      have hi : n < ys.length := by omega
      have e : ys[n]? = some ys[n] := List.getElem?_eq_getElem hi
      rw [List.take_succ, e, List.filter_append, List.map_append, ← ih (by omega)]
      cases hp : p ys[n] with
      | true =>
        rw [given_yes (by rw [e]; exact hp)]
        rw [e]
        simp [hp]
      | false =>
        rw [given_no (by rw [e]; exact hp)]
        simp [hp]
  have h := all ys.length (Nat.le_refl _)
  rw [List.take_length] at h
  exact h
theorem given_map {β : Type} (ys : List β) (g : β → V) : given ys.length (fun _ => true) (fun i => (ys[i]?.map g).getD .non) = ys.map g := by
  have h := given_filter ys (fun _ => true) g
  rw [List.filter_eq_self.mpr (fun _ _ => rfl)] at h
  rw [← h]
  unfold given
  congr 1
  refine List.filter_congr fun i hi => ?_
  rw [List.getElem?_eq_getElem (List.mem_range.mp hi)]
  rfl
section
variable {K : PySem.W.Frag} {σ : L2.St} {H : Hp} {ta tb tc te : TE} {x y z v : V} {t : TT}
theorem et_yes : EvT tYes σ H true := fun H1 _ _ q => q H1 (Ex.refl H1)
/-- what a comprehension walks: n items, told one by one, the heap staying as it is -/
structure Fix (J : It) (H : Hp) (n : Nat) (P : Nat → V → Prop) : Prop where
  go : ∀ H1, Ex H H1 → ∀ i, i < n → J.go i H1
  yld : ∀ H1, Ex H H1 → ∀ i x H2, i < n → J.yld i H1 x H2 → H2 = H1 ∧ P i x
  stop : ∀ H1, Ex H H1 → ∀ i, n ≤ i → J.stop i H1
theorem fix_str {s : Str} : Fix (Its s) H s.cps.toList.length (fun i x => ∃ c, s.cps.toList[i]? = some c ∧ x = .str ⟨#[c]⟩) := by
  rw [Array.length_toList]
  refine ⟨fun _ _ _ h => h, fun _ _ _ _ _ _ h => ⟨h.1, ?_⟩, fun _ _ _ h => h⟩
  obtain ⟨c, e, q⟩ := h.2
  exact ⟨c, by rw [Array.getElem?_toList]; exact e, q⟩
theorem fix_tup {a : Addr} {xs : List V} (h : SqT K H a xs) : Fix (Itt K a) H xs.length (fun i x => xs[i]? = some x) :=
  ⟨fun _ e i hi => ⟨xs, xs[i], ex_t e h, List.getElem?_eq_getElem hi⟩, fun _ e _ _ _ _ q => ⟨q.1, q.2 xs (ex_t e h)⟩, fun _ e _ hi => ⟨xs, ex_t e h, hi⟩⟩
theorem fix_lst {a : Addr} {xs : List V} (h : SqL K H a xs) : Fix (Itl K a) H xs.length (fun i x => xs[i]? = some x) :=
  ⟨fun _ e i hi => ⟨xs, xs[i], ex_l e h, List.getElem?_eq_getElem hi⟩, fun _ e _ _ _ _ q => ⟨q.1, q.2 xs (ex_l e h)⟩, fun _ e _ hi => ⟨xs, ex_l e h, hi⟩⟩
theorem fix_rng {lo : Int} {n : Nat} : Fix (Itr lo n) H n (fun i x => x = .int (lo + i)) := ⟨fun _ _ _ h => h, fun _ _ _ _ _ _ h => h, fun _ _ _ h => h⟩
/-- a comprehension over such, the target of any form: gt tells the slots behind it -/
theorem el_fix {wi : TI} {g : TG} {vs : List Nat} {n : Nat} {P : Nat → V → Prop} (f : Nat → Bool) (v : Nat → V) (hz : n ≤ 40000)
    (hwi : ∀ H1, Ex H H1 → ∀ R : It → Hp → Prop, (∀ J H2, Ex H1 H2 → Fix J H2 n P → R J H2) → wi σ H1 R)
    (hg : ∀ (i : Nat) (x : V) H1, Ex H H1 → i < n → P i x → ∃ σ2 : L2.St, wipe σ2 vs = wipe σ vs ∧ (∀ H2, Ex H1 H2 → ∀ R : L2.St → Hp → Prop, R σ2 H2 → g x (wipe σ vs) H2 R) ∧ EvT t σ2 H1 (f i) ∧ (f i = true → Ev te σ2 H1 (v i))) :
    EvL (tLc wi g t te vs) σ H (given n f v) := fun H0 e Q q => hwi H0 e _ fun J H1 e1 F Dl hD => by
  refine ⟨fun i m H' => m = n - i ∧ i ≤ n ∧ Cw H1 f v Dl i H', ⟨n, by simp, Nat.zero_le _, hD, Ex.new hD, upd_same⟩, ?_⟩
  rintro i m H' ⟨rfl, hi, p⟩
  by_cases hlt : i < n
  · refine .inr ⟨F.go H' p.2.1 i hlt, Cw H1 f v Dl (i + 1), fun H2 p' => ⟨n - (i + 1), by omega, rfl, hlt, p'⟩, fun x H2 y => ?_⟩
    obtain ⟨rfl, px⟩ := F.yld H' p.2.1 i x H2 hlt y
    obtain ⟨σ2, w2, gg, ht, he⟩ := hg i x H1 (e.trans e1) hlt px
    exact gg _ p.2.1 _ ⟨w2, cw_turn p (by omega) ht he⟩
  · have e : i = n := by omega
    subst e
    exact .inl ⟨F.stop H' p.2.1 i (Nat.le_refl _), q Dl H' (fresh_back e1 p.1) (e1.trans p.2.1) p.2.2⟩
/-- .. told by data beside: ys, a filter p, values g -/
theorem el_fixY {β : Type} {wi : TI} {g : TG} {vs : List Nat} {P : Nat → V → Prop} (ys : List β) (pf : β → Bool) (gf : β → V) (hz : ys.length ≤ 40000)
    (hwi : ∀ H1, Ex H H1 → ∀ R : It → Hp → Prop, (∀ J H2, Ex H1 H2 → Fix J H2 ys.length P → R J H2) → wi σ H1 R)
    (hg : ∀ (i : Nat) (x : V) (y : β) H1, Ex H H1 → ys[i]? = some y → P i x → ∃ σ2 : L2.St, wipe σ2 vs = wipe σ vs ∧ (∀ H2, Ex H1 H2 → ∀ R : L2.St → Hp → Prop, R σ2 H2 → g x (wipe σ vs) H2 R) ∧ EvT t σ2 H1 (pf y) ∧ (pf y = true → Ev te σ2 H1 (gf y))) :
    EvL (tLc wi g t te vs) σ H ((ys.filter pf).map gf) := by
  rw [← given_filter]
  refine el_fix _ _ hz hwi fun i x H1 e hi px => ?_
  have ey : ys[i]? = some ys[i] := List.getElem?_eq_getElem hi
  rw [ey]
  exact hg i x ys[i] H1 e ey px
/-- .. without a filter -/
theorem el_mapY {β : Type} {wi : TI} {g : TG} {vs : List Nat} {P : Nat → V → Prop} (ys : List β) (gf : β → V) (hz : ys.length ≤ 40000)
    (hwi : ∀ H1, Ex H H1 → ∀ R : It → Hp → Prop, (∀ J H2, Ex H1 H2 → Fix J H2 ys.length P → R J H2) → wi σ H1 R)
    (hg : ∀ (i : Nat) (x : V) (y : β) H1, Ex H H1 → ys[i]? = some y → P i x → ∃ σ2 : L2.St, wipe σ2 vs = wipe σ vs ∧ (∀ H2, Ex H1 H2 → ∀ R : L2.St → Hp → Prop, R σ2 H2 → g x (wipe σ vs) H2 R) ∧ Ev te σ2 H1 (gf y)) :
    EvL (tLc wi g tYes te vs) σ H (ys.map gf) := by
  rw [← given_map]
  refine el_fix _ _ hz hwi fun i x H1 e hi px => ?_
  have ey : ys[i]? = some ys[i] := List.getElem?_eq_getElem hi
  rw [ey]
  obtain ⟨σ2, a, b, c⟩ := hg i x ys[i] H1 e ey px
  exact ⟨σ2, a, b, et_yes, fun _ => c⟩
/-- the target a name -/
theorem tg_name {i : Nat} {σ0 : L2.St} : ∀ (x : V) (H2 : Hp) (R : L2.St → Hp → Prop), R (σ0.set i (some x)) H2 → gName i x σ0 H2 R := fun _ _ _ h => h
theorem el_mapN {β : Type} {wi : TI} {j : Nat} {vs : List Nat} {P : Nat → V → Prop} (ys : List β) (gf : β → V) (hz : ys.length ≤ 40000)
    (hwi : ∀ H1, Ex H H1 → ∀ R : It → Hp → Prop, (∀ J H2, Ex H1 H2 → Fix J H2 ys.length P → R J H2) → wi σ H1 R) (hw : ∀ x, wipe ((wipe σ vs).set j (some x)) vs = wipe σ vs)
    (hg : ∀ (i : Nat) (x : V) (y : β) H1, Ex H H1 → ys[i]? = some y → P i x → Ev te ((wipe σ vs).set j (some x)) H1 (gf y)) : EvL (tLc wi (gName j) tYes te vs) σ H (ys.map gf) :=
  el_mapY ys gf hz hwi fun i x y H1 e hy px => ⟨_, hw x, fun _ _ _ r => r, hg i x y H1 e hy px⟩
theorem el_fixN {β : Type} {wi : TI} {j : Nat} {vs : List Nat} {P : Nat → V → Prop} (ys : List β) (pf : β → Bool) (gf : β → V) (hz : ys.length ≤ 40000)
    (hwi : ∀ H1, Ex H H1 → ∀ R : It → Hp → Prop, (∀ J H2, Ex H1 H2 → Fix J H2 ys.length P → R J H2) → wi σ H1 R) (hw : ∀ x, wipe ((wipe σ vs).set j (some x)) vs = wipe σ vs)
    (ht : ∀ (i : Nat) (x : V) (y : β) H1, Ex H H1 → ys[i]? = some y → P i x → EvT t ((wipe σ vs).set j (some x)) H1 (pf y))
    (hg : ∀ (i : Nat) (x : V) (y : β) H1, Ex H H1 → ys[i]? = some y → P i x → pf y = true → Ev te ((wipe σ vs).set j (some x)) H1 (gf y)) : EvL (tLc wi (gName j) t te vs) σ H ((ys.filter pf).map gf) :=
  el_fixY ys pf gf hz hwi fun i x y H1 e hy px => ⟨_, hw x, fun _ _ _ r => r, ht i x y H1 e hy px, hg i x y H1 e hy px⟩
/-- what is walked: a text, a tuple, a list that stands, a new list, a range -/
theorem wi_str {s : Str} {tl : TE} (h : Ev tl σ H (.str s)) : ∀ H1, Ex H H1 → ∀ R : It → Hp → Prop, (∀ J H2, Ex H1 H2 → Fix J H2 s.cps.toList.length (fun i x => ∃ c, s.cps.toList[i]? = some c ∧ x = .str ⟨#[c]⟩) → R J H2) → iStr tl σ H1 R := fun H1 e R k =>
  h H1 e _ fun H2 e2 => ⟨s, rfl, k _ H2 e2 fix_str⟩
theorem wi_tup {a : Addr} {xs : List V} {tl : TE} (h : Ev tl σ H (.ref a)) (hx : SqT K H a xs) : ∀ H1, Ex H H1 → ∀ R : It → Hp → Prop, (∀ J H2, Ex H1 H2 → Fix J H2 xs.length (fun i x => xs[i]? = some x) → R J H2) → iTup K tl σ H1 R := fun H1 e R k =>
  h H1 e _ fun H2 e2 => ⟨a, rfl, ⟨xs, ex_t (e.trans e2) hx⟩, k _ H2 e2 (fix_tup (ex_t (e.trans e2) hx))⟩
theorem wi_lst {a : Addr} {xs : List V} {tl : TE} (h : Ev tl σ H (.ref a)) (hx : SqL K H a xs) : ∀ H1, Ex H H1 → ∀ R : It → Hp → Prop, (∀ J H2, Ex H1 H2 → Fix J H2 xs.length (fun i x => xs[i]? = some x) → R J H2) → iList K tl σ H1 R := fun H1 e R k =>
  h H1 e _ fun H2 e2 => ⟨a, rfl, ⟨xs, ex_l (e.trans e2) hx⟩, k _ H2 e2 (fix_lst (ex_l (e.trans e2) hx))⟩
theorem wi_new {xs : List V} {tl : TE} (h : EvL tl σ H xs) : ∀ H1, Ex H H1 → ∀ R : It → Hp → Prop, (∀ J H2, Ex H1 H2 → Fix J H2 xs.length (fun i x => xs[i]? = some x) → R J H2) → iList K tl σ H1 R := fun H1 e R k =>
  h H1 e _ fun p H2 _ e2 hp => ⟨p, rfl, ⟨xs, sq_of hp⟩, k _ H2 e2 (fix_lst (sq_of hp))⟩
theorem wi_rng {n : Int} {tl : TA} (h : EvA tl σ H [.int n]) (hn : -40000 ≤ n ∧ n ≤ 40000) : ∀ H1, Ex H H1 → ∀ R : It → Hp → Prop, (∀ J H2, Ex H1 H2 → Fix J H2 n.toNat (fun i x => x = .int (0 + (i : Int))) → R J H2) → iRng1 tl σ H1 R := fun H1 e R k =>
  h H1 e _ fun H2 e2 => ⟨n, rfl, by omega, by omega, k _ H2 e2 fix_rng⟩
end
end Sg
end
section
set_option maxRecDepth 100000
set_option maxHeartbeats 4000000
/-! Data by what it is: an expression that gives data (texts, numbers, tuples, tracked lists of such), whatever its address. -/
namespace Sg
open PySem PySem.Spec PyProof.Rows L2 Evl

/-! ### data as it stands: tuples anywhere, lists tracked -/
mutual
inductive Da (K : PySem.W.Frag) (H : Hp) : V → PyData → Prop
  | non : Da K H .non .none
  | bl (b : Bool) : Da K H (.bl b) (.bool b)
  | int (i : Int) : Da K H (.int i) (.int i)
  | str (x : Str) : Da K H (.str x) (.str x)
  | lst {a : Addr} {xs : List V} {ds : List PyData} : H a = some (.lst xs) → DaAll K H xs ds → Da K H (.ref a) (.list ds)
  | tup {a : Addr} {xs : List V} {ds : List PyData} : SqT K H a xs → DaAll K H xs ds → Da K H (.ref a) (.tuple ds)
inductive DaAll (K : PySem.W.Frag) (H : Hp) : List V → List PyData → Prop
  | nil : DaAll K H [] []
  | cons {v : V} {vs : List V} {d : PyData} {ds : List PyData} : Da K H v d → DaAll K H vs ds → DaAll K H (v :: vs) (d :: ds)
end
mutual
theorem Da.ex {K : PySem.W.Frag} {H H' : Hp} (e : Ex H H') : ∀ {d : PyData} {v : V}, Da K H v d → Da K H' v d
  | .none, _, h => by cases h; exact .non
  | .bool b, _, h => by cases h; exact .bl b
  | .int i, _, h => by cases h; exact .int i
  | .str s, _, h => by cases h; exact .str s
  | .list ds, _, h => by
    cases h with
    | lst hs ha => exact .lst (e _ _ hs) (DaAll.ex e ha)
  | .tuple ds, _, h => by
    cases h with
    | tup hs ha => exact .tup (ex_t e hs) (DaAll.ex e ha)
  | .dict _, _, h => by cases h
theorem DaAll.ex {K : PySem.W.Frag} {H H' : Hp} (e : Ex H H') : ∀ {ds : List PyData} {vs : List V}, DaAll K H vs ds → DaAll K H' vs ds
  | [], _, h => by cases h; exact .nil
  | d :: ds, _, h => by
    cases h with
    | cons h1 h2 => exact .cons (Da.ex e h1) (DaAll.ex e h2)
end
mutual
theorem Da.dp {K : PySem.W.Frag} {H : Hp} : ∀ {d : PyData} {v : V}, Da K H v d → Dp K H v d
  | .none, _, h => by cases h; exact .non
  | .bool b, _, h => by cases h; exact .bl b
  | .int i, _, h => by cases h; exact .int i
  | .str s, _, h => by cases h; exact .str s
  | .list ds, _, h => by
    cases h with
    | lst hs ha => exact .lst (sq_of hs) (DaAll.dp ha)
  | .tuple ds, _, h => by
    cases h with
    | tup hs ha => exact .tup hs (DaAll.dp ha)
  | .dict _, _, h => by cases h
theorem DaAll.dp {K : PySem.W.Frag} {H : Hp} : ∀ {ds : List PyData} {vs : List V}, DaAll K H vs ds → DpAll K H vs ds
  | [], _, h => by cases h; exact .nil
  | d :: ds, _, h => by
    cases h with
    | cons h1 h2 => exact .cons (Da.dp h1) (DaAll.dp h2)
end
theorem DaAll.len {K : PySem.W.Frag} {H : Hp} : ∀ {ds : List PyData} {vs : List V}, DaAll K H vs ds → vs.length = ds.length
  | [], _, h => by cases h; rfl
  | d :: ds, _, h => by
    cases h with
    | cons h1 h2 => exact congrArg Nat.succ (DaAll.len h2)
theorem DaAll.get {K : PySem.W.Frag} {H : Hp} : ∀ {ds : List PyData} {vs : List V} {i : Nat} {v : V}, DaAll K H vs ds → vs[i]? = some v → ∃ d, ds[i]? = some d ∧ Da K H v d
  | [], _, _, _, h, e => by cases h; simp at e
  | d :: ds, _, 0, _, h, e => by
    cases h with
    | cons h1 h2 =>
      simp at e
      subst e
      exact ⟨d, rfl, h1⟩
  | d :: ds, _, i + 1, _, h, e => by
    cases h with
    | cons h1 h2 =>
      obtain ⟨d', e1, e2⟩ := DaAll.get (i := i) h2 (by simpa using e)
      exact ⟨d', by simpa using e1, e2⟩
theorem DaAll.at {K : PySem.W.Frag} {H : Hp} : ∀ {ds : List PyData} {vs : List V} {i : Nat} {d : PyData}, DaAll K H vs ds → ds[i]? = some d → ∃ v, vs[i]? = some v ∧ Da K H v d
  | [], _, _, _, h, e => by simp at e
  | d :: ds, _, 0, _, h, e => by
    cases h with
    | cons h1 h2 =>
      simp at e
      subst e
      exact ⟨_, rfl, h1⟩
  | d :: ds, _, i + 1, _, h, e => by
    cases h with
    | cons h1 h2 =>
      obtain ⟨v', e1, e2⟩ := DaAll.at (i := i) h2 (by simpa using e)
      exact ⟨v', by simpa using e1, e2⟩
theorem DaAll.app {K : PySem.W.Frag} {H : Hp} : ∀ {ds : List PyData} {vs : List V} {es : List PyData} {ws : List V}, DaAll K H vs ds → DaAll K H ws es → DaAll K H (vs ++ ws) (ds ++ es)
  | [], _, _, _, h, g => by cases h; exact g
  | d :: ds, _, _, _, h, g => by
    cases h with
    | cons h1 h2 => exact .cons h1 (DaAll.app h2 g)
theorem DaAll.take {K : PySem.W.Frag} {H : Hp} : ∀ {ds : List PyData} {vs : List V} (n : Nat), DaAll K H vs ds → DaAll K H (vs.take n) (ds.take n)
  | [], _, n, h => by cases h; simp; exact .nil
  | d :: ds, _, 0, h => by simp; exact .nil
  | d :: ds, _, n + 1, h => by
    cases h with
    | cons h1 h2 => exact .cons h1 (DaAll.take n h2)
theorem DaAll.drop {K : PySem.W.Frag} {H : Hp} : ∀ {ds : List PyData} {vs : List V} (n : Nat), DaAll K H vs ds → DaAll K H (vs.drop n) (ds.drop n)
  | [], _, n, h => by cases h; simp; exact .nil
  | d :: ds, _, 0, h => h
  | d :: ds, _, n + 1, h => by
    cases h with
    | cons h1 h2 => exact DaAll.drop n h2

/-! ### two heaps: N what is known of H2, of which H was known ahead, at H1 -/
/-- the known part grows from H to N while the heap grows from H1 to H2; what was there and not known isn't known now -/
structure Gr (H H1 N H2 : Hp) : Prop where
  act : Ex H1 H2
  bas : Ex H N
  sub : Ex N H2
  new : ∀ a, H a = none → H1 a ≠ none → N a = none
theorem Gr.old {H H1 H2 : Hp} (a : Ex H H1) (b : Ex H1 H2) : Gr H H1 H H2 := ⟨b, Ex.refl H, a.trans b, fun _ h _ => h⟩
theorem Gr.trans {H H1 N H2 N' H3 : Hp} (a : Gr H H1 N H2) (b : Gr N H2 N' H3) : Gr H H1 N' H3 :=
  ⟨a.act.trans b.act, a.bas.trans b.bas, b.sub, fun x h1 h2 => b.new x (a.new x h1 h2) fun h => by
    cases e : H1 x with
    | none => exact h2 e
    | some o =>
      rw [a.act x o e] at h
      cases h⟩
theorem Gr.alloc {H H1 : Hp} {p : Addr} {o : HO} (a : Ex H H1) (hp : H1 p = none) : Gr H H1 (upd H p o) (upd H1 p o) := by
  have hn : H p = none := fresh_back a hp
  refine ⟨Ex.new hp, Ex.new hn, fun b u hb => ?_, fun b h1 h2 => ?_⟩
  · by_cases e : b = p
    · subst e
      rw [upd_same] at hb ⊢
      exact hb
    · rw [upd_ne e] at hb ⊢
      exact a b u hb
  · have e : b ≠ p := fun e => h2 (e ▸ hp)
    rw [upd_ne e]
    exact h1
/-- the heap had grown before -/
theorem Gr.ahead {H H1 H2 N H3 : Hp} (g : Gr H H2 N H3) (e : Ex H1 H2) : Gr H H1 N H3 := ⟨e.trans g.act, g.bas, g.sub, fun b h1 h2 => g.new b h1 fun z => by
  cases ez : H1 b with
  | none => exact h2 ez
  | some o =>
    rw [e b o ez] at z
    cases z⟩
/-! ### what gives data -/
section
variable {K : PySem.W.Frag} {σ : L2.St} {H H' : Hp} {ta tb te tx : TE} {x y z v : V} {t : TT} {d e : PyData} {ds es : List PyData}
def EvD (K : PySem.W.Frag) (te : TE) (σ : L2.St) (H : Hp) (d : PyData) : Prop := ∀ H1, Ex H H1 → ∀ Q : VK, (∀ v N H2, Gr H H1 N H2 → Da K N v d → Q v H2) → te σ H1 Q
def EvDs (K : PySem.W.Frag) (ta : TA) (σ : L2.St) (H : Hp) (ds : List PyData) : Prop := ∀ H1, Ex H H1 → ∀ Q : List V → Hp → Prop, (∀ vs N H2, Gr H H1 N H2 → DaAll K N vs ds → Q vs H2) → ta σ H1 Q
theorem ed_of (h : Ev te σ H v) (hd : Da K H v d) : EvD K te σ H d := fun H1 a Q q => h H1 a Q fun H2 b => q v H H2 (.old a b) hd
theorem ed_var {i : Nat} (h : σ[i]? = some (some v)) (hd : Da K H v d) : EvD K (tVar i) σ H d := ed_of (ev_var h) hd
theorem ed_int {i : Int} : EvD K (tC (.int i)) σ H (.int i) := ed_of ev_c (.int i)
theorem ed_str {i : Str} : EvD K (tC (.str i)) σ H (.str i) := ed_of ev_c (.str i)
theorem ed_bl {i : Bool} : EvD K (tC (.bl i)) σ H (.bool i) := ed_of ev_c (.bl i)
theorem ed_non : EvD K (tC .non) σ H .none := ed_of ev_c .non
theorem ed_is (h : EvD K te σ H d) (q : d = e) : EvD K te σ H e := q ▸ h
/-- an int's, a truth's, a text's value is known -/
theorem EvD.int {i : Int} (h : EvD K te σ H (.int i)) : Ev te σ H (.int i) := fun H1 a Q q => h H1 a Q fun v N H2 b hv => by
  cases hv
  exact q H2 b.act
theorem EvD.str {i : Str} (h : EvD K te σ H (.str i)) : Ev te σ H (.str i) := fun H1 a Q q => h H1 a Q fun v N H2 b hv => by
  cases hv
  exact q H2 b.act
theorem EvD.bl {i : Bool} (h : EvD K te σ H (.bool i)) : Ev te σ H (.bl i) := fun H1 a Q q => h H1 a Q fun v N H2 b hv => by
  cases hv
  exact q H2 b.act
/-- what can be said of all heaps that know more -/
theorem EvD.mono (a : Ex H H') (h : ∀ H1, Ex H H1 → EvD K te σ H1 d) : EvD K te σ H' d := h H' a
theorem eds_nil : EvDs K tNil σ H [] := fun H1 a Q q => q [] H H1 (.old a (Ex.refl H1)) .nil
theorem eds_cons {tr : TA} (h : EvD K te σ H d) (hr : ∀ N, Ex H N → EvDs K tr σ N ds) : EvDs K (tCons te tr) σ H (d :: ds) := fun H1 a Q q =>
  h H1 a _ fun v N H2 b hv => hr N b.bas H2 b.sub _ fun vs N' H3 c hvs => q (v :: vs) N' H3 (b.trans c) (.cons (hv.ex c.bas) hvs)
theorem ed_tup {ta : TA} (h : EvDs K ta σ H ds) (hl : ds.length ≤ 100000) : EvD K (tTup ta) σ H (.tuple ds) := fun H1 a Q q =>
  h H1 a _ fun vs N H2 b hv => ⟨by rw [hv.len]; exact sz_of hl, fun p hp => q _ _ _ (b.trans (.alloc b.sub hp)) (.tup (st_of upd_same) (hv.ex (Ex.new (fresh_back b.sub hp))))⟩
theorem ed_lst {ta : TA} (h : EvDs K ta σ H ds) (hl : ds.length ≤ 100000) : EvD K (tLst ta) σ H (.list ds) := fun H1 a Q q =>
  h H1 a _ fun vs N H2 b hv => ⟨by rw [hv.len]; exact sz_of hl, fun p hp => q _ _ _ (b.trans (.alloc b.sub hp)) (.lst upd_same (hv.ex (Ex.new (fresh_back b.sub hp))))⟩
/-- xs + ys of lists, of tuples -/
theorem ed_cat (h : EvD K ta σ H (.list ds)) (g : ∀ N, Ex H N → EvD K tb σ N (.list es)) (hl : ds.length + es.length ≤ 100000) : EvD K (tOp rCat ta tb) σ H (.list (ds ++ es)) := fun H1 a Q q =>
  h H1 a _ fun v N H2 b hv => g N b.bas H2 b.sub _ fun u N' H3 c hu => by
    cases hv with
    | lst h1 h2 =>
      cases hu with
      | lst g1 g2 =>
        exact ⟨_, _, _, _, rfl, rfl, c.act _ _ (b.sub _ _ h1), c.sub _ _ g1, by rw [h2.len, g2.len]; exact sz_of hl, fun p hp => q _ _ _ ((b.trans c).trans (.alloc c.sub hp)) (.lst upd_same (((h2.ex c.bas).app g2).ex (Ex.new (fresh_back c.sub hp))))⟩
theorem ed_catT (h : EvD K ta σ H (.tuple ds)) (g : ∀ N, Ex H N → EvD K tb σ N (.tuple es)) (hl : ds.length + es.length ≤ 100000) : EvD K (tOp (rCatA K) ta tb) σ H (.tuple (ds ++ es)) := fun H1 a Q q =>
  h H1 a _ fun v N H2 b hv => g N b.bas H2 b.sub _ fun u N' H3 c hu => by
    cases hv with
    | tup h1 h2 =>
      cases hu with
      | tup g1 g2 =>
        refine ⟨_, _, _, _, rfl, rfl, ex_t (b.sub.trans c.act) h1, ex_t c.sub g1, by rw [h2.len, g2.len]; exact sz_of hl, fun ex => ?_, fun ex ey => ?_, fun ex ey p hp => q _ _ _ ((b.trans c).trans (.alloc c.sub hp)) (.tup (st_of upd_same) (((h2.ex c.bas).app g2).ex (Ex.new (fresh_back c.sub hp))))⟩
        · subst ex
          cases h2
          exact q _ N' H3 (b.trans c) (.tup g1 g2)
        · subst ey
          cases g2
          have z : Da K N' (.ref _) (.tuple (ds ++ [])) := .tup (ex_t c.bas h1) (by rw [List.append_nil]; exact h2.ex c.bas)
          exact q _ N' H3 (b.trans c) z
/-- xs[k], t[k] -/
theorem ed_ixL {k : Int} {j : Nat} (h : EvD K ta σ H (.list ds)) (g : ∀ N, Ex H N → Ev tb σ N (.int k)) (hk : k = (j : Int)) (hd : ds[j]? = some d) : EvD K (tOp (rIxL K) ta tb) σ H d := fun H1 a Q q =>
  h H1 a _ fun v N H2 b hv => g N b.bas H2 b.sub _ fun H3 c => by
    cases hv with
    | lst h1 h2 =>
      obtain ⟨w', e1, e2⟩ := h2.at hd
      exact ⟨_, _, _, w', rfl, rfl, sq_of (c _ _ (b.sub _ _ h1)), at_of hk e1, q w' N H3 (b.trans (.old b.sub c)) e2⟩
theorem ed_ixT {k : Int} {j : Nat} (h : EvD K ta σ H (.tuple ds)) (g : ∀ N, Ex H N → Ev tb σ N (.int k)) (hk : k = (j : Int)) (hd : ds[j]? = some d) : EvD K (tOp (rIxT K) ta tb) σ H d := fun H1 a Q q =>
  h H1 a _ fun v N H2 b hv => g N b.bas H2 b.sub _ fun H3 c => by
    cases hv with
    | tup h1 h2 =>
      obtain ⟨w', e1, e2⟩ := h2.at hd
      exact ⟨_, _, _, w', rfl, rfl, ex_t (b.sub.trans c) h1, at_of hk e1, q w' N H3 (b.trans (.old b.sub c)) e2⟩
/-- len -/
theorem ev_lenL (h : EvD K ta σ H (.list ds)) : Ev (tCB (rLenG K) (tCons ta tNil)) σ H (.int (ds.length : Int)) := fun H1 a Q q =>
  h H1 a _ fun v N H2 b hv => by
    cases hv with
    | lst h1 h2 => exact ⟨_, ds.length, rfl, Or.inl ⟨_, sq_of (b.sub _ _ h1), h2.len.symm⟩, q H2 b.act⟩
theorem ev_lenT (h : EvD K ta σ H (.tuple ds)) : Ev (tCB (rLenG K) (tCons ta tNil)) σ H (.int (ds.length : Int)) := fun H1 a Q q =>
  h H1 a _ fun v N H2 b hv => by
    cases hv with
    | tup h1 h2 => exact ⟨_, ds.length, rfl, Or.inr ⟨_, ex_t b.sub h1, h2.len.symm⟩, q H2 b.act⟩
theorem ev_lenS {s : Str} (h : EvD K ta σ H (.str s)) (hs : s.length ≤ 100000) : Ev (tCB (rLenG K) (tCons ta tNil)) σ H (.int (s.length : Int)) := fun H1 a Q q =>
  h H1 a _ fun v N H2 b hv => by
    cases hv
    exact ⟨_, s.length, rfl, ⟨sz_of hs, rfl⟩, q H2 b.act⟩
/-- == and != -/
theorem ev_eqD (h : EvD K ta σ H d) (g : ∀ N, Ex H N → EvD K tb σ N e) (sd : SeqAt.shaped d = true) (se : SeqAt.shaped e = true) : Ev (tOp (rEqD K) ta tb) σ H (.bl (PyData.eqv d e)) := fun H1 a Q q =>
  h H1 a _ fun v N H2 b hv => g N b.bas H2 b.sub _ fun u N' H3 c hu => ⟨d, e, (hv.ex (b.sub.trans c.act)).dp, (hu.ex c.sub).dp, sd, se, q H3 (b.act.trans c.act)⟩
theorem ev_neD (h : EvD K ta σ H d) (g : ∀ N, Ex H N → EvD K tb σ N e) (sd : SeqAt.shaped d = true) (se : SeqAt.shaped e = true) : Ev (tOp (rNeD K) ta tb) σ H (.bl (!PyData.eqv d e)) := fun H1 a Q q =>
  h H1 a _ fun v N H2 b hv => g N b.bas H2 b.sub _ fun u N' H3 c hu => ⟨d, e, (hv.ex (b.sub.trans c.act)).dp, (hu.ex c.sub).dp, sd, se, q H3 (b.act.trans c.act)⟩
/-- isinstance(x, T) -/
theorem ev_isD {n : String} {b : Bool} (h : EvD K ta σ H d) (hb : kitB (tyD d) n = some b) : Ev (tCB (rIsi K) (tCons ta (tCons (tC (.ty n)) tNil))) σ H (.bl b) := fun H1 a Q q =>
  h H1 a _ fun v N H2 c hv => ⟨v, .ty n, _, _, b, rfl, .ty n, tyx_D (hv.ex c.sub).dp, kit_ty hb, q H2 c.act⟩
/-- what is walked: n items, told one by one, of which P is known; a turn may make an object of its own (a pair) -/
structure FixD (J : It) (N : Hp) (n : Nat) (P : Hp → Nat → V → Prop) : Prop where
  go : ∀ H1, Ex N H1 → ∀ i, i < n → J.go i H1
  yld : ∀ B H1 i x H2, Ex N B → Ex B H1 → i < n → J.yld i H1 x H2 → ∃ B2, Gr B H1 B2 H2 ∧ P B2 i x
  stop : ∀ H1, Ex N H1 → J.stop n H1
def WiD (wi : TI) (σ : L2.St) (H : Hp) (n : Nat) (P : Hp → Nat → V → Prop) : Prop := ∀ H1, Ex H H1 → ∀ R : It → Hp → Prop, (∀ J N H2, Gr H H1 N H2 → FixD J N n P → R J H2) → wi σ H1 R
/-- a comprehension over data, its items data: ys what is walked, pf its tests, gf what each gives -/
theorem ed_map {β : Type} {wi : TI} {g : TG} {vs : List Nat} {P : Hp → Nat → V → Prop} (ys : List β) (pf : β → Bool) (gf : β → PyData) (hz : ys.length ≤ 40000) (hwi : WiD wi σ H ys.length P)
    (hg : ∀ (i : Nat) (x : V) (y : β) N, Ex H N → ys[i]? = some y → P N i x → ∃ σ2 : L2.St, wipe σ2 vs = wipe σ vs ∧ (∀ H2, Ex N H2 → ∀ R : L2.St → Hp → Prop, R σ2 H2 → g x (wipe σ vs) H2 R) ∧ EvT t σ2 N (pf y) ∧ (pf y = true → EvD K te σ2 N (gf y))) :
    EvD K (tLc wi g t te vs) σ H (.list ((ys.filter pf).map gf)) := fun H0 e Q q => hwi H0 e _ fun J N1 H1 G F Dl hD => by
  have hD1 : N1 Dl = none := fresh_back G.sub hD
  -- the turn's word: B is known (the new list is not), acc stands there
  refine ⟨fun i m H' => m = ys.length - i ∧ i ≤ ys.length ∧ ∃ acc B, Gr N1 H1 B H' ∧ B Dl = none ∧ H' Dl = some (.lst acc) ∧ acc.length ≤ i ∧ DaAll K B acc (((ys.take i).filter pf).map gf), ⟨ys.length, by simp, Nat.zero_le _, [], N1, .old G.sub (Ex.new hD), hD1, upd_same, Nat.le_refl _, .nil⟩, ?_⟩
  rintro i m H' ⟨rfl, hi, acc, B0, c1, c2, p3, p4, c4⟩
  by_cases hlt : i < ys.length
  · refine .inr ⟨F.go H' (c1.bas.trans c1.sub) i hlt, fun H2 => ∃ acc B, Gr N1 H1 B H2 ∧ B Dl = none ∧ H2 Dl = some (.lst acc) ∧ acc.length ≤ i + 1 ∧ DaAll K B acc (((ys.take (i + 1)).filter pf).map gf), fun H2 p' => ⟨ys.length - (i + 1), by omega, rfl, hlt, p'⟩, fun x H2 y => ?_⟩
    obtain ⟨B, g0, px⟩ := F.yld B0 H' i x H2 c1.bas c1.sub hlt y
    have b1 : Gr N1 H1 B H2 := c1.trans g0
    have b2 : B Dl = none := g0.new Dl c2 (by rw [p3]; simp)
    have b4 := c4.ex g0.bas
    have p3' : H2 Dl = some (.lst acc) := g0.act _ _ p3
    have ey : ys[i]? = some ys[i] := List.getElem?_eq_getElem hlt
    have tk : ys.take (i + 1) = ys.take i ++ [ys[i]] := by rw [List.take_succ, ey]; rfl
    obtain ⟨σ2, w2, gg, ht, he⟩ := hg i x ys[i] B (G.bas.trans b1.bas) ey px
    refine gg _ b1.sub _ ⟨w2, ?_⟩
    refine ht H2 b1.sub _ fun H3 e3 => ?_
    cases hf : pf ys[i] with
    | false =>
      show ∃ acc, _
      refine ⟨acc, B, b1.trans (.old b1.sub e3), b2, e3 _ _ p3', Nat.le_succ_of_le p4, ?_⟩
      rw [tk, List.filter_append, List.map_append]
      simp only [List.filter_cons, hf, List.filter_nil]
      simpa using b4
    | true =>
      refine he hf H3 (b1.sub.trans e3) _ fun v N4 H4 g4 hv => ?_
      have n4 : N4 Dl = none := g4.new Dl b2 (by rw [e3 _ _ p3']; simp)
      have a4 : H4 Dl = some (.lst acc) := g4.act _ _ (e3 _ _ p3')
      refine ⟨acc, a4, sz_lt (by omega), acc ++ [v], N4, ⟨?_, b1.bas.trans g4.bas, fun b u hb => ?_, fun b h1 h2 => ?_⟩, n4, upd_same, by rw [List.length_append]; simp; omega, ?_⟩
      · exact fun b u hb => by
          have hbD : b ≠ Dl := ne_of_none hb hD
          rw [upd_ne hbD]
          exact g4.act b u (e3 b u (b1.act b u hb))
      · have hbD : b ≠ Dl := ne_of_none hb n4
        rw [upd_ne hbD]
        exact g4.sub b u hb
      · refine g4.new b (b1.new b h1 h2) fun z => ?_
        cases ez : H1 b with
        | none => exact h2 ez
        | some o =>
          rw [e3 b o (b1.act b o ez)] at z
          cases z
      · rw [tk, List.filter_append, List.map_append]
        have e1 : ([ys[i]].filter pf).map gf = [gf ys[i]] := by simp [hf]
        rw [e1]
        exact (b4.ex g4.bas).app (.cons hv .nil)
  · have ei : i = ys.length := by omega
    subst ei
    rw [List.take_length] at c4
    refine .inl ⟨F.stop H' (c1.bas.trans c1.sub), q _ (upd B0 Dl (.lst acc)) H' (G.trans ⟨c1.act, c1.bas.trans (Ex.new c2), fun b u hb => ?_, fun b h1 h2 => ?_⟩) (.lst upd_same (c4.ex (Ex.new c2)))⟩
    · by_cases eb : b = Dl
      · subst eb
        rw [upd_same] at hb
        rw [p3]
        exact hb
      · rw [upd_ne eb] at hb
        exact c1.sub b u hb
    · have eb : b ≠ Dl := fun z => h2 (z ▸ hD)
      rw [upd_ne eb]
      exact c1.new b h1 h2
/-- the target a name, no test -/
theorem ed_mapN {β : Type} {wi : TI} {j : Nat} {vs : List Nat} {P : Hp → Nat → V → Prop} (ys : List β) (gf : β → PyData) (hz : ys.length ≤ 40000) (hwi : WiD wi σ H ys.length P) (hw : ∀ x, wipe ((wipe σ vs).set j (some x)) vs = wipe σ vs)
    (hg : ∀ (i : Nat) (x : V) (y : β) N, Ex H N → ys[i]? = some y → P N i x → EvD K te ((wipe σ vs).set j (some x)) N (gf y)) : EvD K (tLc wi (gName j) tYes te vs) σ H (.list (ys.map gf)) := by
  have h := ed_map (K := K) (t := tYes) (te := te) (g := gName j) ys (fun _ => true) gf hz hwi fun i x y N e hy px => ⟨_, hw x, fun _ _ _ r => r, et_yes, fun _ => hg i x y N e hy px⟩
  rw [List.filter_eq_self.mpr fun _ _ => rfl] at h
  exact h
/-- .. with a test -/
theorem ed_mapF {β : Type} {wi : TI} {j : Nat} {vs : List Nat} {P : Hp → Nat → V → Prop} (ys : List β) (pf : β → Bool) (gf : β → PyData) (hz : ys.length ≤ 40000) (hwi : WiD wi σ H ys.length P) (hw : ∀ x, wipe ((wipe σ vs).set j (some x)) vs = wipe σ vs)
    (ht : ∀ (i : Nat) (x : V) (y : β) N, Ex H N → ys[i]? = some y → P N i x → EvT t ((wipe σ vs).set j (some x)) N (pf y))
    (hg : ∀ (i : Nat) (x : V) (y : β) N, Ex H N → ys[i]? = some y → P N i x → pf y = true → EvD K te ((wipe σ vs).set j (some x)) N (gf y)) : EvD K (tLc wi (gName j) t te vs) σ H (.list ((ys.filter pf).map gf)) :=
  ed_map ys pf gf hz hwi fun i x y N e hy px => ⟨_, hw x, fun _ _ _ r => r, ht i x y N e hy px, hg i x y N e hy px⟩
/-- walks that make nothing -/
theorem FixD.still {J : It} {n : Nat} {P : Hp → Nat → V → Prop} (go : ∀ H1, Ex H H1 → ∀ i, i < n → J.go i H1) (yld : ∀ B H1 i x H2, Ex H B → Ex B H1 → i < n → J.yld i H1 x H2 → H2 = H1 ∧ P B i x) (stop : ∀ H1, Ex H H1 → J.stop n H1) : FixD J H n P :=
  ⟨go, fun B H1 i x H2 a b hi y => by
    obtain ⟨rfl, p⟩ := yld B H1 i x H2 a b hi y
    exact ⟨B, .old b (Ex.refl _), p⟩, stop⟩
/-- over a list, a tuple of data; a text; a range -/
def PD (K : PySem.W.Frag) (ds : List PyData) : Hp → Nat → V → Prop := fun N i x => ∃ d, ds[i]? = some d ∧ Da K N x d
theorem wd_lst {tl : TE} (h : EvD K tl σ H (.list ds)) : WiD (iList K tl) σ H ds.length (PD K ds) := fun H1 a R k =>
  h H1 a _ fun v N H2 b hv => by
    cases hv with
    | @lst p xs _ h1 h2 =>
      refine ⟨p, rfl, ⟨_, sq_of (b.sub _ _ h1)⟩, k _ N H2 b (.still (fun H3 c i hi => ?_) (fun B H3 i x H4 c c2 hi y => ⟨y.1, ?_⟩) fun H3 c => ⟨xs, sq_of (c _ _ h1), by rw [h2.len]; exact Nat.le_refl _⟩)⟩
      · have hx : i < xs.length := by rw [h2.len]; exact hi
        exact ⟨xs, xs[i], sq_of (c _ _ h1), List.getElem?_eq_getElem hx⟩
      · obtain ⟨d, e1, e2⟩ := h2.get (y.2 xs (sq_of (c2 _ _ (c _ _ h1))))
        exact ⟨d, e1, e2.ex c⟩
theorem wd_tup {tl : TE} (h : EvD K tl σ H (.tuple ds)) : WiD (iTup K tl) σ H ds.length (PD K ds) := fun H1 a R k =>
  h H1 a _ fun v N H2 b hv => by
    cases hv with
    | @tup p xs _ h1 h2 =>
      refine ⟨p, rfl, ⟨_, ex_t b.sub h1⟩, k _ N H2 b (.still (fun H3 c i hi => ?_) (fun B H3 i x H4 c c2 hi y => ⟨y.1, ?_⟩) fun H3 c => ⟨xs, ex_t c h1, by rw [h2.len]; exact Nat.le_refl _⟩)⟩
      · have hx : i < xs.length := by rw [h2.len]; exact hi
        exact ⟨xs, xs[i], ex_t c h1, List.getElem?_eq_getElem hx⟩
      · obtain ⟨d, e1, e2⟩ := h2.get (y.2 xs (ex_t (c.trans c2) h1))
        exact ⟨d, e1, e2.ex c⟩
theorem wd_str {s : Str} {tl : TE} (h : Ev tl σ H (.str s)) : WiD (iStr tl) σ H s.cps.toList.length (fun _ i x => ∃ c, s.cps.toList[i]? = some c ∧ x = .str ⟨#[c]⟩) := fun H1 a R k =>
  h H1 a _ fun H2 b => by
    refine ⟨s, rfl, k _ H H2 (.old a b) (.still (fun H3 c i hi => ?_) (fun B H3 i x H4 c c2 hi y => ⟨y.1, ?_⟩) fun H3 c => ?_)⟩
    · rw [Array.length_toList] at hi
      exact hi
    · obtain ⟨c, e, q⟩ := y.2
      exact ⟨c, by rw [Array.getElem?_toList]; exact e, q⟩
    · rw [Array.length_toList]
      exact Nat.le_refl _
theorem wd_rng {n : Int} {tl : TA} (h : EvA tl σ H [.int n]) (hn : -40000 ≤ n ∧ n ≤ 40000) : WiD (iRng1 tl) σ H n.toNat (fun _ i x => x = .int (i : Int)) := fun H1 a R k =>
  h H1 a _ fun H2 b => ⟨n, rfl, by omega, by omega, k _ H H2 (.old a b) (.still (fun H3 c i hi => hi) (fun B H3 i x H4 c c2 hi y => ⟨y.1, by rw [y.2, Int.zero_add]⟩) fun H3 c => Nat.le_refl _)⟩
/-- all, any of a list of truths -/
theorem ev_allD {bs : List Bool} (h : EvD K te σ H (.list (bs.map .bool))) : Ev (tCB (rAll K) (tCons te tNil)) σ H (.bl (bs.all id)) := fun H1 a Q q =>
  h H1 a _ fun v N H2 b hv => by
    cases hv with
    | @lst p xs _ h1 h2 =>
      have e : xs = bs.map V.bl := by
        clear h1 q h
        induction bs generalizing xs with
        | nil => cases h2; rfl
        | cons b bs ih =>
          cases h2 with
          | cons g1 g2 =>
            cases g1
            rw [ih g2]
            rfl
      subst e
      exact ⟨p, bs, rfl, sq_of (b.sub _ _ h1), q H2 b.act⟩
theorem ev_anyD {bs : List Bool} (h : EvD K te σ H (.list (bs.map .bool))) : Ev (tCB (rAny K) (tCons te tNil)) σ H (.bl (bs.any id)) := fun H1 a Q q =>
  h H1 a _ fun v N H2 b hv => by
    cases hv with
    | @lst p xs _ h1 h2 =>
      have e : xs = bs.map V.bl := by
        clear h1 q h
        induction bs generalizing xs with
        | nil => cases h2; rfl
        | cons b bs ih =>
          cases h2 with
          | cons g1 g2 =>
            cases g1
            rw [ih g2]
            rfl
      subst e
      exact ⟨p, bs, rfl, sq_of (b.sub _ _ h1), q H2 b.act⟩
end
end Sg
end
section
set_option maxRecDepth 100000
set_option maxHeartbeats 4000000
/-! Rules over data: membership, calls of own defs by a promise on data, statements, loops. -/
namespace Sg
open PySem PySem.Spec PyProof.Rows L2 Evl
section
variable {X : Cx}
/-- x in t, x not in t: t a tuple of data -/
def rInT (K : PySem.W.Frag) (neg : Bool) : R2 := fun x y H Q => ∃ d ds, Dp K H x d ∧ Dp K H y (.tuple ds) ∧ SeqAt.shaped d = true ∧ SeqAt.shaped (.tuple ds) = true ∧ Q (.bl (if neg then !(ds.any fun z => PyData.eqv z d) else ds.any fun z => PyData.eqv z d)) H
theorem roomT {A : Around} {d : PyData} {ds : List PyData} (sd : SeqAt.shaped d = true) (hu : A.units + 65 < cLine) : A.units + 1 + min (PyData.depthAll ds) d.depth < cLine := by
  have h1 := SeqAt.depth_of_shaped sd
  have h2 := Nat.min_le_right (PyData.depthAll ds) d.depth
  omega
theorem op_inT (hu : X.A.units + 65 < cLine) : OpR X (compareOp .In) (rInT X.K false) := by
  intro pins s σ H x y v u Q I rx ry h
  obtain ⟨d, ds, hd, he, sd, se, q⟩ := h
  obtain ⟨as, r1⟩ := Dp.reads I d x v hd rx
  obtain ⟨bs, r2⟩ := Dp.reads I (.tuple ds) y u he ry
  have c2 : PyData.canLayAll0 ds = true := SeqAt.canLay_of_shaped se
  exact SeqAt.in_tuple_reads r2 r1 c2 (SeqAt.canLay_of_shaped sd) (roomT sd hu) ⟨.bl _, H, I, rfl, q⟩
theorem op_notInT (hu : X.A.units + 65 < cLine) : OpR X (compareOp .NotIn) (rInT X.K true) := by
  intro pins s σ H x y v u Q I rx ry h
  obtain ⟨d, ds, hd, he, sd, se, q⟩ := h
  obtain ⟨as, r1⟩ := Dp.reads I d x v hd rx
  obtain ⟨bs, r2⟩ := Dp.reads I (.tuple ds) y u he ry
  have c2 : PyData.canLayAll0 ds = true := SeqAt.canLay_of_shaped se
  exact SeqAt.notIn_tuple_reads r2 r1 c2 (SeqAt.canLay_of_shaped sd) (roomT sd hu) ⟨.bl _, H, I, rfl, q⟩
end
/-- a < b of alike data -/
def rLtD (K : PySem.W.Frag) : R2 := fun x y H Q => ∃ d e, Dp K H x d ∧ Dp K H y e ∧ PySem.W.alike d e = true ∧ d ≠ .none ∧ d.depth ≤ 64 ∧ Q (.bl (PySem.W.dataLt d e)) H
section
variable {X : Cx} {K : PySem.W.Frag}
theorem op_ltDK (hu : X.A.units + 64 < cLine) (h : X.K = K := by rfl) : OpR X (compareOp .Lt) (rLtD K) := by
  subst h
  intro pins s σ H x y v u Q I rx ry h
  obtain ⟨d, e, hd, he, al, nn, dp, q⟩ := h
  obtain ⟨as, r1⟩ := Dp.reads I d x v hd rx
  obtain ⟨bs, r2⟩ := Dp.reads I e y u he ry
  have hm := Nat.min_le_left d.depth e.depth
  exact PySem.W.rcLt_alike d e X.A s v u as bs r1 r2 al nn (by omega) _ _ _ _ ⟨.bl _, H, I, rfl, q⟩
end
/-! ### the same, told of K: within a comprehension's block -/
section
variable {X : Cx} {K : PySem.W.Frag}
theorem ix_tupK (h : X.K = K := by rfl) : IxR X (rIxT K) := by subst h; exact ix_tup
theorem ix_listK (h : X.K = K := by rfl) : IxR X (rIxL K) := by subst h; exact ix_list
theorem op_eqDK (hu : X.A.units + 64 < cLine) (h : X.K = K := by rfl) : OpR X (compareOp .Eq) (rEqD K) := by subst h; exact op_eqD hu
theorem op_neDK (hu : X.A.units + 64 < cLine) (h : X.K = K := by rfl) : OpR X (compareOp .NotEq) (rNeD K) := by subst h; exact op_neD hu
theorem op_inTK (hu : X.A.units + 65 < cLine) (h : X.K = K := by rfl) : OpR X (compareOp .In) (rInT K false) := by subst h; exact op_inT hu
theorem op_notInTK (hu : X.A.units + 65 < cLine) (h : X.K = K := by rfl) : OpR X (compareOp .NotIn) (rInT K true) := by subst h; exact op_notInT hu
theorem call_isiK2 (h : X.K = K := by rfl) : CallR X (.builtin "isinstance") (rIsi K) := by subst h; exact call_isi
theorem call_lenK (h : X.K = K := by rfl) : CallR X (.builtin "len") (rLenG K) := by subst h; exact call_len
theorem cr_allK (hc : X.calm = true) (h : X.K = K := by rfl) : CallR X (.builtin "all") (rAll K) := by subst h; exact cr_all hc
theorem cr_anyK (hc : X.calm = true) (h : X.K = K := by rfl) : CallR X (.builtin "any") (rAny K) := by subst h; exact cr_any hc
theorem pi_tupK {tg l : Expr} {tl : TE} (hl : PE X l tl) (h : X.K = K := by rfl) : PI X tg l (iTup K tl) := by subst h; exact pi_tup hl
theorem pi_listK {tg l : Expr} {tl : TE} (hl : PE X l tl) (h : X.K = K := by rfl) : PI X tg l (iList K tl) := by subst h; exact pi_list hl
theorem sl_tupK (h : X.K = K := by rfl) : SlR X (rSlA K) := by subst h; exact sl_tupA
theorem sl_listK (h : X.K = K := by rfl) : SlR X (rSlL K) := by subst h; exact sl_list
theorem op_catTK (h : X.K = K := by rfl) : OpR X (binaryOp .Add) (rCatA K) := by subst h; exact op_catA
end
theorem room65 {k : Nat} {A : Around} (hr : Room k A) : A.units + 65 < cLine := by
  have := hr.un
  omega
section
variable {K : PySem.W.Frag} {σ : L2.St} {H H' H1 : Hp} {ta tb te tx : TE} {x y z v : V} {t : TT} {d e : PyData} {ds es : List PyData} {tu tw tz : TS} {D : Ends}
theorem ev_inT {neg : Bool} (h : EvD K ta σ H d) (g : ∀ N, Ex H N → EvD K tb σ N (.tuple ds)) (sd : SeqAt.shaped d = true) (se : SeqAt.shaped (.tuple ds) = true) :
    Ev (tOp (rInT K neg) ta tb) σ H (.bl (if neg then !(ds.any fun z => PyData.eqv z d) else ds.any fun z => PyData.eqv z d)) := fun H1 a Q q =>
  h H1 a _ fun v N H2 b hv => g N b.bas H2 b.sub _ fun u N' H3 c hu => ⟨d, ds, (hv.ex (b.sub.trans c.act)).dp, (hu.ex c.sub).dp, sd, se, q H3 (b.act.trans c.act)⟩
/-- whether an equal one stands among these -/
def inD (d : PyData) (ds : List PyData) : Bool := ds.any fun z => PyData.eqv z d
theorem ev_isIn (h : EvD K ta σ H d) (g : ∀ N, Ex H N → EvD K tb σ N (.tuple ds)) (sd : SeqAt.shaped d = true) (se : SeqAt.shaped (.tuple ds) = true) : Ev (tOp (rInT K false) ta tb) σ H (.bl (inD d ds)) := ev_inT h g sd se
theorem ev_notIn (h : EvD K ta σ H d) (g : ∀ N, Ex H N → EvD K tb σ N (.tuple ds)) (sd : SeqAt.shaped d = true) (se : SeqAt.shaped (.tuple ds) = true) : Ev (tOp (rInT K true) ta tb) σ H (.bl (!inD d ds)) := ev_inT h g sd se
theorem ev_ltD (h : EvD K ta σ H d) (g : ∀ N, Ex H N → EvD K tb σ N e) (al : PySem.W.alike d e = true) (nn : d ≠ .none) (dp : d.depth ≤ 64) : Ev (tOp (rLtD K) ta tb) σ H (.bl (PySem.W.dataLt d e)) := fun H1 a Q q =>
  h H1 a _ fun v N H2 b hv => g N b.bas H2 b.sub _ fun u N' H3 c hu => ⟨d, e, (hv.ex (b.sub.trans c.act)).dp, (hu.ex c.sub).dp, al, nn, dp, q H3 (b.act.trans c.act)⟩
/-! ### a, b, .. = e -/
def gs : List Nat → TGs
  | [] => gNil
  | i :: r => gCons (gName i) (gs r)
def setAll (σ : L2.St) : List Nat → List V → L2.St
  | i :: r, v :: vs => setAll (σ.set i (some v)) r vs
  | _, _ => σ
theorem gs_all : ∀ (is : List Nat) (vs : List V) (σ : L2.St) (H : Hp) (Q : L2.St → Hp → Prop), vs.length = is.length → Q (setAll σ is vs) H → gs is vs σ H Q
  | [], [], _, _, _, _, q => ⟨rfl, q⟩
  | [], _ :: _, _, _, _, h, _ => by simp at h
  | _ :: _, [], _, _, _, h, _ => by simp at h
  | i :: is, v :: vs, σ, H, Q, h, q => ⟨v, vs, rfl, gs_all is vs _ H Q (by simpa using h) q⟩
theorem d_unpack {n : Nat} (is : List Nat) (h : EvD K te σ H (.tuple ds)) (a : Ex H H1) (hn : ds.length = n) (hi : n = is.length) (k : ∀ vs N H2, Gr H H1 N H2 → DaAll K N vs ds → tz D (setAll σ is vs) H2) : tSeq (tAsg te (gTup K n (gs is))) tz D σ H1 :=
  h H1 a _ fun v N H2 b hv => by
    cases hv with
    | tup h1 h2 => exact ⟨_, _, rfl, ex_t b.sub h1, by rw [h2.len, hn], gs_all is _ σ H2 _ (by rw [h2.len, hn, hi]) (k _ N H2 b h2)⟩
/-! ### promises on data -/
/-- n arguments that are data, of which ok holds: f of them -/
def spDD (K : PySem.W.Frag) (n : Nat) (ok : List PyData → Prop) (f : List PyData → PyData) : Sp := fun vs H1 Q _ => ∃ H ds, Ex H H1 ∧ DaAll K H vs ds ∧ ds.length = n ∧ ok ds ∧ ∀ v N H2, Gr H H1 N H2 → Da K N v (f ds) → Q v H2
theorem spDD_len {K : PySem.W.Frag} {n : Nat} {ok : List PyData → Prop} {f : List PyData → PyData} : ∀ vs H Q E, spDD K n ok f vs H Q E → vs.length = n := fun vs H Q E h => by
  obtain ⟨B, ds, _, h1, h2, _⟩ := h
  rw [h1.len, h2]
theorem ed_call {n : Nat} {ok : List PyData → Prop} {f : List PyData → PyData} {dvs : List V} {des : List PyData} {E : XK} {ta : TA} (h : EvDs K ta σ H ds) (hd : DaAll K (fun _ => none) dvs des) (hn : (ds ++ des).length = n) (hok : ok (ds ++ des)) :
    EvD K (tCall (spDD K n ok f) dvs E ta) σ H (f (ds ++ des)) := fun H1 a Q q =>
  h H1 a _ fun vs N H2 b hv => ⟨N, ds ++ des, b.sub, hv.app (hd.ex fun _ _ z => by cases z), hn, hok, fun v N' H3 c hv' => q v N' H3 (b.trans c) hv'⟩
theorem ed_call0 {n : Nat} {ok : List PyData → Prop} {f : List PyData → PyData} {E : XK} {ta : TA} (h : EvDs K ta σ H ds) (hn : ds.length = n) (hok : ok ds) : EvD K (tCall (spDD K n ok f) [] E ta) σ H (f ds) := by
  have g := ed_call (des := []) (dvs := []) (f := f) (ok := ok) (n := n) (E := E) h .nil (by rw [List.append_nil]; exact hn) (by rw [List.append_nil]; exact hok)
  rw [List.append_nil] at g
  exact g
/-! ### statements: H what is known, H1 the heap -/
theorem d_ret (h : EvD K te σ H d) (a : Ex H H1) (k : ∀ v N H2, Gr H H1 N H2 → Da K N v d → D.rt v H2) : tRet te D σ H1 := h H1 a _ k
theorem d_retB {b : Bool} (h : Ev te σ H (.bl b)) (a : Ex H H1) (k : ∀ v N H2, Gr H H1 N H2 → Da K N v (.bool b) → D.rt v H2) : tRet te D σ H1 := h H1 a _ fun H2 c => k _ H H2 (.old a c) (.bl b)
theorem d_asg {i : Nat} (h : EvD K te σ H d) (a : Ex H H1) (k : ∀ v N H2, Gr H H1 N H2 → Da K N v d → tz D (σ.set i (some v)) H2) : tSeq (tAsg te (gName i)) tz D σ H1 := h H1 a _ fun v N H2 b hv => k v N H2 b hv
theorem d_asgV {i : Nat} (h : Ev te σ H v) (a : Ex H H1) (k : ∀ H2, Ex H1 H2 → tz D (σ.set i (some v)) H2) : tSeq (tAsg te (gName i)) tz D σ H1 := h H1 a _ fun H2 b => k H2 b
theorem d_if {b : Bool} (h : EvT t σ H b) (a : Ex H H1) (h1 : b = true → ∀ H2, Ex H1 H2 → tu { D with nx := tz D } σ H2) (h2 : b = false → ∀ H2, Ex H1 H2 → tw { D with nx := tz D } σ H2) : tSeq (tIfS t tu tw) tz D σ H1 :=
  h H1 a _ fun H2 c => by
    cases b with
    | true => exact h1 rfl H2 c
    | false => exact h2 rfl H2 c
theorem d_when {b : Bool} (h : EvT t σ H b) (a : Ex H H1) (h1 : b = true → ∀ H2, Ex H1 H2 → tu { D with nx := tz D } σ H2) (h2 : b = false → ∀ H2, Ex H1 H2 → tz D σ H2) : tSeq (tIfS t tu tNext) tz D σ H1 := d_if h a h1 h2
/-- the last statement an if -/
theorem d_ifZ {b : Bool} (h : EvT t σ H b) (a : Ex H H1) (h1 : b = true → ∀ H2, Ex H1 H2 → tu D σ H2) (h2 : b = false → ∀ H2, Ex H1 H2 → tw D σ H2) : tIfS t tu tw D σ H1 :=
  h H1 a _ fun H2 c => by
    cases b with
    | true => exact h1 rfl H2 c
    | false => exact h2 rfl H2 c
/-- a loop over what is walked: Inv by the turn, the slots, what is known -/
theorem d_for {wi : TI} {g : TG} {n : Nat} {P : Hp → Nat → V → Prop} (hwi : WiD wi σ H n P) (a : Ex H H1) (Inv : Nat → L2.St → Hp → Prop) (Done : L2.St → Hp → Prop) (h0 : ∀ N H2, Gr H H1 N H2 → Inv 0 σ N)
    (hs : ∀ (i : Nat) (x : V) (σ' : L2.St) (B H' : Hp), i < n → Inv i σ' B → Gr H H1 B H' → P B i x → (∀ B2, Ex B B2 → Inv i σ' B2) → ∀ Nx Bk : L2.St → Hp → Prop, (∀ σ3 B3 H3, Gr B H' B3 H3 → Inv (i + 1) σ3 B3 → Nx σ3 H3) → (∀ σ3 B3 H3, Gr B H' B3 H3 → Done σ3 B3 → Bk σ3 H3) →
      g x σ' H' fun σ2 H2 => tu { D with nx := Nx, ct := Nx, bk := Bk } σ2 H2)
    (mono : ∀ i σ' B B2, Inv i σ' B → Ex B B2 → Inv i σ' B2)
    (hd : ∀ σ' N H2, Gr H H1 N H2 → Inv n σ' N → D.nx σ' H2) (hb : ∀ σ' N H2, Gr H H1 N H2 → Done σ' N → D.nx σ' H2) : tFor wi g tu D σ H1 :=
  hwi H1 a _ fun J N1 H2 G F => by
    refine ⟨fun i m σ' H' => m = n - i ∧ i ≤ n ∧ ∃ B, Gr H H1 B H' ∧ Ex N1 B ∧ Inv i σ' B, ⟨n, by simp, Nat.zero_le _, N1, G, Ex.refl _, h0 N1 H2 G⟩, ?_⟩
    rintro i m σ' H' ⟨rfl, hi, B, b1, b2, b3⟩
    by_cases hlt : i < n
    · refine .inr ⟨F.go H' (b2.trans b1.sub) i hlt, fun σ3 H3 => ∃ B, Gr H H1 B H3 ∧ Ex N1 B ∧ Inv (i + 1) σ3 B, fun σ3 H3 p' => ⟨n - (i + 1), by omega, rfl, hlt, p'⟩, fun x H3 y => ?_⟩
      obtain ⟨B2, g2, px⟩ := F.yld B H' i x H3 b2 b1.sub hlt y
      refine hs i x σ' B2 H3 hlt (mono _ _ _ _ b3 g2.bas) (b1.trans g2) px (fun B3 e => mono _ _ _ _ b3 (g2.bas.trans e)) _ _ (fun σ3 B3 H4 g4 i4 => ⟨B3, (b1.trans g2).trans g4, (b2.trans g2.bas).trans g4.bas, i4⟩) fun σ3 B3 H4 g4 dn => hb σ3 B3 H4 ((b1.trans g2).trans g4) dn
    · have ei : i = n := by omega
      subst ei
      exact .inl ⟨F.stop H' (b2.trans b1.sub), hd σ' B H' b1 b3⟩
/-- .. with statements behind it -/
theorem q_for {wi : TI} {g : TG} {n : Nat} {P : Hp → Nat → V → Prop} (hwi : WiD wi σ H n P) (a : Ex H H1) (Inv : Nat → L2.St → Hp → Prop) (Done : L2.St → Hp → Prop) (h0 : ∀ N H2, Gr H H1 N H2 → Inv 0 σ N)
    (hs : ∀ (i : Nat) (x : V) (σ' : L2.St) (B H' : Hp), i < n → Inv i σ' B → Gr H H1 B H' → P B i x → (∀ B2, Ex B B2 → Inv i σ' B2) → ∀ Nx Bk : L2.St → Hp → Prop, (∀ σ3 B3 H3, Gr B H' B3 H3 → Inv (i + 1) σ3 B3 → Nx σ3 H3) → (∀ σ3 B3 H3, Gr B H' B3 H3 → Done σ3 B3 → Bk σ3 H3) →
      g x σ' H' fun σ2 H2 => tu { D with nx := Nx, ct := Nx, bk := Bk } σ2 H2)
    (mono : ∀ i σ' B B2, Inv i σ' B → Ex B B2 → Inv i σ' B2)
    (hd : ∀ σ' N H2, Gr H H1 N H2 → Inv n σ' N → tz D σ' H2) (hb : ∀ σ' N H2, Gr H H1 N H2 → Done σ' N → tz D σ' H2) : tSeq (tFor wi g tu) tz D σ H1 :=
  d_for (D := { D with nx := tz D }) hwi a Inv Done h0 hs mono hd hb
theorem tg_unpack {n : Nat} (is : List Nat) (hv : Da K H v (.tuple ds)) (a : Ex H H1) (hn : ds.length = n) (hi : n = is.length) {R : L2.St → Hp → Prop} (k : ∀ vs, DaAll K H vs ds → R (setAll σ is vs) H1) : gTup K n (gs is) v σ H1 R := by
  cases hv with
  | tup h1 h2 => exact ⟨_, _, rfl, ex_t a h1, by rw [h2.len, hn], gs_all is _ σ H1 _ (by rw [h2.len, hn, hi]) (k _ h2)⟩
end
end Sg
end
section
set_option maxRecDepth 100000
set_option maxHeartbeats 4000000
/-! enumerate(t), t a tuple: as a walk of the layer, and over data. -/
namespace Sg
open PySem PySem.Spec PyProof.Rows L2 Evl
section
open PySem.AutoSeq1 (wpAny_loadPart')
def madeEnum (h : Heap) (t it : Addr) : Heap :=
  (h.push { cls := .type "tuple_iterator", data := .fields #[.ref t, .int 0 0] }).push { cls := .type "enumerate", data := .fields #[.none, .bool false, .ref it, rawInt 0, .none, .none] }
/-- enumerate's own making, over a tuple: the tuple's iterator is laid, then the enumerate object -/
theorem enumT_new (t : Addr) (xs : Array Value) (n : Nat) (dd : Option Addr) (sl : Array (Option Value)) :
    Meets (Builtin.«enumerate.__new__» ⟨[.type "enumerate", .ref t], []⟩) (fun _ R s =>
      s.heap.get? t = some { cls := .type "tuple", dict := dd, data := .seq xs n, slots := sl } ∧
      ∀ it, it = s.heap.objs.size →
      R (.ok (.ret (.ref (it + 1)))) { s with heap := madeEnum s.heap t it }) :=
  .of_wp fun prog w A R s h => by
    obtain ⟨hp, g, d, tk, os⟩ := s
    obtain ⟨ht, h⟩ := h
    have h := h _ rfl
    unfold madeEnum at h
    have f1 := sub_enumerate
    have T : Heap.IsTuple (Shared.heap ⟨hp, g, d, tk, os⟩) t xs := ⟨_, ht, rfl, n, rfl⟩
    have z : (hp.push { cls := .type "tuple_iterator", data := .fields #[.ref t, .int 0 0] }).objs.size = hp.objs.size + 1 := Heap.size_push ..
    rw [← z] at h
    wp_walk using wpAny_loadPart' ht
    refine wpAny_stack_any fun st => wpAny_pure ?_
    split
    · rename_i c _ _ _ _ _
      cases (c == Value.type "enumerate") <;> (wp_walk using wpAny_loadPart' ht, wpAny_pyIter_tuple T; exact ⟨_, rfl, h⟩)
    · wp_walk using wpAny_loadPart' ht, wpAny_pyIter_tuple T
      exact ⟨_, rfl, h⟩
end
section
variable {prog : Program} {w : World} {A : Around} {E : Value → Shared → Prop} {s : Shared}
theorem call_enumT {t : Addr} {xs : Array Value} {Q : Value → Shared → Prop} (T : s.heap.IsTuple t xs)
    (h : ∀ h' it, it = s.heap.objs.size → IsEnum h' (it + 1) it 0 .none → h'.IsTupleIter it t 0 →
      (∀ b o, s.heap.get? b = some o → h'.get? b = some o) → Q (.ref (it + 1)) { s with heap := h' }) :
    wpAny (model prog w) A (call (.type "enumerate") [.ref t]) Q E s := by
  obtain ⟨⟨c, dd, dt, sl⟩, ht, hc, n, hd⟩ := T
  simp only at hc hd
  subst hc hd
  refine callType_new F.called_enumerate (by decide) (F.typeCall_enumerate_1 _) (F.newCall_enumerate_1 _)
    (fun obj => F.args_object_init_2 obj _) F.entry_enumerate_new (enumT_new t xs n dd sl) ⟨ht, fun it hit => ?_⟩
  subst hit
  unfold madeEnum
  generalize e1 : s.heap.push { cls := .type "tuple_iterator", data := .fields #[.ref t, .int 0 0] } = h1
  have z1 : h1.objs.size = s.heap.objs.size + 1 := by rw [← e1]; exact Heap.size_push ..
  have en : IsEnum (h1.push { cls := .type "enumerate", data := .fields #[.none, .bool false, .ref s.heap.objs.size, rawInt 0, .none, .none] }) (s.heap.objs.size + 1) s.heap.objs.size 0 .none := by
    rw [← z1]
    exact Heap.get?_push_size h1 rfl
  have ti : h1.get? s.heap.objs.size = some { cls := .type "tuple_iterator", data := .fields #[.ref t, .int 0 0] } := by
    rw [← e1]
    exact Heap.get?_push_size _ rfl
  refine ⟨⟨_, en, rfl⟩, h _ _ rfl en ⟨{ cls := .type "tuple_iterator", data := .fields #[.ref t, .int 0 0] }, Heap.get?_push_of_some _ ti, rfl, rfl⟩ fun b o q => ?_⟩
  refine Heap.get?_push_of_some _ ?_
  rw [← e1]
  exact Heap.get?_push_of_some _ q
end
/-- the tuple at a: new pairs of a number and an item -/
def IteT (K : PySem.W.Frag) (a : Addr) : It where
  go := fun i H => ∃ xs x, SqT K H a xs ∧ xs[i]? = some x
  yld := fun i H v H' => ∃ T x, v = .ref T ∧ H T = none ∧ H' = upd H T (.tup [.int (i : Nat), x]) ∧ ∀ xs, SqT K H a xs → xs[i]? = some x
  stop := fun i H => ∃ xs, SqT K H a xs ∧ xs.length = i
theorem turn_enumT {P : Program} {w : World} {K : PySem.W.Frag} {elts : List Expr} {kk : Nat} {tpos : Pos} (a e it : Addr) (hai : a ≠ it) (hae : a ≠ e) :
    Turn P w K (.Tuple elts kk tpos) (IteT K a) [e, it] e (fun i h => (∃ old, IsEnum h e it ((i : Nat) : Int) old) ∧ h.IsTupleIter it a i ∧ e ≠ it) where
  mem := List.mem_cons_self
  obj := fun i h st b hb => by
    obtain ⟨⟨old, he⟩, ⟨o, ho, _, hd⟩, _⟩ := st
    rcases List.mem_cons.mp hb with z | z
    · rw [z]
      exact ⟨_, he, fun v q => nomatch q⟩
    · rw [List.mem_singleton.mp z]
      exact ⟨o, ho, fun v q => by rw [hd] at q; cases q⟩
  keep := fun i h h' st k => by
    obtain ⟨⟨old, he⟩, hi, hne⟩ := st
    exact ⟨⟨old, k e List.mem_cons_self _ he⟩, hi.at fun o q => k it (by simp) o q, hne⟩
  item := by
    intro X hP hw hK hc i pins s σ H E I hf st hg
    subst hP hw hK
    obtain ⟨⟨old, he⟩, hit, hne⟩ := st
    obtain ⟨xs, x, hq, hx⟩ := hg
    obtain ⟨its, rv, p, hz⟩ := I.tuple hq
    obtain ⟨u, hu, ru⟩ := rv.get hx
    have hel : e < s.heap.objs.size := Heap.lt_size he
    have hil : it < s.heap.objs.size := by
      obtain ⟨_, q, _⟩ := hit
      exact Heap.lt_size q
    have hD := I.ok.hd hc
    have Dr := Draws.tuple (prog := X.prog) (w := X.w) (A := X.A.in1) hD it a hai its.toArray
    have hlt : i < its.toArray.size := by
      obtain ⟨h1, _⟩ := List.getElem?_eq_some_iff.mp hu
      simpa using h1
    refine wpAny_pyNext_enum_itemD Dr he ⟨hit, p⟩ hlt hne (by simp [hne, Ne.symm hae]) fun y h' tk hy ho hst hT hsz hk => ?_
    have ey : y = u := by
      have h1 : its[i]? = some y := by simpa using hy
      rw [hu] at h1
      exact (Option.some.inj h1).symm
    subst ey
    refine ⟨_, rfl, wpAny_letOwnedTupleGo_enum (s := { s with heap := h', toks := tk + 1 }) ho fun h'' he' sb => ?_⟩
    have hT2 : h''.get? s.heap.objs.size = some { cls := .type "tuple", data := .seq #[.int i tk, y] } :=
      (sb.2 _ (Nat.ne_of_gt hel)).trans hT
    have new : ObjOk X.prog X.w (upd H s.heap.objs.size (.tup [.int (i : Nat), x])) h'' s.heap.objs.size (.tup [.int (i : Nat), x]) := by
      refine ⟨?_, [.int i tk, y], .cons ⟨_, rfl⟩ (.cons ru .nil), ⟨_, hT2, rfl, _, rfl⟩⟩
      show 2 ≤ sizeLine
      decide
    have I1 : Inv X pins σ (upd H s.heap.objs.size (.tup [.int (i : Nat), x])) { s with heap := h'', toks := tk + 1 } := by
      refine I.turnedNew (ch := [e, it]) (fun b ob hb q => ?_) hf (Nat.le_refl _) new
      have hbe : b ≠ e := fun z => hb (by simp [z])
      have hbi : b ≠ it := fun z => hb (by simp [z])
      exact (sb.2 b hbe).trans (hk b ob hbe hbi q)
    refine ⟨.ref s.heap.objs.size, _, I1, rfl, ⟨_, x, rfl, I.hok.fresh (Nat.le_refl _), rfl, fun ys hy => ?_⟩, ⟨⟨y, ?_⟩, ?_, hne⟩, fun b hb => ?_⟩
    · rw [I.tuple_inj hy hq]
      exact hx
    · have e1 : ((i + 1 : Nat) : Int) = (i : Int) + 1 := by omega
      rw [e1]
      exact he'
    · exact hst.1.at fun o q => (sb.2 it (Ne.symm hne)).trans q
    · have hb' : b < s.heap.objs.size := by
        rcases List.mem_cons.mp hb with z | z
        · exact z ▸ hel
        · exact List.mem_singleton.mp z ▸ hil
      rw [upd_ne (Nat.ne_of_lt hb')]
      exact (hf b hb).1
  done := by
    intro X hP hw hK hc i pins s σ H E I hf st hg
    subst hP hw hK
    obtain ⟨⟨old, he⟩, hit, hne⟩ := st
    obtain ⟨xs, hq, hx⟩ := hg
    obtain ⟨its, rv, p, hz⟩ := I.tuple hq
    obtain ⟨f0, f1, f2, f3, f4, f5⟩ := hf it (by simp)
    have hD := I.ok.hd hc
    have Dr := Draws.tuple (prog := X.prog) (w := X.w) (A := X.A.in1) hD it a hai its.toArray
    -- the tuple's iterator is through
    have hl : i = its.toArray.size := by
      have h1 := rv.length
      simp
      omega
    subst hl
    refine wpAny_pyNext_enum_endD Dr he ⟨hit, p⟩ fun h' eb => ⟨rfl, ?_⟩
    exact I.turned (t' := s.toks) (fun b o hb q => eb b o hb q) f0 f1 f3 f4 f5
  self := fun A i s Q E st h => by
    obtain ⟨⟨_, he⟩, _⟩ := st
    exact wpAny_pyIter_enum he h
/-- for i, x in enumerate(t) -/
def iEnumT (K : PySem.W.Frag) (ta : TA) : TI := fun σ H R => ta σ H fun vs H1 => ∃ a xs, vs = [.ref a] ∧ SqT K H1 a xs ∧ R (IteT K a) H1
theorem pi_enumT {X : Cx} {K : PySem.W.Frag} {e : Expr} {ta : TA} {p pos tpos : Pos} {elts : List Expr} {kk : Nat} (hg : Gl X "enumerate") (hm : X.mg "enumerate" = none) (ha : PA X [e] ta) (hK : X.K = K := by rfl)
    (hs : starEach [e] X.env = [(false, eval e X.env)] := by rfl) : PI X (.Tuple elts kk tpos) (.Call (.Name "enumerate" p) [e] [] pos) (iEnumT K ta) := by
  subst hK
  refine ⟨fun pins s σ H R I h => ?_⟩
  refine Call_ (ld_blt I hg hm boot_enumerate (PyProof.Rows.callWith_type1 (thn (ha.run pos pins s σ H _ I h) fun us s1 ⟨vs, H1, I1, r1, q1⟩ => ?_) hs rfl))
  obtain ⟨a, xs, ex, hq, q⟩ := q1
  subst ex
  cases r1 with
  | cons r rr =>
    cases rr
    cases r
    obtain ⟨its, rv, p', hz⟩ := I1.tuple hq
    have hal : a < s1.heap.objs.size := by
      obtain ⟨o, ho, _⟩ := p'
      exact Heap.lt_size ho
    refine call_enumT (show s1.heap.IsTuple a its.toArray from p') fun h' it eit he hit hk => wpAny_pyIter_enum he ?_
    subst eit
    have I2 : Inv X pins σ H1 { s1 with heap := h' } := I1.kept (t' := s1.toks) hk
    refine ⟨_, [s1.heap.objs.size + 1, s1.heap.objs.size], _, _, H1, rfl, I2, turn_enumT a _ _ (Nat.ne_of_lt hal) (Nat.ne_of_lt (Nat.lt_succ_of_lt hal)), ⟨⟨.none, he⟩, hit, Nat.succ_ne_self _⟩, fun b hb => ?_, q⟩
    have hle : s1.heap.objs.size ≤ b := by
      rcases List.mem_cons.mp hb with z | z
      · rw [z]
        exact Nat.le_add_right _ _
      · rw [List.mem_singleton.mp z]
        exact Nat.le_refl _
    exact I1.fpOk hle (I1.hok.fresh hle)
/-- .. over data: the turn's pair is (i, the i-th) -/
theorem wd_enumT {K : PySem.W.Frag} {σ : L2.St} {H : Hp} {ta : TE} {ds : List PyData} (h : EvD K ta σ H (.tuple ds)) : WiD (iEnumT K (tCons ta tNil)) σ H ds.length (fun N i x => ∃ d, ds[i]? = some d ∧ Da K N x (.tuple [.int (i : Int), d])) := fun H1 a R k =>
  h H1 a _ fun v N H2 b hv => by
    cases hv with
    | @tup p xs _ h1 h2 =>
      refine ⟨p, xs, rfl, ex_t b.sub h1, k _ N H2 b ⟨fun H3 c i hi => ?_, fun B H3 i x H4 c c2 hi y => ?_, fun H3 c => ⟨xs, ex_t c h1, h2.len⟩⟩⟩
      · have hx : i < xs.length := by rw [h2.len]; exact hi
        exact ⟨xs, xs[i], ex_t c h1, List.getElem?_eq_getElem hx⟩
      · obtain ⟨T, z, rfl, nT, rfl, hz⟩ := y
        obtain ⟨d, e1, e2⟩ := h2.get (hz xs (ex_t (c.trans c2) h1))
        have nB : B T = none := fresh_back c2 nT
        exact ⟨upd B T (.tup [.int (i : Nat), z]), .alloc c2 nT, d, e1, .tup (st_of upd_same) (.cons (.int _) (.cons (e2.ex (c.trans (Ex.new nB))) .nil))⟩
end Sg
end
section
set_option maxRecDepth 100000
set_option maxHeartbeats 4000000
/-! sorted(xs), xs a list of alike data. -/
namespace Sg
open PySem PySem.Spec PyProof.Rows L2 Evl
/-- data in order -/
def sortD (ds : List PyData) : List PyData := ds.mergeSort (PySem.W.dataLe false id)
theorem sortD_len (ds : List PyData) : (sortD ds).length = ds.length := List.length_mergeSort ds
theorem sortD_mem {ds : List PyData} {d : PyData} : d ∈ sortD ds ↔ d ∈ ds := (List.mergeSort_perm ds _).mem_iff
def rSortD (K : PySem.W.Frag) : List V → Hp → VK → Prop := fun vs H Q => ∃ (a : Addr) (xs : List V) (N : Hp) (ds : List PyData), vs = [.ref a] ∧ SqL K H a xs ∧ DaAll K N xs ds ∧ Ex N H ∧
  PySem.W.AllAlike ds ∧ PySem.W.Sortable ds ∧ ds.length ≤ sizeLine ∧ (∀ d ∈ ds, d.depth ≤ 64) ∧ ∀ p ys, H p = none → DaAll K N ys (sortD ds) → Q (.ref p) (upd H p (.lst ys))
/-- a value of the heap as one of the layer -/
theorem each_vals {K : PySem.W.Frag} {N : Hp} : ∀ {xs : List V} {us : List Value} {ds : List PyData}, Vals xs us → DaAll K N xs ds → PySem.W.EachIs (fun u d => ∃ x, RelV x u ∧ Da K N x d) us ds
  | _, _, _, .nil, h => by cases h; exact .nil
  | _, _, _, .cons r t, h => by
    cases h with
    | cons h1 h2 => exact .cons ⟨_, r, h1⟩ (each_vals t h2)
theorem vals_each {K : PySem.W.Frag} {N : Hp} : ∀ {us : List Value} {ds : List PyData}, PySem.W.EachIs (fun u d => ∃ x, RelV x u ∧ Da K N x d) us ds → ∃ xs, Vals xs us ∧ DaAll K N xs ds
  | _, _, .nil => ⟨[], .nil, .nil⟩
  | _, _, .cons ⟨x, r, h⟩ t => by
    obtain ⟨xs, a, b⟩ := vals_each t
    exact ⟨x :: xs, .cons r a, .cons h b⟩
theorem cr_sortD {X : Cx} {K : PySem.W.Frag} (hu : X.A.units + 70 < cLine) (hK : X.K = K := by rfl) : CallR X (.builtin "sorted") (rSortD K) := by
  subst hK
  intro pins s σ H vs us Q I r h
  obtain ⟨a, xs, N, ds, rfl, hs, hd, e, al, so, hz, dp, q⟩ := h
  obtain ⟨its, rv, hl, _⟩ := I.list hs
  rw [Vals.ref1 r]
  have ea := each_vals rv hd
  have er : PySem.W.EachIs (fun v d => ∃ as, Reads s.heap v (id d) as) its ds := ea.mono fun u d ⟨x, r1, h1⟩ => Dp.reads I d x u (h1.ex e).dp r1
  refine PySem.W.sorted_data (enc := id) hl.isList ea er (by rw [List.map_id]; exact al) (by rw [List.map_id]; exact so) hz (fun d hm => ?_) fun out ho eo => ?_
  · have := dp d hm
    show X.A.units + 2 + d.depth < cLine
    omega
  · obtain ⟨ys, ry, dy⟩ := vals_each eo
    obtain ⟨ep, he'⟩ := PyProof.Rows.sortedAll_at s.heap its out.toArray
    have hly : ys.length ≤ sizeLine := by
      rw [ry.length, ho]
      exact hz
    have hp : H (s.heap.objs.size + 1) = none := I.hok.fresh (Nat.le_succ _)
    refine ⟨.ref _, upd H (s.heap.objs.size + 1) (.lst ys), I.laid (t' := s.toks) (fun _ _ => PyProof.Rows.sortedAll_old) (Nat.le_succ _) ⟨hly, out, ep, ry, ?_⟩, rfl, q _ ys hp dy⟩
    simpa using he'
section
variable {K : PySem.W.Frag} {σ : L2.St} {H : Hp} {te : TE} {ds : List PyData}
/-- sorted(e), e a list of data -/
theorem ed_sort (h : EvD K te σ H (.list ds)) (al : PySem.W.AllAlike ds) (so : PySem.W.Sortable ds) (hz : ds.length ≤ 100000) (dp : ∀ d ∈ ds, d.depth ≤ 64) : EvD K (tCB (rSortD K) (tCons te tNil)) σ H (.list (sortD ds)) := fun H1 a Q q =>
  h H1 a _ fun v N H2 b hv => by
    cases hv with
    | @lst p xs _ h1 h2 =>
      refine ⟨p, xs, N, ds, rfl, sq_of (b.sub _ _ h1), h2, b.sub, al, so, sz_of hz, dp, fun p2 ys hp hy => ?_⟩
      exact q _ _ _ (b.trans (.alloc b.sub hp)) (.lst upd_same (hy.ex (Ex.new (fresh_back b.sub hp))))
end
end Sg
end
section
set_option maxRecDepth 100000
set_option maxHeartbeats 4000000
/-! Sets of keys (texts, numbers) with what they hold, one by one: made of any list or tuple, sorted, counted. -/
namespace Sg
open PySem PySem.Spec PyProof.Rows L2 Evl
/-! ### lists in another order -/
theorem perm_back {α β : Type} {f : α → β} {l m : List β} (pm : l.Perm m) : ∀ {L : List α}, m = L.map f → ∃ M : List α, l = M.map f ∧ M.Perm L := by
  induction pm with
  | nil => intro L e; exact ⟨[], rfl, by cases L with | nil => exact .refl _ | cons _ _ => cases e⟩
  | cons x _ ih =>
    intro L e
    cases L with
    | nil => cases e
    | cons y L =>
      obtain ⟨e1, e2⟩ := List.cons.inj e
      obtain ⟨M, m1, m2⟩ := ih e2
      exact ⟨y :: M, by rw [e1, m1, List.map_cons], m2.cons y⟩
  | swap x y l =>
    intro L e
    revert e; match L with
    | [] => intro e; cases e
    | [_] => intro e; cases e
    | a :: b :: L =>
      intro e
      obtain ⟨e1, e2⟩ := List.cons.inj e
      obtain ⟨e2, e3⟩ := List.cons.inj e2
      exact ⟨b :: a :: L, by rw [e1, e2, e3, List.map_cons, List.map_cons], .swap _ _ _⟩
  | trans _ _ ih1 ih2 =>
    intro L e
    obtain ⟨M, m1, m2⟩ := ih2 e
    obtain ⟨N, n1, n2⟩ := ih1 m1
    exact ⟨N, n1, n2.trans m2⟩
/-- all of h is there -/
abbrev Ext (h h' : Heap) : Prop := ∀ b o, h.get? b = some o → h'.get? b = some o
/-- the members among the first i: each once -/
structure Has {α κ : Type} (ks : List (α × κ)) (i : Nat) (L : List (α × κ)) : Prop where
  sub : ∀ p ∈ L, p ∈ ks.take i
  all : ∀ p ∈ ks.take i, p.2 ∈ L.map (·.2)
theorem Has.none {α κ : Type} (ks : List (α × κ)) : Has ks 0 [] := ⟨fun p h => (nomatch h), fun p h => by simp at h⟩
theorem take_one {α : Type} {l : List α} {i : Nat} {x : α} (h : l[i]? = some x) : ∀ y, y ∈ l.take (i + 1) ↔ y ∈ l.take i ∨ y = x := fun y => by
  rw [List.take_succ, h]
  simp
theorem Has.next {α κ : Type} [DecidableEq κ] {ks L L' : List (α × κ)} {i : Nat} {x : α × κ} (g : Has ks i L) (h : ks[i]? = some x) (c1 : x.2 ∈ L.map (·.2) → L' = L) (c2 : x.2 ∉ L.map (·.2) → L'.Perm (x :: L)) : Has ks (i + 1) L' := by
  by_cases c : x.2 ∈ L.map (·.2)
  · rw [c1 c]
    refine ⟨fun p hp => (take_one h p).mpr (.inl (g.sub p hp)), fun p hp => ?_⟩
    rcases (take_one h p).mp hp with z | z
    · exact g.all p z
    · rw [z]; exact c
  · have pm := c2 c
    refine ⟨fun p hp => (take_one h p).mpr ?_, fun p hp => ?_⟩
    · rcases List.mem_cons.mp (pm.mem_iff.mp hp) with z | z
      · exact .inr z
      · exact .inl (g.sub p z)
    · refine (pm.map (·.2)).mem_iff.mpr ?_
      rcases (take_one h p).mp hp with z | z
      · exact List.mem_cons_of_mem _ (g.all p z)
      · rw [z]; exact List.mem_cons_self

section
variable {P : Program} {w : World} {A : Around} {E : Value → Shared → Prop} {s : Shared} {κ : Type} [DecidableEq κ] {knd : PySem.KeyKind P w κ}
/-- the order in which a set is walked is open, or by its table -/
def Led (w : World) (t : SetTable) : Prop := w.params.followText "set-order" = true ∨ t.led = true
/-- at a the set of these values, each with its key -/
structure KSet (knd : PySem.KeyKind P w κ) (h : Heap) (a : Addr) (L : List (Value × κ)) : Prop where
  ex : ∃ o es ep t, h.get? a = some o ∧ o.ExactSet ∧ o.data = .set es ep t ∧ es.toList = L.map (fun p => (knd.hash p.2, p.1)) ∧ t.fits es.size = true ∧ Ris t.place.toList ∧ Led w t
  each : ∀ p ∈ L, knd.is p.2 p.1 = true ∧ p.1.scannable = true
  nd : (L.map (·.2)).Nodup
  few : L.length < scanBound
theorem rows_size {L : List (Value × κ)} {es : Array (Int × Value)} (e : es.toList = L.map (fun p => (knd.hash p.2, p.1))) : es.size = L.length := by
  rw [← Array.length_toList, e, List.length_map]
theorem KSet.elems {h : Heap} {a : Addr} {L : List (Value × κ)} (R : KSet knd h a L) {es : Array (Int × Value)} (e : es.toList = L.map (fun p => (knd.hash p.2, p.1))) : ElemsOf knd es.toList := fun x hx => by
  rw [e] at hx
  obtain ⟨p, hp, rfl⟩ := List.mem_map.mp hx
  exact ⟨⟨p.2, (R.each p hp).1, rfl⟩, (R.each p hp).2⟩
theorem KSet.keep {h h' : Heap} {a : Addr} {L : List (Value × κ)} (R : KSet knd h a L) (k : ∀ o, h.get? a = some o → h'.get? a = some o) : KSet knd h' a L :=
  let ⟨o, es, ep, t, ho, r⟩ := R.ex
  ⟨⟨o, es, ep, t, k o ho, r⟩, R.each, R.nd, R.few⟩
/-- stored, and laid anew where it is too full -/
theorem kset_store {g : Bool → Sem Unit} (hg : ∀ (b : Bool) (s₁ : Shared) (Q' : Unit → Shared → Prop), Q' () s₁ → wpAny (model P w) A (g b) Q' E s₁) {a : Addr} {L : List (Value × κ)}
    {o : Obj} {es : Array (Int × Value)} {ep : Nat} {t : SetTable} (ho : s.heap.get? a = some o) (hx : o.ExactSet) (hd : o.data = .set es ep t) {es1 : Array (Int × Value)} {t2 : SetTable}
    (e1 : es1.toList = L.map (fun p => (knd.hash p.2, p.1))) (each : ∀ p ∈ L, knd.is p.2 p.1 = true ∧ p.1.scannable = true) (nd : (L.map (·.2)).Nodup) (few : L.length < scanBound)
    (hf : t2.fits es1.size = true) (hr : Ris t2.place.toList) (hl : Led w t2) {dummy : Bool} {R : Option Bool → Shared → Prop}
    (hR : ∀ h' L', Heap.SameBut a s.heap h' → KSet knd h' a L' → L'.Perm L → R (some true) { s with heap := h' }) :
    wpAny (model P w) A (do
      storeSet a es1 t2
      if (!dummy && t2.tooFull) = true then do
          g (relayAll t2 es1 (SetTable.grown es1.size)).2.2
          storeSet a (relayAll t2 es1 (SetTable.grown es1.size)).1 (relayAll t2 es1 (SetTable.grown es1.size)).2.1
          pure (some true)
        else pure (some true)) R E s := by
  have z1 : es1.size < scanBound := by rw [rows_size (knd := knd) e1]; exact few
  have a1 := store_at (es' := es1) (t' := t2) ho hd
  have b1 := Heap.SameBut.update s.heap a (Obj.putSet es1 t2)
  refine wpAny_bind (wpAny_storeSet_of ho hd ?_ (fits_of_scanBound z1))
  split
  · have q1 := relayAll_perm t2 es1 (SetTable.grown es1.size)
    have q2 := relayAll_fits t2 es1 (SetTable.grown es1.size)
    have q3 := relayAll_ris t2 es1 (SetTable.grown es1.size)
    have q4 := relayAll_led t2 es1 (SetTable.grown es1.size)
    generalize relayAll t2 es1 (SetTable.grown es1.size) = Z at q1 q2 q3 q4 ⊢
    obtain ⟨es2, t3, gave⟩ := Z
    dsimp only at q1 q2 q3 q4 ⊢
    obtain ⟨M, m1, m2⟩ := perm_back q1 e1
    have z2 : es2.size = es1.size := by rw [← Array.length_toList, q1.length_eq, Array.length_toList]
    refine wpAny_bind (hg _ _ _ (wpAny_bind (wpAny_storeSet_of a1 rfl (wpAny_pure (hR _ M (b1.trans (Heap.SameBut.update _ a _)) ?_ m2)) (fits_of_scanBound (by rw [z2]; exact z1)))))
    exact ⟨⟨_, es2, _, t3, store_at a1 rfl, hx, rfl, m1, q2, q3, hl.imp id fun z => by rw [q4]; exact z⟩, fun p hp => each p (m2.mem_iff.mp hp), (m2.map (·.2)).nodup_iff.mpr nd, by rw [m2.length_eq]; exact few⟩
  · exact wpAny_pure (hR _ L b1 ⟨⟨_, es1, _, t2, a1, hx, rfl, e1, hf, hr, hl⟩, each, nd, few⟩ (.refl _))
theorem kset_add {a : Addr} {L : List (Value × κ)} {v : Value} {k : κ} {Q : Bool → Shared → Prop} (R : KSet knd s.heap a L) (hk : knd.is k v = true) (hs : v.scannable = true) (room : L.length + 1 < scanBound)
    (hQ : ∀ b h' L', Heap.SameBut a s.heap h' → KSet knd h' a L' → (k ∈ L.map (·.2) → L' = L) → (k ∉ L.map (·.2) → L'.Perm ((v, k) :: L)) → Q b { s with heap := h' }) :
    wpAny (model P w) A (setAddHashed a v (knd.hash k)) Q E s := by
  obtain ⟨o, es, ep, t, ho, hx, hd, he, hf, hr, hl⟩ := R.ex
  have hz : es.size = L.length := rows_size (knd := knd) he
  have el := R.elems he
  unfold setAddHashed setAddHashedIn
  refine wpAny_holding (wpAny_bind (wpAny_setState_of ho hd hf ?_))
  dsimp only
  rw [byScan_of hs (by rw [hz]; exact R.few) el]
  simp only [↓reduceIte]
  unfold setAddByScan
  refine wpAny_bind (wpAny_bind (wpAny_rule (wpAny_bind (wpAny_setScan_of hk ho hd hf el ?_))))
  cases fi : List.findIdx? (fun e => knd.is k e.2) es.toList with
  | some j =>
    dsimp only
    obtain ⟨hj, pj, _⟩ := List.findIdx?_eq_some_iff_getElem.mp fi
    have mj : es.toList[j] ∈ L.map (fun p => (knd.hash p.2, p.1)) := by rw [← he]; exact List.getElem_mem hj
    obtain ⟨p, hp, ep2⟩ := List.mem_map.mp mj
    rw [← ep2] at pj
    have ek : p.2 = k := knd.inj _ _ _ (R.each p hp).1 pj
    exact wpAny_pure (wpAny_pure (hQ false s.heap L (Heap.SameBut.refl a s.heap) R (fun _ => rfl) fun n => absurd (List.mem_map.mpr ⟨p, hp, ek⟩) n))
  | none =>
    dsimp only
    have nk : k ∉ L.map (·.2) := fun z => by
      obtain ⟨p, hp, e⟩ := List.mem_map.mp z
      have c := List.findIdx?_eq_none_iff.mp fi (knd.hash p.2, p.1) (by rw [he]; exact List.mem_map.mpr ⟨p, hp, rfl⟩)
      rw [← e, (R.each p hp).1] at c
      cases c
    have gv : ∀ (b : Bool) {s₁ : Shared} {Q' : Unit → Shared → Prop}, Q' () s₁ → wpAny (model P w) A (match b with | true => rule "set.scan.the-table-gave-way" | false => pure ()) Q' E s₁ := fun b s₁ Q' q => by
      cases b <;> first | exact wpAny_pure q | exact wpAny_rule q
    have q1 := layNew_perm t es (knd.hash k) v
    have q2 := layNew_fits t es (knd.hash k) v
    have q3 := layNew_ris t es (knd.hash k) v hr
    have q4 := layNew_led t es (knd.hash k) v
    generalize layNew t es (knd.hash k) v = Z at q1 q2 q3 q4 ⊢
    obtain ⟨es1, t1, dummy, gave⟩ := Z
    dsimp only at q1 q2 q3 q4 ⊢
    rw [Array.toList_push] at q1
    obtain ⟨M, m1, m2⟩ := perm_back (f := fun p : Value × κ => (knd.hash p.2, p.1)) (L := (v, k) :: L) (q1.trans (List.perm_append_singleton _ _)) (by rw [List.map_cons, he])
    have led : Led w t1 := hl.imp id fun z => by rw [q4]; exact z
    have each : ∀ p ∈ M, knd.is p.2 p.1 = true ∧ p.1.scannable = true := fun p hp => by
      rcases List.mem_cons.mp (m2.mem_iff.mp hp) with z | z
      · rw [z]; exact ⟨hk, hs⟩
      · exact R.each p z
    have nd : (M.map (·.2)).Nodup := (m2.map (·.2)).nodup_iff.mpr (List.nodup_cons.mpr ⟨nk, R.nd⟩)
    have few : M.length < scanBound := by rw [m2.length_eq]; exact room
    have fin : ∀ h' L', Heap.SameBut a s.heap h' → KSet knd h' a L' → L'.Perm M → Q true { s with heap := h' } := fun h' L' sb r pm => hQ true h' L' sb r (fun z => absurd z nk) fun _ => pm.trans m2
    refine wpAny_bind (gv _ ?_)
    split
    · refine wpAny_bind ?_
      rw [hashByValue_scannable 8 hs]
      refine wpAny_pure ?_
      refine kset_store (knd := knd) (L := M) ?_ ho hx hd m1 each nd few ?_ ?_ ?_ ?_
      · exact fun b s₁ Q' q => gv b q
      · first | (split <;> first | exact q2 | exact SetTable.fits_plain_off q2) | exact q2
      · first | (split <;> exact q3) | exact q3
      · first | (split <;> exact led) | exact led
      · intro h' L' sb r pm; exact wpAny_pure (fin h' L' sb r pm)
    · refine wpAny_bind (wpAny_pure ?_)
      simp only [↓reduceIte]
      refine kset_store (knd := knd) (L := M) ?_ ho hx hd m1 each nd few q2 q3 led ?_
      · exact fun b s₁ Q' q => gv b q
      · intro h' L' sb r pm; exact wpAny_pure (fin h' L' sb r pm)
end
end Sg
end
section
set_option maxRecDepth 100000
set_option maxHeartbeats 4000000
/-! set(xs), xs a list or a tuple, whatever its members are; sorted(set). -/
namespace Sg
open PySem PySem.Spec PyProof.Rows L2 Evl
section
variable {P : Program} {w : World} {A : Around} {E : Value → Shared → Prop} {s : Shared} {κ : Type} [DecidableEq κ]
/-- how one is put into the set at S, whatever stands in h0 -/
structure Adds (P : Program) (w : World) (A : Around) (S : Addr) (h0 : Heap) (ks : List (Value × κ)) (SP : Heap → List (Value × κ) → Prop) : Prop where
  keep : ∀ {h h' : Heap} {L}, SP h L → (∀ o, h.get? S = some o → h'.get? S = some o) → Ext h0 h' → SP h' L
  add : ∀ {s : Shared} {L p} {E : Value → Shared → Prop} {Q : Bool → Shared → Prop}, p ∈ ks → (∀ q ∈ L, q ∈ ks) → Ext h0 s.heap → SP s.heap L →
    (∀ b h' L' tk, s.toks ≤ tk → Heap.SameBut S s.heap h' → SP h' L' → (p.2 ∈ L.map (·.2) → L' = L) → (p.2 ∉ L.map (·.2) → L'.Perm (p :: L)) → Q b { s with heap := h', toks := tk }) →
    wpAny (model P w) A (setAdd S p.1) Q E s
theorem set_fill {I : Addr} {fp wr : List Addr} {G : Array GenState → Array GenState → Prop} {n : Nat} {Pv : Nat → Value → Prop} {St : Nat → Shared → Prop} {R : Result → Shared → Prop} {S : Addr} {h0 : Heap} {ks : List (Value × κ)}
    {SP : Heap → List (Value × κ) → Prop} (W : WalksS P w A.in1 I fp wr G n Pv St) (hS : S ∉ fp) (D : Adds P w A.in1 S h0 ks SP) (hn : n = ks.length) (hv : ∀ i v, Pv i v → ∃ p, ks[i]? = some p ∧ v = p.1)
    (hS0 : h0.get? S = none) (hw0 : ∀ b ∈ wr, h0.get? b = none) : ∀ (k i : Nat) (s : Shared) (L : List (Value × κ)), n - i = k → i ≤ n → St i s → Ext h0 s.heap → SP s.heap L → Has ks i L →
      (∀ s' L', Moved (S :: wr) G s s' → SP s'.heap L' → Has ks n L' → Ext h0 s'.heap → R (.ok (.ret .none)) s') → codeAny (model P w) A (.builtin "set.update.loop" ⟨[.ref S, .ref I], []⟩) R s := by
  have nw : S ∉ wr := fun h => hS (W.sub _ h)
  have up : ∀ b ∈ wr, b ∈ S :: wr := fun b hb => List.mem_cons_of_mem _ hb
  have ext : ∀ {s s' : Shared}, Moved wr G s s' → Ext h0 s.heap → Ext h0 s'.heap := fun hm hk b o e => hm.heap b o (fun hb => by rw [hw0 b hb] at e; cases e) (hk b o e)
  intro k
  induction k with
  | zero =>
    intro i s L hk hi st hx sp g hR
    obtain rfl : i = n := by omega
    refine codeAny_builtin F.entry_set_update_loop ?_
    rw [Around.under_plainId F.plain_set_update_loop _]
    show wpAny _ A.in1 (pyNext (.ref I) >>= _) _ _ s
    refine wpAny_bind (W.done s _ _ st fun s' hm => ?_)
    show wpAny _ A.in1 (ret Value.none) _ _ s'
    exact wpAny_pure (hR s' L (hm.mono up) (D.keep sp (fun o e => hm.heap S o nw e) (ext hm hx)) g (ext hm hx))
  | succ k ih =>
    intro i s L hk hi st hx sp g hR
    have hlt : i < n := by omega
    refine codeAny_builtin F.entry_set_update_loop ?_
    rw [Around.under_plainId F.plain_set_update_loop _]
    show wpAny _ A.in1 (pyNext (.ref I) >>= _) _ _ s
    refine wpAny_bind (W.item i s _ _ hlt st fun v s' hP st' hm => ?_)
    obtain ⟨p, hp, rfl⟩ := hv i v hP
    have hx' := ext hm hx
    show wpAny _ A.in1 (holding [p.1] (setAdd S p.1) >>= _) _ _ s'
    refine wpAny_bind (wpAny_holding (D.add (List.mem_of_getElem? hp) (fun q hq => List.mem_of_mem_take (g.sub q hq)) hx' (D.keep sp (fun o e => hm.heap S o nw e) hx') fun b h' L' tk ht sb sp' c1 c2 => ?_))
    have hx2 : Ext h0 h' := fun b o e => (sb.2 b (fun z => by rw [z, hS0] at e; cases e)).trans (hx' b o e)
    refine wpAny_pure ⟨plainId_quiet F.plain_set_update_loop _, ih (i + 1) _ L' (by omega) hlt (W.frame _ s' _ _ st' ht fun b hb o e => ?_) hx2 sp' (g.next hp c1 c2) fun s'' L2 hm2 sp2 g2 hx3 => ?_⟩
    · rw [sb.2 b (fun h : b = S => hS (by rw [← h]; exact hb))]
      exact e
    · refine hR s'' L2 (Moved.trans W.gtrans ((hm.mono up).then_heap ht fun b o hb e => ?_) hm2) sp2 g2 hx3
      rw [sb.2 b (fun h : b = S => hb (by rw [h]; exact List.mem_cons_self))]
      exact e
/-- the object of a new set -/
abbrev setObj0 (w : World) : Obj := { cls := .type "set", dict := none, data := .set #[] 0 (.fresh 0 0 (!w.params.followText "set-order")) }
theorem zip_at {items : Array Value} {ks : List (Value × κ)} (hit : items.toList = ks.map (·.1)) (i : Nat) (v : Value) (hv : items[i]? = some v) : ∃ p, ks[i]? = some p ∧ v = p.1 := by
  have q : items.toList[i]? = some v := by rw [Array.getElem?_toList]; exact hv
  rw [hit, List.getElem?_map] at q
  obtain ⟨p, h1, h2⟩ := Option.map_eq_some_iff.mp q
  exact ⟨p, h1, h2.symm⟩
theorem get_new {h : Heap} {b : Addr} (hb : h.objs.size ≤ b) : h.get? b = none := by
  cases q : h.get? b with
  | none => rfl
  | some o => exact absurd (Nat.lt_of_lt_of_le (Heap.lt_size q) hb) (Nat.lt_irrefl _)
/-- set(xs), xs a list -/
theorem set_of_list {l : Addr} {items : Array Value} {ks : List (Value × κ)} {SP : Heap → List (Value × κ) → Prop} {Q : Value → Shared → Prop} (hh : A.handled = none) (hl : s.heap.IsList l items) (hit : items.toList = ks.map (·.1))
    (D : ∀ A', A'.handled = none → A'.units ≤ A.units + 6 → Adds P w A' s.heap.objs.size s.heap ks SP) (h00 : ∀ h', h'.get? s.heap.objs.size = some (setObj0 w) → SP h' [])
    (h : ∀ (h' : Heap) (tk : Nat) L, SP h' L → Has ks ks.length L → Ext s.heap h' → Q (.ref s.heap.objs.size) { s with heap := h', toks := tk }) :
    wpAny (model P w) A (call (.type "set") [.ref l]) Q E s := by
  have hz : items.size = ks.length := by
    have q := congrArg List.length hit
    rw [Array.length_toList, List.length_map] at q
    exact q
  obtain ⟨c, tl, hmro⟩ := F.called_set.mro
  have hmade := F.called_set.made
  have hsub := F.called_set.sub
  refine wpAny_call (codeAny_of_tree ?_)
  show wpAny _ _ (callAny (.type "set") _) _ _ _
  refine wpAny_pure ⟨Code.quiet_builtin _ (by decide +kernel), codeAny_builtin F.entry_type_call ?_⟩
  rw [Around.under_plain (weight_type_call_type "set" [.ref l] []) rfl]
  have h1 := F.called_set.notType
  have h2 := F.called_set.canCreate
  have hct := F.typeCall_set_1 (.ref l)
  repeat (any_goals (first | assumption | wp_step))
  refine codeAny_mono (code_set_led1 (.ref l) (E := E) (Q₁ := fun obj s₁ => obj = .ref s.heap.objs.size ∧ s₁ = { s with heap := s.heap.push (setObj0 w) }) ⟨rfl, rfl⟩) fun r s₁ hr => ?_
  cases r with
  | error e => exact hr
  | ok fl =>
    cases fl with
    | ret obj =>
      obtain ⟨rfl, rfl⟩ := hr
      have hS : (s.heap.push (setObj0 w)).get? s.heap.objs.size = some (setObj0 w) := Heap.get?_push_size _ rfl
      have hT : Shared.TypeIs { s with heap := s.heap.push (setObj0 w) } (.ref s.heap.objs.size) "set" := ⟨_, hS, rfl⟩
      have hli := F.called_set.init.lookup
      have hbi := F.called_set.init.bind (.ref s.heap.objs.size)
      repeat (any_goals (first | assumption | wp_step))
      refine codeAny_mono (codeAny_call_builtin (R := wants (fun r s₂ => r = .none ∧ ∃ h' tk L, s₂ = { s with heap := h', toks := tk } ∧ SP h' L ∧ Has ks ks.length L ∧ Ext s.heap h') E) F.called_set.init.plain F.entry_set_init (check_set_init_1 hT ?_)) fun r₂ s₂ hr₂ => ?_
      · obtain ⟨ol, hol, hcl, nl, hdl⟩ := hl
        obtain ⟨ocls, odict, odata, oslots⟩ := ol
        simp only at hcl hdl
        subst hcl; subst hdl
        have hol' : (s.heap.push (setObj0 w)).get? l = some { cls := .type "list", dict := odict, data := .seq items nl, slots := oslots } := Heap.get?_push_of_some _ hol
        have x1 := F.sub_list_set
        have x2 := F.sub_list_frozenset
        have x3 : (Value.type "list" == Value.type "dict") = false := by decide
        have hl1 : (s.heap.push (setObj0 w)).IsList l items := ⟨_, hol', rfl, nl, rfl⟩
        unfold Builtin.«set.__init__» noKeywords Builtin.Frozenset.updateFrom
        generalize hPI : pyIter = PI
        wp_walk
        subst hPI
        refine wpAny_pyIter_list hl1 ?_
        refine wpAny_bind (wpAny_runValue ?_)
        have lS : l < s.heap.objs.size := Heap.lt_size hol
        have hz1 : (s.heap.push (setObj0 w)).objs.size = s.heap.objs.size + 1 := Heap.size_push ..
        have nI : l ≠ (s.heap.push (setObj0 w)).objs.size := by rw [hz1]; exact Nat.ne_of_lt (Nat.lt_succ_of_lt lS)
        have nS : s.heap.objs.size ∉ [(s.heap.push (setObj0 w)).objs.size, l] := by
          rw [hz1]
          simp only [List.mem_cons, List.not_mem_nil, or_false, not_or]
          exact ⟨Nat.ne_of_lt (Nat.lt_succ_self _), Nat.ne_of_gt lS⟩
        refine set_fill ((Walks.list (by simp [hh]) _ l nI items).toS) nS (D _ (by simp [hh]) (by simp [Around.in1]; try omega)) hz (zip_at hit) (get_new (Nat.le_refl _)) (fun b hb => get_new (by
            rw [List.mem_singleton.mp hb, hz1]
            exact Nat.le_succ _)) (items.size - 0) 0 _ [] (by omega) (Nat.zero_le _) ⟨⟨_, Heap.get?_push_size _ rfl, rfl, rfl⟩, hl1.push _⟩ (fun b o e => Heap.get?_push_of_some _ (Heap.get?_push_of_some _ e))
          (h00 _ (Heap.get?_push_of_some _ hS)) (Has.none ks) fun s' L' hm sp g hx => ?_
        obtain ⟨h', g2, d', tk', os'⟩ := s'
        obtain rfl : g2 = s.gens := hm.gens
        obtain rfl : d' = s.drawn := hm.drawn
        obtain rfl : os' = s.os := hm.os
        show wpAny _ _ _ _ _ _
        refine wpAny_pure ?_
        show wpAny _ _ (ret Value.none) _ _ _
        rw [hz] at g
        exact wpAny_pure ⟨rfl, h', tk', L', rfl, sp, g, hx⟩
      · cases r₂ with
        | error e => exact hr₂
        | ok fl₂ =>
          cases fl₂ with
          | ret r =>
            obtain ⟨rfl, h', tk, L, rfl, sp, g, hx⟩ := hr₂
            repeat (any_goals (first | assumption | wp_step))
            exact h _ _ _ sp g hx
          | _ => exact hr₂.elim
    | _ => exact hr.elim
/-- set(xs), xs a tuple -/
theorem set_of_tuple {l : Addr} {items : Array Value} {ks : List (Value × κ)} {SP : Heap → List (Value × κ) → Prop} {Q : Value → Shared → Prop} (hh : A.handled = none) (hl : s.heap.IsTuple l items) (hit : items.toList = ks.map (·.1))
    (D : ∀ A', A'.handled = none → A'.units ≤ A.units + 6 → Adds P w A' s.heap.objs.size s.heap ks SP) (h00 : ∀ h', h'.get? s.heap.objs.size = some (setObj0 w) → SP h' [])
    (h : ∀ (h' : Heap) (tk : Nat) L, SP h' L → Has ks ks.length L → Ext s.heap h' → Q (.ref s.heap.objs.size) { s with heap := h', toks := tk }) :
    wpAny (model P w) A (call (.type "set") [.ref l]) Q E s := by
  have hz : items.size = ks.length := by
    have q := congrArg List.length hit
    rw [Array.length_toList, List.length_map] at q
    exact q
  obtain ⟨c, tl, hmro⟩ := F.called_set.mro
  have hmade := F.called_set.made
  have hsub := F.called_set.sub
  refine wpAny_call (codeAny_of_tree ?_)
  show wpAny _ _ (callAny (.type "set") _) _ _ _
  refine wpAny_pure ⟨Code.quiet_builtin _ (by decide +kernel), codeAny_builtin F.entry_type_call ?_⟩
  rw [Around.under_plain (weight_type_call_type "set" [.ref l] []) rfl]
  have h1 := F.called_set.notType
  have h2 := F.called_set.canCreate
  have hct := F.typeCall_set_1 (.ref l)
  repeat (any_goals (first | assumption | wp_step))
  refine codeAny_mono (code_set_led1 (.ref l) (E := E) (Q₁ := fun obj s₁ => obj = .ref s.heap.objs.size ∧ s₁ = { s with heap := s.heap.push (setObj0 w) }) ⟨rfl, rfl⟩) fun r s₁ hr => ?_
  cases r with
  | error e => exact hr
  | ok fl =>
    cases fl with
    | ret obj =>
      obtain ⟨rfl, rfl⟩ := hr
      have hS : (s.heap.push (setObj0 w)).get? s.heap.objs.size = some (setObj0 w) := Heap.get?_push_size _ rfl
      have hT : Shared.TypeIs { s with heap := s.heap.push (setObj0 w) } (.ref s.heap.objs.size) "set" := ⟨_, hS, rfl⟩
      have hli := F.called_set.init.lookup
      have hbi := F.called_set.init.bind (.ref s.heap.objs.size)
      repeat (any_goals (first | assumption | wp_step))
      refine codeAny_mono (codeAny_call_builtin (R := wants (fun r s₂ => r = .none ∧ ∃ h' tk L, s₂ = { s with heap := h', toks := tk } ∧ SP h' L ∧ Has ks ks.length L ∧ Ext s.heap h') E) F.called_set.init.plain F.entry_set_init (check_set_init_1 hT ?_)) fun r₂ s₂ hr₂ => ?_
      · obtain ⟨ol, hol, hcl, nl, hdl⟩ := hl
        obtain ⟨ocls, odict, odata, oslots⟩ := ol
        simp only at hcl hdl
        subst hcl; subst hdl
        have hol' : (s.heap.push (setObj0 w)).get? l = some { cls := .type "tuple", dict := odict, data := .seq items nl, slots := oslots } := Heap.get?_push_of_some _ hol
        have x1 := F.sub_tuple_set
        have x2 := F.sub_tuple_frozenset
        have x3 : (Value.type "tuple" == Value.type "dict") = false := by decide
        have hl1 : (s.heap.push (setObj0 w)).IsTuple l items := ⟨_, hol', rfl, nl, rfl⟩
        unfold Builtin.«set.__init__» noKeywords Builtin.Frozenset.updateFrom
        generalize hPI : pyIter = PI
        wp_walk
        subst hPI
        refine wpAny_pyIter_tuple hl1 ?_
        refine wpAny_bind (wpAny_runValue ?_)
        have lS : l < s.heap.objs.size := Heap.lt_size hol
        have hz1 : (s.heap.push (setObj0 w)).objs.size = s.heap.objs.size + 1 := Heap.size_push ..
        have nI : l ≠ (s.heap.push (setObj0 w)).objs.size := by rw [hz1]; exact Nat.ne_of_lt (Nat.lt_succ_of_lt lS)
        have nS : s.heap.objs.size ∉ [(s.heap.push (setObj0 w)).objs.size, l] := by
          rw [hz1]
          simp only [List.mem_cons, List.not_mem_nil, or_false, not_or]
          exact ⟨Nat.ne_of_lt (Nat.lt_succ_self _), Nat.ne_of_gt lS⟩
        refine set_fill ((Walks.tuple (by simp [hh]) _ l nI items).toS) nS (D _ (by simp [hh]) (by simp [Around.in1]; try omega)) hz (zip_at hit) (get_new (Nat.le_refl _)) (fun b hb => get_new (by
            rw [List.mem_singleton.mp hb, hz1]
            exact Nat.le_succ _)) (items.size - 0) 0 _ [] (by omega) (Nat.zero_le _) ⟨⟨_, Heap.get?_push_size _ rfl, rfl, rfl⟩, hl1.push _⟩ (fun b o e => Heap.get?_push_of_some _ (Heap.get?_push_of_some _ e))
          (h00 _ (Heap.get?_push_of_some _ hS)) (Has.none ks) fun s' L' hm sp g hx => ?_
        obtain ⟨h', g2, d', tk', os'⟩ := s'
        obtain rfl : g2 = s.gens := hm.gens
        obtain rfl : d' = s.drawn := hm.drawn
        obtain rfl : os' = s.os := hm.os
        show wpAny _ _ _ _ _ _
        refine wpAny_pure ?_
        show wpAny _ _ (ret Value.none) _ _ _
        rw [hz] at g
        exact wpAny_pure ⟨rfl, h', tk', L', rfl, sp, g, hx⟩
      · cases r₂ with
        | error e => exact hr₂
        | ok fl₂ =>
          cases fl₂ with
          | ret r =>
            obtain ⟨rfl, h', tk, L, rfl, sp, g, hx⟩ := hr₂
            repeat (any_goals (first | assumption | wp_step))
            exact h _ _ _ sp g hx
          | _ => exact hr₂.elim
    | _ => exact hr.elim
end
end Sg
end
section
set_option maxRecDepth 100000
set_option maxHeartbeats 4000000
/-! Sets of keys: put in, sorted, counted; each member once. -/
namespace Sg
open PySem PySem.Spec PyProof.Rows L2 Evl
/-! ### each once -/
section
variable {κ : Type} [DecidableEq κ]
def nub : List κ → List κ
  | [] => []
  | x :: xs => if x ∈ xs then nub xs else x :: nub xs
theorem mem_nub : ∀ {xs : List κ} {y : κ}, y ∈ nub xs ↔ y ∈ xs
  | [], _ => Iff.rfl
  | x :: xs, y => by
    unfold nub
    by_cases h : x ∈ xs
    · rw [if_pos h, mem_nub, List.mem_cons]
      exact ⟨.inr, fun e => e.elim (fun e => e ▸ h) id⟩
    · rw [if_neg h, List.mem_cons, List.mem_cons, mem_nub]
theorem nub_nodup : ∀ (xs : List κ), (nub xs).Nodup
  | [] => .nil
  | x :: xs => by
    unfold nub
    by_cases h : x ∈ xs
    · rw [if_pos h]; exact nub_nodup xs
    · rw [if_neg h]; exact List.nodup_cons.mpr ⟨fun m => h (mem_nub.mp m), nub_nodup xs⟩
theorem nodup_le : ∀ (l D : List κ), l.Nodup → (∀ x ∈ l, x ∈ D) → l.length ≤ D.length
  | [], _, _, _ => Nat.zero_le _
  | x :: l, D, nd, sub => by
    obtain ⟨h1, h2⟩ := List.nodup_cons.mp nd
    have hx := sub x List.mem_cons_self
    have ih := nodup_le l (D.erase x) h2 fun y hy => (List.mem_erase_of_ne fun e : y = x => h1 (e ▸ hy)).2 (sub y (List.mem_cons_of_mem _ hy))
    have p := List.length_pos_of_mem hx
    rw [List.length_erase_of_mem hx] at ih
    rw [List.length_cons]
    omega
theorem nub_len (xs : List κ) : (nub xs).length ≤ xs.length := nodup_le _ _ (nub_nodup xs) fun _ h => mem_nub.mp h
theorem Has.nub {α : Type} {ks L : List (α × κ)} (g : Has ks ks.length L) (nd : (L.map (·.2)).Nodup) : (L.map (·.2)).Perm (nub (ks.map (·.2))) := by
  refine (List.perm_ext_iff_of_nodup nd (nub_nodup _)).mpr fun k => ⟨fun h => ?_, fun h => ?_⟩
  · obtain ⟨p, hp, e⟩ := List.mem_map.mp h
    exact mem_nub.mpr (List.mem_map.mpr ⟨p, List.mem_of_mem_take (g.sub p hp), e⟩)
  · obtain ⟨p, hp, e⟩ := List.mem_map.mp (mem_nub.mp h)
    rw [← e]
    exact g.all p (by rw [List.take_length]; exact hp)
end
/-! ### one order -/
theorem order_one {α : Type} {le : α → α → Bool} : ∀ {l m : List α}, l.Perm m → l.Pairwise (fun a b => le a b = true) → m.Pairwise (fun a b => le a b = true) → (∀ a ∈ l, ∀ b ∈ l, le a b = true → le b a = true → a = b) → l = m
  | [], m, p, _, _, _ => (List.nil_perm.mp p).symm
  | a :: l, [], p, _, _, _ => absurd (p.length_eq) (by simp)
  | a :: l, b :: m, p, ha, hb, an => by
    obtain ⟨a1, a2⟩ := List.pairwise_cons.mp ha
    obtain ⟨b1, b2⟩ := List.pairwise_cons.mp hb
    have e : a = b := by
      rcases List.mem_cons.mp (p.mem_iff.mp List.mem_cons_self) with e | m1
      · exact e
      · rcases List.mem_cons.mp (p.mem_iff.mpr List.mem_cons_self) with e | m2
        · exact e.symm
        · exact an a List.mem_cons_self b (List.mem_cons_of_mem _ m2) (a1 b m2) (b1 a m1)
    subst e
    rw [order_one ((List.perm_cons a).mp p) a2 b2 fun x hx y hy => an x (List.mem_cons_of_mem _ hx) y (List.mem_cons_of_mem _ hy)]
section
variable {P : Program} {w : World} {A : Around} {E : Value → Shared → Prop} {s : Shared} {κ : Type} [DecidableEq κ] {knd : PySem.KeyKind P w κ}
theorem kset_adds {S : Addr} {h0 : Heap} {ks : List (Value × κ)} (hk : ∀ p ∈ ks, knd.is p.2 p.1 = true ∧ p.1.scannable = true) (few : (nub (ks.map (·.2))).length + 1 < scanBound) :
    Adds P w A S h0 ks (fun h L => KSet knd h S L) where
  keep := fun R k _ => R.keep k
  add := fun {s L p E Q} hp sub _ R h => by
    unfold setAdd
    refine wpAny_holding (wpAny_bind (knd.pyHash (hk p hp).1 ?_))
    have le : L.length ≤ (nub (ks.map (·.2))).length := by
      have q := nodup_le (L.map (·.2)) (nub (ks.map (·.2))) R.nd fun x hx => by
        obtain ⟨q, hq, e⟩ := List.mem_map.mp hx
        exact mem_nub.mpr (List.mem_map.mpr ⟨q, sub q hq, e⟩)
      rwa [List.length_map] at q
    exact kset_add (s := { s with toks := s.toks + 1 }) R (hk p hp).1 (hk p hp).2 (by omega) fun b h' L' sb R' c1 c2 => h b h' L' (s.toks + 1) (Nat.le_succ _) sb R' c1 c2
theorem kset_new {h : Heap} {a : Addr} (ho : h.get? a = some (setObj0 w)) : KSet knd h a [] where
  ex := ⟨_, #[], 0, _, ho, ⟨rfl, rfl, rfl⟩, rfl, rfl, rfl, List.Pairwise.nil, by
    show _ ∨ (!w.params.followText "set-order") = true
    cases w.params.followText "set-order"
    · exact .inr rfl
    · exact .inl rfl⟩
  each := fun p h => nomatch h
  nd := .nil
  few := by
    show 0 < scanBound
    decide
/-- sorted(set), whatever kind of set it is -/
theorem sorted_of_set {a : Addr} {L : List (Value × κ)} {es : Array (Int × Value)} {ep : Nat} {t : SetTable} {enc : κ → PyData} {Q : Value → Shared → Prop} (hs : SetAt s.heap a es ep t) (he : es.toList.map (·.2) = L.map (·.1)) (hf : t.fits es.size = true)
    (hr : Ris t.place.toList) (hl : Led w t) (few : L.length < scanBound) (hh : A.handled = none) (each : ∀ p ∈ L, ∀ h', Ext s.heap h' → Reads h' p.1 (enc p.2) []) (al : PySem.W.AllAlike (L.map fun p => enc p.2)) (so : PySem.W.Sortable (L.map fun p => enc p.2))
    (dp : ∀ p ∈ L, (enc p.2).depth ≤ 64) (hu : A.units + 70 < cLine)
    (hQ : ∀ s' p (out : Array Value) (c : Nat) (M : List (Value × κ)), Ext s.heap s'.heap → s'.gens = s.gens → s'.os = s.os → s.heap.objs.size ≤ p → s'.heap.get? p = some (seqObj "list" out c) → M.Perm L →
      out.toList = (M.mergeSort (PySem.W.dataLe false fun q => enc q.2)).map (·.1) → Q (.ref p) s') :
    wpAny (model P w) A (call (.builtin "sorted") [.ref a]) Q E s := by
  have hsz : es.size = L.length := by
    have q := congrArg List.length he
    rwa [List.length_map, List.length_map, Array.length_toList] at q
  refine Calls.call_function_entry kind_sorted plain_sorted entry_sorted (args_sorted1 _) ?_
  unfold Builtin.«sorted»
  refine wpAny_bind (m := checkCount "sorted" 1 1 _) (wpAny_pure ?_)
  refine wpAny_bind (collect_set (A := A.in1) hh hs hf (by rw [hsz]; exact few) hr hl fun s1 vs k1 hz g1 o1 pm => ?_)
  rw [he] at pm
  obtain ⟨M, rfl, pM⟩ := perm_back pm rfl
  have hML : M.length ≤ sizeLine := by rw [pM.length_eq]; exact fits_of_scanBound few
  refine wpAny_bind (wpAny_newList ?_ (by rw [List.length_map]; exact hML))
  have hoL : (s1.heap.push (seqObj "list" (M.map (·.1)).toArray 0)).get? s1.heap.objs.size = some (seqObj "list" (M.map (·.1)).toArray 0) := Heap.get?_push_size _ rfl
  have ex1 : Ext s.heap (s1.heap.push (seqObj "list" (M.map (·.1)).toArray 0)) := fun b o e => Heap.get?_push_of_some _ (k1 b o e)
  have e1 : ∀ {M' : List (Value × κ)}, PySem.W.EachIs (fun v (q : Value × κ) => v = q.1) (M'.map (·.1)) M' := fun {M'} => by
    induction M' with
    | nil => exact .nil
    | cons q M' ih => exact .cons rfl ih
  have e2 : ∀ {M' : List (Value × κ)}, (∀ q ∈ M', q ∈ L) → PySem.W.EachIs (fun v (q : Value × κ) => ∃ as, Reads (s1.heap.push (seqObj "list" (M.map (·.1)).toArray 0)) v (enc q.2) as ∧ s1.heap.objs.size ∉ as) (M'.map (·.1)) M' := fun {M'} => by
    induction M' with
    | nil => exact fun _ => .nil
    | cons q M' ih => exact fun h => .cons ⟨[], each q (h q List.mem_cons_self) _ ex1, by simp⟩ (ih fun r hr => h r (List.mem_cons_of_mem _ hr))
  have pE : (M.map fun q => enc q.2).Perm (L.map fun q => enc q.2) := pM.map _
  refine wpAny_bind (wpAny_holding (PySem.W.list_sort_data (s := { s1 with heap := s1.heap.push (seqObj "list" (M.map (·.1)).toArray 0) }) (enc := fun q : Value × κ => enc q.2) hoL e1 (e2 fun q hq => pM.mem_iff.mp hq)
    (fun d hd d' hd' => al d (pE.mem_iff.mp hd) d' (pE.mem_iff.mp hd')) ?_ hML (fun q hq => ?_) fun out ho eo => ?_))
  · rcases so with z | z
    · exact .inl fun d hd => z d (pE.mem_iff.mp hd)
    · exact .inr fun d hd => z d (pE.mem_iff.mp hd)
  · have := dp q (pM.mem_iff.mp hq)
    show A.units + 1 + 1 + (enc q.2).depth < cLine
    omega
  · obtain ⟨c, hc⟩ := sortedHeap_at (vs := M.map (·.1)) (out := out.toArray) hoL
    have eq : ∀ {us : List Value} {N : List (Value × κ)}, PySem.W.EachIs (fun v (q : Value × κ) => v = q.1) us N → us = N.map (·.1) := fun {us N} h => by
      induction h with
      | nil => rfl
      | cons h1 _ ih => rw [List.map_cons, h1, ih]
    refine wpAny_pure ⟨_, rfl, hQ _ s1.heap.objs.size out.toArray c M (fun b u e => ?_) g1 o1 hz hc pM (by simpa using eq eo)⟩
    have q := k1 b u e
    have lt := Heap.lt_size q
    show (sortedHeap (s1.heap.push (seqObj "list" (M.map (·.1)).toArray 0)) s1.heap.objs.size (M.map (·.1)) out.toArray).get? b = some u
    rw [sortedHeap_old (Nat.ne_of_lt lt) (by rw [size_push']; exact Nat.lt_succ_of_lt lt)]
    exact Heap.get?_push_of_some _ q
end
end Sg
end
section
set_option maxRecDepth 100000
set_option maxHeartbeats 4000000
/-! set(xs), sorted(set), len(set) over the layer: members texts or numbers. -/
namespace Sg
open PySem PySem.Spec PyProof.Rows L2 Evl
/-- a key as data -/
def kD : Key → PyData
  | .inl i => .int i
  | .inr x => .str x
theorem da_key {K : PySem.W.Frag} {H : Hp} : ∀ k : Key, Da K H (kV k) (kD k)
  | .inl i => .int i
  | .inr x => .str x
theorem key_da {K : PySem.W.Frag} {H : Hp} {v : V} : ∀ {k : Key}, Da K H v (kD k) → v = kV k
  | .inl _, h => by cases h; rfl
  | .inr _, h => by cases h; rfl
theorem da_keys {K : PySem.W.Frag} {H : Hp} : ∀ ks : List Key, DaAll K H (ks.map kV) (ks.map kD)
  | [] => .nil
  | k :: ks => .cons (da_key k) (da_keys ks)
theorem keys_da {K : PySem.W.Frag} {H : Hp} : ∀ {ks : List Key} {vs : List V}, DaAll K H vs (ks.map kD) → vs = ks.map kV
  | [], _, h => by cases h; rfl
  | _ :: _, _, h => by
    cases h with
    | cons h1 h2 => rw [key_da h1, keys_da h2]; rfl
theorem kD_depth (k : Key) : (kD k).depth ≤ 64 := by
  cases k <;> simp [kD, PyData.depth]
/-- signs that are alike are of data that are alike -/
theorem toks_inj {x y : PyData} (al : PySem.W.alike x y = true) (e : PySem.W.keyToks x = PySem.W.keyToks y) : PyData.eqv x y = true := by
  cases q : PyData.eqv x y with
  | true => rfl
  | false =>
    exfalso
    have h1 := (PySem.W.toks_eqv x y al).2 q [.inl 1] [.inl 2]
    rw [← e, PySem.W.lex_pre] at h1
    have h2 : PyProof.Rows.lexLt itemOrd (PySem.W.keyToks x) (PySem.W.keyToks x) = false := lex_irrefl _
    rw [h2] at h1
    exact absurd h1 (by decide)
theorem data_anti {x y : PyData} (al : PySem.W.alike x y = true) (h1 : PySem.W.dataLt x y = false) (h2 : PySem.W.dataLt y x = false) : PyData.eqv x y = true := toks_inj al (lex_total (O := itemOrd) _ _ h1 h2)
theorem key_eqv {a b : Key} (h : PyData.eqv (kD a) (kD b) = true) : a = b := by
  cases a <;> cases b <;> simp_all [kD, PyData.eqv]
/-- sorted of what is told apart by eqv, whatever order it had -/
theorem sort_one {β : Type} {enc : β → PyData} (inj : ∀ a b, PyData.eqv (enc a) (enc b) = true → a = b) {l m : List β} (p : l.Perm m) (al : PySem.W.AllAlike (l.map enc)) : l.mergeSort (PySem.W.dataLe false enc) = m.mergeSort (PySem.W.dataLe false enc) := by
  have T := PySem.W.sortLe_total (listOrd itemOrd) false fun b : β => PySem.W.keyToks (enc b)
  refine order_one (((List.mergeSort_perm l _).trans p).trans (List.mergeSort_perm m _).symm) (List.pairwise_mergeSort (fun a b c h1 h2 => T.trans a b c h1 h2) (fun a b => ?_) l) (List.pairwise_mergeSort (fun a b c h1 h2 => T.trans a b c h1 h2) (fun a b => ?_) m) fun a ha b hb h1 h2 => ?_
  · exact (by simpa using T.total a b)
  · exact (by simpa using T.total a b)
  · have ha' := (List.mergeSort_perm l _).mem_iff.mp ha
    have hb' := (List.mergeSort_perm l _).mem_iff.mp hb
    have al' := al _ (List.mem_map.mpr ⟨a, ha', rfl⟩) _ (List.mem_map.mpr ⟨b, hb', rfl⟩)
    have h1 : (!PySem.W.dataLt (enc b) (enc a)) = true := h1
    have h2 : (!PySem.W.dataLt (enc a) (enc b)) = true := h2
    exact inj a b (data_anti al' (by simpa using h2) (by simpa using h1))
def sortK (ks : List Key) : List Key := ks.mergeSort (PySem.W.dataLe false kD)
theorem sortK_mem {ks : List Key} {k : Key} : k ∈ sortK ks ↔ k ∈ ks := (List.mergeSort_perm ks _).mem_iff
/-- the set of these keys at a -/
def SetKO (P : Program) (w : World) (a : Addr) (ks : List Key) : HO := .ext fun h => ∃ L : List (Value × Key), KSet (mixKind P w) h a L ∧ (L.map (·.2)).Perm ks
theorem setKO_new {P : Program} {w : World} {H : Hp} {h : Heap} {a : Addr} {ks : List Key} (R : ∃ L : List (Value × Key), KSet (mixKind P w) h a L ∧ (L.map (·.2)).Perm ks) : ObjOk P w H h a (SetKO P w a ks) := by
  have ⟨L, R1, _⟩ := R
  have ⟨o, _, _, _, ho, _⟩ := R1.ex
  exact ⟨R, ⟨o, ho⟩, fun h1 h2 ⟨L', R', p'⟩ k => ⟨L', R'.keep k, p'⟩⟩
theorem keys_vals {P : Program} {w : World} : ∀ {ks : List Key} {us : List Value}, Vals (ks.map kV) us → ∃ L : List (Value × Key), us = L.map (·.1) ∧ ks = L.map (·.2) ∧ ∀ p ∈ L, (mixKind P w).is p.2 p.1 = true ∧ p.1.scannable = true
  | [], _, r => by
    cases r
    exact ⟨[], rfl, rfl, fun p h => nomatch h⟩
  | k :: ks, _, r => by
    cases r with
    | @cons _ u _ us r1 r2 =>
      obtain ⟨L, e1, e2, hL⟩ := keys_vals (P := P) (w := w) r2
      refine ⟨(u, k) :: L, by rw [e1]; rfl, by rw [e2]; rfl, fun p hp => ?_⟩
      rcases List.mem_cons.mp hp with e | hp
      · rw [e]; exact ⟨kV_is r1, key_scan r1⟩
      · exact hL p hp
theorem key_rel {P : Program} {w : World} {k : Key} {u : Value} (h : (mixKind P w).is k u = true) : RelV (kV k) u := by
  rcases keyIs_shape (show keyIs k u = true from h) with ⟨i, t, rfl, rfl⟩ | ⟨x, t, rfl, rfl⟩
  · exact ⟨t, rfl⟩
  · exact ⟨t, rfl⟩
theorem vals_keys {P : Program} {w : World} : ∀ {L : List (Value × Key)}, (∀ p ∈ L, (mixKind P w).is p.2 p.1 = true) → Vals ((L.map (·.2)).map kV) (L.map (·.1))
  | [], _ => .nil
  | p :: L, h => .cons (key_rel (h p List.mem_cons_self)) (vals_keys fun q hq => h q (List.mem_cons_of_mem _ hq))
theorem key_reads {h : Heap} {P : Program} {w : World} {k : Key} {u : Value} (e : (mixKind P w).is k u = true) : Reads h u (kD k) [] := by
  rcases keyIs_shape (show keyIs k u = true from e) with ⟨i, t, rfl, rfl⟩ | ⟨x, t, rfl, rfl⟩
  · exact .int i t
  · exact .str x t
section
variable {X : Cx} {K : PySem.W.Frag}
/-- set(xs), xs a list or a tuple of keys -/
def rSetOf (K : PySem.W.Frag) (P : Program) (w : World) : List V → Hp → VK → Prop := fun vs H Q => ∃ (a : Addr) (ks : List Key), vs = [.ref a] ∧ (SqL K H a (ks.map kV) ∨ SqT K H a (ks.map kV)) ∧ (nub ks).length + 1 < scanBound ∧ ∀ p, H p = none → Q (.ref p) (upd H p (SetKO P w p (nub ks)))
theorem cr_setOf (hc : X.calm = true) (h : X.K = K := by rfl) : CallR X (.type "set") (rSetOf K X.prog X.w) := by
  subst h
  intro pins s σ H vs us Q I r h
  obtain ⟨a, ks, rfl, hs, few, q⟩ := h
  rw [Vals.ref1 r]
  have hn : H s.heap.objs.size = none := I.hok.fresh (Nat.le_refl _)
  have fin : ∀ (L0 : List (Value × Key)), ks = L0.map (·.2) → ∀ (h' : Heap) (tk : Nat) L, KSet (mixKind X.prog X.w) h' s.heap.objs.size L → Has L0 L0.length L → Ext s.heap h' → EP X pins σ Q (.ref s.heap.objs.size) { s with heap := h', toks := tk } := fun L0 e2 h' tk L R g ex =>
    ⟨.ref _, upd H s.heap.objs.size (SetKO X.prog X.w s.heap.objs.size (nub ks)), I.laid (t' := tk) ex (Nat.le_refl _) (setKO_new ⟨L, R, by rw [e2]; exact g.nub R.nd⟩), rfl, q _ hn⟩
  rcases hs with hs | hs
  · obtain ⟨its, rv, pl, hz⟩ := I.list hs
    obtain ⟨L0, e1, e2, hL⟩ := keys_vals (P := X.prog) (w := X.w) rv
    exact set_of_list (ks := L0) (I.ok.hd hc) pl.isList (by simpa using e1) (fun A' _ _ => kset_adds hL (by rw [← e2]; exact few)) (fun h' e => kset_new e) (fin L0 e2)
  · obtain ⟨its, rv, pl, hz⟩ := I.tuple hs
    obtain ⟨L0, e1, e2, hL⟩ := keys_vals (P := X.prog) (w := X.w) rv
    exact set_of_tuple (ks := L0) (I.ok.hd hc) pl (by simpa using e1) (fun A' _ _ => kset_adds hL (by rw [← e2]; exact few)) (fun h' e => kset_new e) (fin L0 e2)
/-- sorted(set of keys) -/
def rSortK (P : Program) (w : World) : List V → Hp → VK → Prop := fun vs H Q => ∃ (a : Addr) (ks : List Key), vs = [.ref a] ∧ H a = some (SetKO P w a ks) ∧ PySem.W.AllAlike (ks.map kD) ∧ ∀ p, H p = none → Q (.ref p) (upd H p (.lst ((sortK ks).map kV)))
theorem cr_sortK (hc : X.calm = true) (hu : X.A.units + 70 < cLine) : CallR X (.builtin "sorted") (rSortK X.prog X.w) := by
  intro pins s σ H vs us Q I r h
  obtain ⟨a, ks, rfl, ha, al, q⟩ := h
  obtain ⟨L, R, pm⟩ := (I.hok a _ ha).1
  rw [Vals.ref1 r]
  obtain ⟨o, es, ep, t, ho, hx, hd, he, hf, hr, hl⟩ := R.ex
  have pE : (L.map fun p => kD p.2).Perm (ks.map kD) := by
    have z := pm.map kD
    rwa [List.map_map] at z
  refine sorted_of_set (enc := kD) ⟨o, ho, hx.1, hd⟩ (by rw [he, List.map_map]; rfl) hf hr hl R.few (I.ok.hd hc) (fun p hp h' ex => key_reads (R.each p hp).1) (fun d hd d' hd' => al d (pE.mem_iff.mp hd) d' (pE.mem_iff.mp hd'))
    (.inr fun d hd => ?_) (fun p _ => kD_depth _) hu fun s' p out c M ex g o1 hp ho' pM eo => ?_
  · obtain ⟨p, _, rfl⟩ := List.mem_map.mp hd
    cases p.2 <;> exact ⟨nofun, nofun⟩
  · have hn : H p = none := I.hok.fresh hp
    have e1 : (M.mergeSort (PySem.W.dataLe false fun q => kD q.2)).map (·.2) = sortK ks := by
      rw [List.map_mergeSort (s := PySem.W.dataLe false kD) (by intros; rfl)]
      refine sort_one (fun a b => key_eqv) ((pM.map (·.2)).trans pm) fun d hd d' hd' => ?_
      have pF : ((M.map (·.2)).map kD).Perm (ks.map kD) := ((pM.map (·.2)).trans pm).map kD
      exact al d (pF.mem_iff.mp hd) d' (pF.mem_iff.mp hd')
    have hv : Vals ((sortK ks).map kV) out.toList := by
      rw [eo, ← e1]
      exact vals_keys (P := X.prog) (w := X.w) fun p hp => (R.each p (pM.mem_iff.mp ((List.mergeSort_perm _ _).mem_iff.mp hp))).1
    have hlen : ((sortK ks).map kV).length ≤ sizeLine := by
      rw [hv.length, eo, List.length_map, List.length_mergeSort, pM.length_eq]
      exact fits_of_scanBound R.few
    have J : Inv X pins σ (upd H p (.lst ((sortK ks).map kV))) { s with heap := s'.heap, gens := s'.gens, drawn := s'.drawn, toks := s'.toks } :=
      I.call (ch := []) (Un.laid ex hp hn) (I.hok.laid ex hp ⟨hlen, out.toList, c, hv, ho'⟩) (by rw [g]; exact I.bare) (fun _ z => nomatch z)
    have e : s' = { s with heap := s'.heap, gens := s'.gens, drawn := s'.drawn, toks := s'.toks } := by
      cases s'
      cases s
      cases o1
      rfl
    rw [e]
    exact ⟨.ref p, _, J, rfl, q p hn⟩
/-- len(set of keys) -/
def rLenK (P : Program) (w : World) : List V → Hp → VK → Prop := fun vs H Q => ∃ (a : Addr) (ks : List Key), vs = [.ref a] ∧ H a = some (SetKO P w a ks) ∧ Q (.int ks.length) H
theorem cr_lenK : CallR X (.builtin "len") (rLenK X.prog X.w) := by
  intro pins s σ H vs us Q I r h
  obtain ⟨a, ks, rfl, ha, q⟩ := h
  obtain ⟨L, R, pm⟩ := (I.hok a _ ha).1
  rw [Vals.ref1 r]
  obtain ⟨o, es, ep, t, ho, hx, hd, he, hf, hr, hl⟩ := R.ex
  have hsz : es.size = L.length := rows_size (knd := mixKind X.prog X.w) he
  have e : ks.length = es.size := by rw [hsz, ← pm.length_eq, List.length_map]
  have few := R.few
  refine call_len_set ho hx hd hf (by rw [hsz]; unfold scanBound at few; omega) ⟨.int ks.length, H, I.tok _, ⟨_, by rw [e]⟩, q⟩
end
end Sg
end
section
set_option maxRecDepth 100000
set_option maxHeartbeats 4000000
/-! Sets of tuples of texts and numbers: put in, made, sorted. -/
namespace Sg
open PySem PySem.Spec PyProof.Rows L2 Evl
section
variable {P : Program} {w : World} {A : Around} {E : Value → Shared → Prop} {s : Shared}
abbrev hT (P : Program) (w : World) (k : List Key) : Int := tupleKeyHash (mixKind P w) k
abbrev IsTk (P : Program) (w : World) (h : Heap) (k : List Key) (b : Addr) : Prop := IsTupleKey (mixKind P w) h k b
/-! ### what a search asks of a tuple -/
def Flat (v : Value) : Prop := (∀ n, ofAClassStatement n v = pure false) ∧ ∀ n, ∃ b, hashByValue n v = pure b
theorem flat_key {k : Key} {v : Value} (h : (mixKind P w).is k v = true) : Flat v := by
  rcases keyIs_shape (show keyIs k v = true from h) with ⟨i, t, rfl, rfl⟩ | ⟨x, t, rfl, rfl⟩
  · exact ⟨fun n => by cases n <;> rfl, fun n => ⟨true, by cases n <;> rfl⟩⟩
  · exact ⟨fun n => by cases n <;> rfl, fun n => ⟨false, by cases n <;> rfl⟩⟩
theorem flat_items {k : List Key} {vs : List Value} (h : ItemsAre (mixKind P w) k vs) : ∀ v ∈ vs, Flat v := by
  induction h with
  | nil => exact fun v hv => nomatch hv
  | cons h1 _ ih => exact fun v hv => (List.mem_cons.mp hv).elim (fun e => e ▸ flat_key h1) (ih v)
theorem class_tk {k : List Key} {b : Addr} {Q : Bool → Shared → Prop} (hk : IsTk P w s.heap k b) (q : Q false s) : wpAny (model P w) A (ofAClassStatement 8 (.ref b)) Q E s := by
  have ty := hk.typeIs
  obtain ⟨o, its, n, ho, _, hd, hi⟩ := hk
  unfold ofAClassStatement
  refine wpAny_bind (wpAny_typeOf ty ?_)
  dsimp only
  simp only [show (("tuple" : String) == "tuple") = true by decide, if_true, Bool.not_true, Bool.false_eq_true, if_false]
  try refine wpAny_bind (wpAny_pure ?_)
  try simp only [Bool.not_true, Bool.false_eq_true, if_false]
  show wpAny _ _ (seqItems? (.ref b) >>= _) _ _ s
  refine wpAny_bind (wpAny_seqItems ho hd ?_)
  dsimp only
  refine wpAny_bind ?_
  show wpAny _ _ (forIn its _ _) _ _ s
  rw [← Array.forIn_toList]
  refine wpAny_forIn_list _ (fun rest r s' => (r.1 = none ∧ s' = s) ∧ ∀ v ∈ rest, Flat v) _ (fun v rest r s' h => ?_) (fun r s' h => ?_) _ _ ⟨⟨rfl, rfl⟩, flat_items hi⟩
  · obtain ⟨⟨h1, rfl⟩, h2⟩ := h
    rw [(h2 v List.mem_cons_self).1]
    refine wpAny_bind (wpAny_pure ?_)
    simp only [Bool.false_eq_true, if_false]
    exact wpAny_pure ⟨⟨rfl, rfl⟩, fun u hu => h2 u (List.mem_cons_of_mem _ hu)⟩
  · obtain ⟨r1, r2⟩ := r
    obtain ⟨⟨h1, rfl⟩, _⟩ := h
    simp only at h1
    subst h1
    exact wpAny_pure q
theorem byval_tk {k : List Key} {b : Addr} {Q : Bool → Shared → Prop} (hk : IsTk P w s.heap k b) (q : ∀ c, Q c s) : wpAny (model P w) A (hashByValue 8 (.ref b)) Q E s := by
  have ty := hk.typeIs
  obtain ⟨o, its, n, ho, _, hd, hi⟩ := hk
  unfold hashByValue
  refine wpAny_bind (wpAny_specialOf ty F.slot_tuple_hash.lookup ?_)
  show wpAny _ _ (seqItems? (.ref b) >>= _) _ _ s
  refine wpAny_bind (wpAny_seqItems ho hd (wpAny_bind ?_))
  show wpAny _ _ (forIn its _ _) _ _ s
  rw [← Array.forIn_toList]
  refine wpAny_forIn_list _ (fun rest r s' => ((r.1 = none ∨ r.1 = some false) ∧ s' = s) ∧ ∀ v ∈ rest, Flat v) _ (fun v rest r s' h => ?_) (fun r s' h => ?_) _ _ ⟨⟨.inl rfl, rfl⟩, flat_items hi⟩
  · obtain ⟨⟨h1, rfl⟩, h2⟩ := h
    obtain ⟨c, e⟩ := (h2 v List.mem_cons_self).2 7
    rw [e]
    refine wpAny_bind (wpAny_pure ?_)
    cases c
    · simp only [Bool.not_false, if_true]
      exact wpAny_pure (wpAny_pure (q false))
    · simp only [Bool.not_true, Bool.false_eq_true, if_false]
      exact wpAny_pure ⟨⟨.inl rfl, rfl⟩, fun u hu => h2 u (List.mem_cons_of_mem _ hu)⟩
  · obtain ⟨r1, r2⟩ := r
    obtain ⟨⟨h1, rfl⟩, _⟩ := h
    simp only at h1
    rcases h1 with h1 | h1
    · subst h1
      exact wpAny_pure (q true)
    · subst h1
      exact wpAny_pure (q false)
theorem seen_tk {k : List Key} {b : Addr} {Q : Bool → Shared → Prop} (hk : IsTk P w s.heap k b) {ys : List Value} (hy : ∀ y ∈ ys, ∃ k' c, y = Value.ref c ∧ IsTk P w s.heap k' c) (q : Q false s) :
    wpAny (model P w) A (searchCouldBeSeen (.ref b) ys) Q E s := by
  unfold searchCouldBeSeen
  refine wpAny_bind (wpAny_forIn_list _ (fun rest r s' => (r.1 = none ∧ s' = s) ∧ ∀ y ∈ rest, ∃ k' c, y = Value.ref c ∧ IsTk P w s.heap k' c) _ (fun v rest r s' h => ?_) (fun r s' h => ?_) _ _ ⟨⟨rfl, rfl⟩, hy⟩)
  · obtain ⟨⟨h1, rfl⟩, h2⟩ := h
    obtain ⟨k', c, rfl, hc⟩ := h2 v List.mem_cons_self
    have go : ∀ y ∈ rest, ∃ k' c, y = Value.ref c ∧ IsTk P w s'.heap k' c := fun u hu => h2 u (List.mem_cons_of_mem _ hu)
    dsimp only
    by_cases e : (b == c || (carriedByValue (.ref b) && carriedByValue (.ref c))) = true
    · exact wp_if_pos e (wpAny_pure ⟨⟨rfl, rfl⟩, go⟩)
    · refine wp_if_neg e (wpAny_bind (wpAny_eqIsQuiet_tuple hk ?_))
      simp only [Bool.not_true, Bool.false_eq_true, if_false]
      refine wpAny_bind (wpAny_eqIsQuiet_tuple hc ?_)
      simp only [Bool.not_true, Bool.false_eq_true, if_false]
      refine wpAny_bind (class_tk hk ?_)
      simp only [Bool.false_eq_true, if_false]
      refine wpAny_bind (class_tk hc ?_)
      simp only [Bool.false_eq_true, if_false]
      exact wpAny_pure ⟨⟨rfl, rfl⟩, go⟩
  · obtain ⟨r1, r2⟩ := r
    obtain ⟨⟨h1, rfl⟩, _⟩ := h
    simp only at h1
    subst h1
    exact wpAny_pure q
/-! ### the set -/
/-- at a the set of these tuples, each with its keys, by its table -/
structure TSet (P : Program) (w : World) (h : Heap) (a : Addr) (L : List (Value × List Key)) (es : Array (Int × Value)) (ep : Nat) (t : SetTable) : Prop where
  ob : ∃ o, h.get? a = some o ∧ o.ExactSet ∧ o.data = .set es ep t
  rows : es.toList = L.map (fun p => (hT P w p.2, p.1))
  tab : TabOk t (L.map fun p => hT P w p.2)
  nd : (L.map (·.2)).Nodup
  each : ∀ p ∈ L, ∃ b, p.1 = .ref b ∧ IsTk P w h p.2 b
  led : Led w t
  room : L.length * 5 < t.mask * 3
  few : L.length < 64
variable {a : Addr} {L : List (Value × List Key)} {es : Array (Int × Value)} {ep : Nat} {t : SetTable}
theorem rows_get {α : Type} {f : α → Int × Value} {L : List α} {es : Array (Int × Value)} (e : es.toList = L.map f) (i : Nat) : es[i]? = (L[i]?).map f := by
  rw [← Array.getElem?_toList, e, List.getElem?_map]
theorem rows_len {α : Type} {f : α → Int × Value} {L : List α} {es : Array (Int × Value)} (e : es.toList = L.map f) : es.size = L.length := by
  rw [← Array.length_toList, e, List.length_map]
theorem tab_fits {hs : List Int} (T : TabOk t hs) (n : Nat) (hn : hs.length = n) (h : n ≤ t.mask) : t.fits n = true := by
  have z := T.sz
  unfold SetTable.fits SetTable.fill
  rw [T.dm, Bool.and_eq_true, beq_iff_eq, decide_eq_true_eq]
  show t.place.size = n ∧ t.place.size + 0 ≤ t.mask
  omega
theorem TSet.fits (R : TSet P w s.heap a L es ep t) : t.fits es.size = true := by
  have h := R.room
  rw [rows_len R.rows]
  exact tab_fits R.tab _ (by rw [List.length_map]) (by omega)
theorem TSet.even (R : TSet P w s.heap a L es ep t) : ¬ t.gaveWay = true := by
  unfold SetTable.gaveWay
  rw [mask_odd R.tab.mok]
  decide
/-- the state of the search behind c steps -/
abbrev stp (t : SetTable) (h : Int) (c : Nat) : SetTable.Probe := nth t.mask (runAt t.mask (SetTable.bits h % (t.mask + 1)) (SetTable.bits h)) c
theorem stp_on (t : SetTable) (h : Int) (c q : Nat) : nth t.mask (stp t h c) q = stp t h (c + q) := (nth_add t.mask c _ q).symm
theorem stp_clean (t : SetTable) (h : Int) (c : Nat) : (stp t h c).dummy = none := by
  have key : ∀ (n : Nat) (p : SetTable.Probe), p.dummy = none → (nth t.mask p n).dummy = none := by
    intro n
    induction n with
    | zero => exact fun p h => h
    | succ n ih =>
      intro p h
      exact ih (adv t.mask p) (by unfold adv; split <;> exact h)
  exact key c _ rfl
theorem t_search (R : TSet P w s.heap a L es ep t) {x : Addr} {k : List Key} (hx : IsTk P w s.heap k x) (hu : A.units < cLine) {K : Nat} (big : K < 10 * SetTable.turns t.mask) (hK : way t.mask (hT P w k) K ∉ t.place.toList)
    (hb : ∀ c, c < K → way t.mask (hT P w k) c ∈ t.place.toList) {Q : SetFound → Shared → Prop} (yes : k ∈ L.map (·.2) → Q (.there none) s) (no : k ∉ L.map (·.2) → Q (.free (way t.mask (hT P w k) K) false) s) :
    ∀ (f c : Nat) (stand : Option SetTable.Probe), stand.getD (t.probeStart (hT P w k)) = stp t (hT P w k) c → c ≤ K → K - c < f →
      (∀ (i : Nat) p, L[i]? = some p → p.2 = k → ∃ d, c ≤ d ∧ d < K ∧ t.place.toList[i]? = some (way t.mask (hT P w k) d)) → wpAny (model P w) A (setSearchFrom a (.ref x) (hT P w k) true f stand) Q E s := by
  intro f
  induction f with
  | zero => exact fun c st _ _ hf _ => absurd hf (Nat.not_lt_zero _)
  | succ f ih =>
    intro c st hst hc hf hre
    obtain ⟨o, ho, hex, hd⟩ := R.ob
    rw [setSearchFrom_succ]
    refine wpAny_bind (wpAny_setState_of ho hd R.fits ?_)
    dsimp only
    refine wp_if_neg R.even ?_
    try refine wpAny_bind (wpAny_pure ?_)
    have hsh : ∀ (i : Nat) p, L[i]? = some p → (fun i => (es[i]?.map (·.1)).getD 0) i = hT P w p.2 := fun i p e => by
      show (es[i]?.map (·.1)).getD 0 = _
      rw [rows_get R.rows, e]
      rfl
    have at_ : ∀ q, (nth t.mask (stp t (hT P w k) c) q).j = way t.mask (hT P w k) (c + q) := fun q => congrArg SetTable.Probe.j (stp_on t (hT P w k) c q)
    rcases go_spec t R.tab.ris R.tab.dm (fun i => (es[i]?.map (·.1)).getD 0) (hT P w k) (10 * SetTable.turns t.mask) (K - c) (stp t (hT P w k) c) (stp_clean _ _ _) (by omega) (fun q hq => by rw [at_]; exact hb _ (by omega)) (by rw [at_, show c + (K - c) = K by omega]; exact hK) with
      ⟨q, i, hq, hi, hh, first, pr⟩ | ⟨none_, pr⟩
    · have pr' : t.probe (fun i => (es[i]?.map (·.1)).getD 0) (hT P w k) (st.getD (t.probeStart (hT P w k))) = some (.candidate (way t.mask (hT P w k) (c + q)) i (stp t (hT P w k) (c + (q + 1)))) := by
        rw [hst, ← at_, ← stp_on]
        exact pr
      rw [pr']
      dsimp only
      rw [at_] at hi
      have iL : i < L.length := by
        have z1 := (List.getElem?_eq_some_iff.mp hi).1
        have z2 := R.tab.sz
        rw [List.length_map] at z2
        rwa [Array.length_toList, z2] at z1
      obtain ⟨p, hp⟩ : ∃ p, L[i]? = some p := ⟨_, List.getElem?_eq_getElem iL⟩
      have mp := List.mem_of_getElem? hp
      obtain ⟨b, pb, hpt⟩ := R.each p mp
      have ent : es[i]? = some (hT P w p.2, .ref b) := by
        rw [rows_get R.rows, hp, ← pb]
        rfl
      have rest : wpAny (model P w) A (searchRest a (.ref x) (hT P w k) true f es t (way t.mask (hT P w k) (c + q)) i (stp t (hT P w k) (c + (q + 1)))) Q E s := by
        unfold searchRest
        rw [ent]
        dsimp only
        refine wpAny_bind (wpAny_holding (wpAny_eqBool_tuple hu hpt hx (wpAny_bind (wpAny_setState_of ho hd R.fits ?_))))
        dsimp only
        by_cases same : p.2 = k
        · exact wp_if_pos (by simp [same]) (wpAny_pure (yes (List.mem_map.mpr ⟨p, mp, same⟩)))
        · refine wp_if_neg (by simp [same]) ?_
          try refine wpAny_bind (wpAny_pure ?_)
          rw [sameMem]
          dsimp only
          have lv := slot_live R.tab.ris hi
          simp only [if_true, lv, ent]
          refine wpAny_bind (wpAny_isSame_ref_self (wpAny_bind (wpAny_pure ?_)))
          simp only [if_true]
          refine wp_if_neg (by simp [same]) (ih (c + (q + 1)) _ rfl (by omega) (by omega) fun i0 p0 h0 k0 => ?_)
          obtain ⟨d, d1, d2, d3⟩ := hre i0 p0 h0 k0
          have hd0 : hT P w p0.2 = hT P w k := congrArg (hT P w) k0
          rcases Nat.lt_trichotomy d (c + q) with z | z | z
          · refine absurd ((hsh i0 p0 h0).trans hd0) (first (d - c) i0 (by omega) ?_)
            rw [at_, show c + (d - c) = d by omega]
            exact d3
          · rw [z] at d3
            have lv2 := slot_live R.tab.ris d3
            rw [lv] at lv2
            injection lv2 with e
            rw [← e, hp] at h0
            exact absurd ((congrArg Prod.snd (Option.some.inj h0)).trans k0) same
          · exact ⟨d, by omega, d2, d3⟩
      by_cases led : t.led = true
      · refine wp_if_neg (by simp [led]) ?_
        try refine wpAny_bind (wpAny_pure ?_)
        exact rest
      · refine wp_if_pos (by simp [led]) (wpAny_bind (seen_tk hx (fun y hy => ?_) ?_))
        · obtain ⟨e, he, ee⟩ := List.mem_map.mp hy
          have he1 : e ∈ es ∧ e.1 = hT P w k := by simpa using he
          have he2 : e ∈ es.toList := by simpa using he1.1
          rw [R.rows] at he2
          obtain ⟨p2, hp2, e2⟩ := List.mem_map.mp he2
          obtain ⟨b2, pb2, ht2⟩ := R.each p2 hp2
          exact ⟨p2.2, b2, by rw [← ee, ← e2, ← pb2], ht2⟩
        · refine wp_if_neg (by decide) ?_
          try refine wpAny_bind (wpAny_pure ?_)
          exact rest
    · have pr' : t.probe (fun i => (es[i]?.map (·.1)).getD 0) (hT P w k) (st.getD (t.probeStart (hT P w k))) = some (.empty (way t.mask (hT P w k) K) none) := by
        rw [hst, show way t.mask (hT P w k) K = (nth t.mask (stp t (hT P w k) c) (K - c)).j by rw [at_, show c + (K - c) = K by omega]]
        exact pr
      rw [pr']
      dsimp only
      refine wpAny_pure (no fun hm => ?_)
      obtain ⟨p0, m0, k0⟩ := List.mem_map.mp hm
      obtain ⟨i0, l0, e0⟩ := List.getElem_of_mem m0
      have h0 : L[i0]? = some p0 := by rw [List.getElem?_eq_getElem l0, e0]
      obtain ⟨d, d1, d2, d3⟩ := hre i0 p0 h0 k0
      refine none_ (d - c) i0 (by omega) ?_ ((hsh i0 p0 h0).trans (congrArg (hT P w) k0))
      rw [at_, show c + (d - c) = d by omega]
      exact d3
theorem t_find (R : TSet P w s.heap a L es ep t) {x : Addr} {k : List Key} (hx : IsTk P w s.heap k x) (hu : A.units < cLine) {Q : SetFound → Shared → Prop} (yes : k ∈ L.map (·.2) → Q (.there none) s)
    (no : ∀ K, k ∉ L.map (·.2) → way t.mask (hT P w k) K ∉ t.place.toList → (∀ c, c < K → way t.mask (hT P w k) c ∈ t.place.toList) → Q (.free (way t.mask (hT P w k) K) false) s) :
    wpAny (model P w) A (setSearch a (.ref x) (hT P w k) true) Q E s := by
  have rm := R.room
  obtain ⟨K, big, hK, hb⟩ := R.tab.first (by rw [List.length_map]; omega) (hT P w k)
  have small : 10 * SetTable.turns t.mask ≤ 1420 := by
    unfold SetTable.turns
    rcases R.tab.mok with e | e | e <;> omega
  unfold setSearch
  refine t_search R hx hu big hK hb yes (fun n => no K n hK hb) 100000 0 none rfl (Nat.zero_le _) (by omega) fun i p hp hk => ?_
  have hi : (L.map fun p => hT P w p.2)[i]? = some (hT P w k) := by
    rw [List.getElem?_map, hp, ← hk]
    rfl
  have il : i < t.place.toList.length := by
    have z1 := (List.getElem?_eq_some_iff.mp hp).1
    have z2 := R.tab.sz
    rw [List.length_map] at z2
    rw [Array.length_toList, z2]
    exact z1
  have hj := List.getElem?_eq_getElem il
  obtain ⟨d, d1, d2⟩ := R.tab.before hK hi hj
  exact ⟨d, Nat.zero_le _, d1, by rw [hj, d2]⟩
end
end Sg
end
section
set_option maxRecDepth 100000
set_option maxHeartbeats 4000000
/-! Sets of tuples of texts and numbers: put in, made, sorted, counted, over the layer. -/
namespace Sg
open PySem PySem.Spec PyProof.Rows L2 Evl
section
variable {P : Program} {w : World} {A : Around} {E : Value → Shared → Prop} {s : Shared}
theorem tk_same {h h' : Heap} {k : List Key} {a b : Addr} {o : Obj} {es : Array (Int × Value)} {ep : Nat} {t : SetTable} (hb : IsTk P w h k b) (ho : h.get? a = some o) (hd : o.data = .set es ep t) (sb : Heap.SameBut a h h') : IsTk P w h' k b := by
  obtain ⟨o', its, n, ho', hc, hd', hi⟩ := hb
  refine ⟨o', its, n, (sb.2 b fun e => ?_).trans ho', hc, hd', hi⟩
  subst e
  rw [ho] at ho'
  obtain rfl := Option.some.inj ho'
  rw [hd] at hd'
  cases hd'
theorem tk_keep {h h' : Heap} {k : List Key} {b : Addr} (hb : IsTk P w h k b) (ex : Ext h h') : IsTk P w h' k b :=
  let ⟨o, its, n, ho, r⟩ := hb
  ⟨o, its, n, ex b o ho, r⟩
theorem all_range {α : Type} : ∀ L : List α, (List.range L.length).filterMap (fun i => L[i]?) = L
  | [] => rfl
  | x :: L => by
    rw [List.length_cons, List.range_succ_eq_map, List.filterMap_cons_some (b := x) (by rfl), List.filterMap_map]
    exact congrArg (x :: ·) (all_range L)
theorem rows_order {L : List (Value × List Key)} {es : Array (Int × Value)} {order : Array Nat} (hr : es.toList = L.map (fun p => (hT P w p.2, p.1))) (hp : order.toList.Perm (List.range L.length)) :
    ∃ M : List (Value × List Key), (order.filterMap (es[·]?)).toList = M.map (fun p => (hT P w p.2, p.1)) ∧ M.Perm L ∧ (M.map fun p => hT P w p.2) = order.toList.map fun i => (es.map (·.1)).getD i 0 := by
  refine ⟨order.toList.filterMap fun i => L[i]?, ?_, ?_, ?_⟩
  · have e : (order.filterMap (es[·]?)).toList = order.toList.filterMap (fun i => es[i]?) := by simp
    rw [e, List.map_filterMap]
    exact congrArg (fun f => order.toList.filterMap f) (funext fun i => rows_get hr i)
  · have z := hp.filterMap fun i => L[i]?
    rwa [all_range] at z
  · have key : ∀ l : List Nat, (∀ i ∈ l, i < L.length) → ((l.filterMap fun i => L[i]?).map fun p => hT P w p.2) = l.map fun i => (es.map (·.1)).getD i 0 := by
      intro l
      induction l with
      | nil => exact fun _ => rfl
      | cons i l ih =>
        intro h
        have hi := h i List.mem_cons_self
        have e5 : (es.map (·.1))[i]? = some (hT P w (L[i]).2) := by
          rw [Array.getElem?_map, rows_get hr, List.getElem?_eq_getElem hi]
          rfl
        rw [List.filterMap_cons_some (List.getElem?_eq_getElem hi), List.map_cons, List.map_cons, ih fun j hj => h j (List.mem_cons_of_mem _ hj)]
        exact congrArg (· :: _) (by simp [Array.getD_eq_getD_getElem?, e5])
    exact key _ fun i hi => List.mem_range.mp (hp.mem_iff.mp hi)
variable {a : Addr} {L : List (Value × List Key)} {es : Array (Int × Value)} {ep : Nat} {t : SetTable}
/-- laid anew -/
theorem t_relay {o : Obj} (ho : s.heap.get? a = some o) (hx : o.ExactSet) (hd : o.data = .set es ep t) (rows : es.toList = L.map (fun p => (hT P w p.2, p.1))) (T : TabOk t (L.map fun p => hT P w p.2)) (le : L.length ≤ t.mask)
    (nd : (L.map (·.2)).Nodup) (each : ∀ p ∈ L, ∃ b, p.1 = .ref b ∧ IsTk P w s.heap p.2 b) (led : Led w t) (few : L.length < 64) {wanted M : Nat} (hw : SetTable.sizeAbove wanted - 1 = M) (hM : MaskOk M) (h128 : SetTable.sizeAbove wanted ≤ 128)
    (hn : L.length * 5 < M * 3) {Q : Unit → Shared → Prop} (hQ : ∀ h' L' es' ep' t', Heap.SameBut a s.heap h' → TSet P w h' a L' es' ep' t' → L'.Perm L → Q () { s with heap := h' }) :
    wpAny (model P w) A (setRelay a wanted) Q E s := by
  have sz := rows_len rows
  obtain ⟨t', order, e, hp, T', em, el, _, _⟩ := relaid_ok t (hs := es.map (·.1)) (wanted := wanted) hw hM (by rw [Array.size_map, sz]; omega)
  rw [Array.size_map, sz] at hp
  obtain ⟨N, r1, r2, r3⟩ := rows_order (P := P) (w := w) rows hp
  rw [← r3] at T'
  have sN : (order.filterMap (es[·]?)).size = es.size := by rw [rows_len r1, r2.length_eq, sz]
  rw [setRelay_eq]
  refine wpAny_bind (wpAny_setState_of ho hd (by rw [sz]; exact tab_fits T _ (by rw [List.length_map]) le) ?_)
  dsimp only
  refine wp_if_neg (by rw [sizeLine_eq]; omega) ?_
  try refine wpAny_bind (wpAny_pure ?_)
  rw [e]
  dsimp only
  refine wpAny_bind (wp_if_neg (by rw [sN]; simp) ?_)
  try refine wpAny_bind (wpAny_pure ?_)
  refine wpAny_pure ?_
  dsimp only
  have sb : Heap.SameBut a s.heap (s.heap.update a (Obj.putSet (order.filterMap (es[·]?)) t')) := Heap.SameBut.update ..
  refine wpAny_storeSet_of ho hd (hQ _ N _ (ep + 1) t' sb ⟨⟨_, store_at ho hd, hx, rfl⟩, r1, T', (r2.map (·.2)).nodup_iff.mpr nd, fun p hp => ?_, led.imp id fun z => by rw [el]; exact z, by rw [r2.length_eq, em]; exact hn, by rw [r2.length_eq]; exact few⟩ r2)
    (by rw [sN, sz, sizeLine_eq]; omega)
  obtain ⟨b, e1, e2⟩ := each p (r2.mem_iff.mp hp)
  exact ⟨b, e1, tk_same e2 ho hd sb⟩
/-- one more -/
theorem t_add (R : TSet P w s.heap a L es ep t) {x : Addr} {k : List Key} (hx : IsTk P w s.heap k x) (hu : A.units < cLine) (few : k ∉ L.map (·.2) → L.length + 1 < 64) {Q : Bool → Shared → Prop}
    (hQ : ∀ b h' L' es' ep' t', Heap.SameBut a s.heap h' → TSet P w h' a L' es' ep' t' → (k ∈ L.map (·.2) → L' = L) → (k ∉ L.map (·.2) → L'.Perm ((.ref x, k) :: L)) → Q b { s with heap := h' }) :
    wpAny (model P w) A (setAddHashed a (.ref x) (hT P w k)) Q E s := by
  obtain ⟨o, ho, hex, hd⟩ := R.ob
  have sz := rows_len R.rows
  have room := R.room
  unfold setAddHashed
  refine wpAny_holding ?_
  rw [show (100000 : Nat) = 99999 + 1 from rfl, setAddHashedIn_succ]
  refine wpAny_bind (wpAny_setState_of ho hd R.fits ?_)
  dsimp only
  refine wp_if_neg (by simp [byScan, Value.scannable]) ?_
  try refine wpAny_bind (wpAny_pure ?_)
  refine wpAny_bind (t_find R hx hu (fun hm => ?_) fun K hm hK hb => ?_)
  · exact wpAny_pure (hQ false s.heap L es ep t (Heap.SameBut.refl a s.heap) R (fun _ => rfl) fun z => absurd hm z)
  · dsimp only
    refine wpAny_bind (wpAny_setState_of ho hd R.fits ?_)
    dsimp only
    have l64 := few hm
    obtain ⟨q1, q2, q3, q4, q5, q6, q7, q8, q9⟩ := R.tab.put hK hb
    generalize t.put (way t.mask (hT P w k) K) = pt at q1 q3 q4 q5 q6 q7 q8 q9 ⊢
    obtain ⟨t1, p⟩ := pt
    dsimp only at q1 q3 q4 q5 q6 q7 q8 q9 ⊢
    subst q1
    generalize hpp : SetTable.below t.place (way t.mask (hT P w k) K) = p at q2 q3 ⊢
    have rows1 : (SetTable.insertAt es p (hT P w k, Value.ref x)).toList = (L.take p ++ (Value.ref x, k) :: L.drop p).map (fun p => (hT P w p.2, p.1)) := by
      rw [SetTable.toList_insertAt, R.rows, List.map_append, List.map_cons, List.map_take, List.map_drop]
    have pm : (L.take p ++ (Value.ref x, k) :: L.drop p).Perm ((Value.ref x, k) :: L) := put_perm L p _
    have hs1 : (L.take p ++ (Value.ref x, k) :: L.drop p).map (fun p => hT P w p.2) = (L.map fun p => hT P w p.2).take p ++ hT P w k :: (L.map fun p => hT P w p.2).drop p := by
      rw [List.map_append, List.map_cons, List.map_take, List.map_drop]
    rw [← hs1] at q3
    generalize SetTable.insertAt es p (hT P w k, Value.ref x) = es1 at rows1 ⊢
    generalize L.take p ++ (Value.ref x, k) :: L.drop p = L1 at pm q3 rows1
    have len1 : L1.length = L.length + 1 := pm.length_eq
    have sz1 : es1.size = L.length + 1 := by rw [rows_len rows1, len1]
    have nd1 : (L1.map (·.2)).Nodup := (pm.map (·.2)).nodup_iff.mpr (List.nodup_cons.mpr ⟨hm, R.nd⟩)
    -- what follows, whether it is told by value or not
    have tail : ∀ t2 : SetTable, TabOk t2 (L1.map fun p => hT P w p.2) → t2.mask = t.mask → t2.led = t.led → t2.fill = L.length + 1 → wpAny (model P w) A (do
        storeSet a es1 t2
        if (!false && t2.tooFull) = true then do
            setRelay a (SetTable.grown (es.size + 1))
            pure true
          else pure true) Q E s := fun t2 T2 m2 l2 f2 => by
      have sb : Heap.SameBut a s.heap (s.heap.update a (Obj.putSet es1 t2)) := Heap.SameBut.update ..
      have ho1 := store_at (es' := es1) (t' := t2) ho hd
      refine wpAny_bind (wpAny_storeSet_of ho hd ?_ (by rw [sz1, sizeLine_eq]; omega))
      generalize s.heap.update a (Obj.putSet es1 t2) = h1 at sb ho1 ⊢
      have each1 : ∀ p ∈ L1, ∃ b, p.1 = .ref b ∧ IsTk P w h1 p.2 b := fun p hp => by
        rcases List.mem_cons.mp (pm.mem_iff.mp hp) with e | hp
        · exact ⟨x, by rw [e], by rw [e]; exact tk_same hx ho hd sb⟩
        · obtain ⟨b, e1, e2⟩ := R.each p hp
          exact ⟨b, e1, tk_same e2 ho hd sb⟩
      have led1 : Led w t2 := R.led.imp id fun z => by rw [l2]; exact z
      have full : t2.tooFull = decide ((L.length + 1) * 5 ≥ t.mask * 3) := by
        unfold SetTable.tooFull
        rw [f2, m2]
      by_cases hf : t2.tooFull = true
      · refine wp_if_pos (by simp [hf]) ?_
        rw [full, decide_eq_true_eq] at hf
        have two : (t.mask = 7 ∧ L.length = 4) ∨ (t.mask = 31 ∧ L.length = 18) := by
          rcases R.tab.mok with e | e | e
          · rw [e] at hf room; exact .inl ⟨e, by omega⟩
          · rw [e] at hf room; exact .inr ⟨e, by omega⟩
          · rw [e] at hf; omega
        have go : ∀ M, SetTable.sizeAbove (SetTable.grown (es.size + 1)) - 1 = M → MaskOk M → SetTable.sizeAbove (SetTable.grown (es.size + 1)) ≤ 128 → (L.length + 1) * 5 < M * 3 →
            wpAny (model P w) A (setRelay a (SetTable.grown (es.size + 1)) >>= fun _ => pure true) Q E { s with heap := h1 } := fun M g1 g2 g3 g4 =>
          wpAny_bind (t_relay (s := { s with heap := h1 }) ho1 hex rfl rows1 T2 (by rw [len1, m2]; rcases two with ⟨e, e2⟩ | ⟨e, e2⟩ <;> omega) nd1 each1 led1 (by rw [len1]; exact l64) g1 g2 g3 (by rw [len1]; exact g4) fun h2 L2 es2 ep2 t2' sb2 R2 p2 =>
            wpAny_pure (hQ true h2 L2 es2 ep2 t2' (sb.trans sb2) R2 (fun z => absurd z hm) fun _ => p2.trans pm))
        rcases two with ⟨_, e2⟩ | ⟨_, e2⟩
        · exact go 31 (by rw [sz, e2, size_20]) (.inr (.inl rfl)) (by rw [sz, e2, size_20]; decide) (by omega)
        · exact go 127 (by rw [sz, e2, size_76]) (.inr (.inr rfl)) (by rw [sz, e2, size_76]; decide) (by omega)
      · refine wp_if_neg (by simp [hf]) (wpAny_pure (hQ true h1 L1 es1 (ep + 1) t2 sb ⟨⟨_, ho1, hex, rfl⟩, rows1, T2, nd1, each1, led1, ?_, by rw [len1]; exact l64⟩ (fun z => absurd z hm) fun _ => pm))
        rw [full, decide_eq_true_eq] at hf
        rw [len1, m2]
        omega
    have fill1 : t1.fill = L.length + 1 := by rw [q9, List.length_map]
    split
    · refine wpAny_bind (byval_tk hx fun c => ?_)
      cases c
      · exact tail { t1 with plain := false } ⟨q3.ris, q3.dm, q3.sz, q3.mok, q3.bd, q3.reach⟩ q4 q5 fill1
      · exact tail t1 q3 q4 q5 fill1
    · refine wpAny_bind (wpAny_pure ?_)
      exact tail t1 q3 q4 q5 fill1
end
end Sg
end
section
set_option maxRecDepth 100000
set_option maxHeartbeats 4000000
/-! set(xs), sorted(set), len(set) over the layer: members tuples of texts and numbers; sorted(set(e)) by data. -/
namespace Sg
open PySem PySem.Spec PyProof.Rows L2 Evl
/-! ### a tuple of keys as data -/
def tD (k : List Key) : PyData := .tuple (k.map kD)
theorem eqv_keys : ∀ {a b : List Key}, PyData.eqvAll (a.map kD) (b.map kD) = true → a = b
  | [], [], _ => rfl
  | [], _ :: _, h => by simp [PyData.eqvAll] at h
  | _ :: _, [], h => by simp [PyData.eqvAll] at h
  | x :: a, y :: b, h => by
    rw [List.map_cons, List.map_cons, PyData.eqvAll, Bool.and_eq_true] at h
    rw [key_eqv h.1, eqv_keys h.2]
theorem tup_eqv {a b : List Key} (h : PyData.eqv (tD a) (tD b) = true) : a = b := eqv_keys (by simpa [tD, PyData.eqv] using h)
theorem depth_keys : ∀ k : List Key, PyData.depthAll (k.map kD) = 0
  | [] => by simp [PyData.depthAll]
  | x :: k => by
    rw [List.map_cons, PyData.depthAll, depth_keys k]
    cases x <;> simp [kD, PyData.depth]
theorem tD_depth (k : List Key) : (tD k).depth ≤ 64 := by
  unfold tD
  rw [PyData.depth, depth_keys]
  decide
theorem da_tup {K : PySem.W.Frag} {H : Hp} {b : Addr} {k : List Key} (h : SqT K H b (k.map kV)) : Da K H (.ref b) (tD k) := .tup h (da_keys k)
theorem tup_da {K : PySem.W.Frag} {H : Hp} {v : V} {k : List Key} (h : Da K H v (tD k)) : ∃ b, v = .ref b ∧ SqT K H b (k.map kV) := by
  unfold tD at h
  cases h with
  | @tup b xs _ h1 h2 =>
    rw [keys_da h2] at h1
    exact ⟨b, rfl, h1⟩
theorem tups_da {K : PySem.W.Frag} {H : Hp} : ∀ {ks : List (List Key)} {vs : List V}, DaAll K H vs (ks.map tD) → ∃ ps : List (Addr × List Key), vs = ps.map (fun p => V.ref p.1) ∧ ks = ps.map (·.2) ∧ ∀ p ∈ ps, SqT K H p.1 (p.2.map kV)
  | [], _, h => by
    cases h
    exact ⟨[], rfl, rfl, fun p h => nomatch h⟩
  | k :: ks, _, h => by
    cases h with
    | cons h1 h2 =>
      obtain ⟨b, rfl, hb⟩ := tup_da h1
      obtain ⟨ps, rfl, rfl, hp⟩ := tups_da h2
      exact ⟨(b, k) :: ps, rfl, rfl, fun p m => (List.mem_cons.mp m).elim (fun e => e ▸ hb) (hp p)⟩
theorem da_tups {K : PySem.W.Frag} {H : Hp} : ∀ {ps : List (Addr × List Key)}, (∀ p ∈ ps, SqT K H p.1 (p.2.map kV)) → DaAll K H (ps.map fun p => V.ref p.1) ((ps.map (·.2)).map tD)
  | [], _ => .nil
  | p :: ps, h => .cons (da_tup (h p List.mem_cons_self)) (da_tups fun q m => h q (List.mem_cons_of_mem _ m))
def sortT (ks : List (List Key)) : List (List Key) := ks.mergeSort (PySem.W.dataLe false tD)
theorem sortT_mem {ks : List (List Key)} {k : List Key} : k ∈ sortT ks ↔ k ∈ ks := (List.mergeSort_perm ks _).mem_iff
section
variable {P : Program} {w : World} {A : Around} {E : Value → Shared → Prop} {s : Shared}
/-- the pair of a value and its keys -/
abbrev vk (q : Addr × List Key) : Value × List Key := (.ref q.1, q.2)
theorem t_adds {S : Addr} {h0 : Heap} {ps : List (Addr × List Key)} (hk : ∀ p ∈ ps, IsTk P w h0 p.2 p.1) (few : (nub (ps.map (·.2))).length < 64) (hu : A.units < cLine) :
    Adds P w A S h0 (ps.map vk) (fun h L => (∃ es ep t, TSet P w h S L es ep t) ∧ ∀ q ∈ L, q ∈ ps.map vk) where
  keep := fun ⟨⟨es, ep, t, R⟩, sub⟩ k ex => ⟨⟨es, ep, t, let ⟨o, ho, r⟩ := R.ob; ⟨⟨o, k o ho, r⟩, R.rows, R.tab, R.nd, fun p hp => by
    obtain ⟨q, hq, e⟩ := List.mem_map.mp (sub p hp)
    exact ⟨q.1, by rw [← e], by rw [← e]; exact tk_keep (hk q hq) ex⟩, R.led, R.room, R.few⟩⟩, sub⟩
  add := fun {s L p E Q} hp _ ex ⟨⟨es, ep, t, R⟩, sub⟩ h => by
    obtain ⟨q, hq, rfl⟩ := List.mem_map.mp hp
    have hx : IsTk P w s.heap q.2 q.1 := tk_keep (hk q hq) ex
    unfold setAdd
    refine wpAny_holding (wpAny_bind (wpAny_pyHash_tuple hu hx ?_))
    refine t_add (s := { s with toks := s.toks + (q.2.length + 1) }) R hx hu (fun nm => ?_) fun b h' L' es' ep' t' sb R' c1 c2 => h b h' L' _ (Nat.le_add_right _ _) sb ⟨⟨es', ep', t', R'⟩, fun x hx' => ?_⟩ c1 c2
    · have z := nodup_le (q.2 :: L.map (·.2)) (nub (ps.map (·.2))) (List.nodup_cons.mpr ⟨nm, R.nd⟩) fun x hx' => by
        rcases List.mem_cons.mp hx' with e | hx'
        · rw [e]; exact mem_nub.mpr (List.mem_map.mpr ⟨q, hq, rfl⟩)
        · obtain ⟨y, hy, e⟩ := List.mem_map.mp hx'
          obtain ⟨r, hr, e2⟩ := List.mem_map.mp (sub y hy)
          rw [← e, ← e2]
          exact mem_nub.mpr (List.mem_map.mpr ⟨r, hr, rfl⟩)
      rw [List.length_cons, List.length_map] at z
      omega
    · by_cases c : q.2 ∈ L.map (·.2)
      · rw [c1 c] at hx'; exact sub x hx'
      · rcases List.mem_cons.mp ((c2 c).mem_iff.mp hx') with e | m
        · rw [e]; exact List.mem_map.mpr ⟨q, hq, rfl⟩
        · exact sub x m
theorem tset_new {h : Heap} {a : Addr} (ho : h.get? a = some (setObj0 w)) : TSet P w h a [] #[] 0 (.fresh 0 0 (!w.params.followText "set-order")) where
  ob := ⟨_, ho, ⟨rfl, rfl, rfl⟩, rfl⟩
  rows := rfl
  tab := ⟨List.Pairwise.nil, rfl, rfl, .inl rfl, fun x hx => (by cases hx), fun i h j hi => (by simp at hi)⟩
  nd := .nil
  each := fun p hp => nomatch hp
  led := by
    show _ ∨ (!w.params.followText "set-order") = true
    cases w.params.followText "set-order"
    · exact .inr rfl
    · exact .inl rfl
  room := by
    show 0 * 5 < 7 * 3
    decide
  few := by
    show 0 < 64
    decide
/-- at a the set of these tuples, but for the tuples themselves -/
structure TSet0 (P : Program) (w : World) (h : Heap) (a : Addr) (L : List (Addr × List Key)) : Prop where
  ex : ∃ es ep t, (∃ o, h.get? a = some o ∧ o.ExactSet ∧ o.data = .set es ep t) ∧ es.toList = (L.map vk).map (fun p => (hT P w p.2, p.1)) ∧ TabOk t ((L.map vk).map fun p => hT P w p.2) ∧ Led w t ∧ L.length * 5 < t.mask * 3
  nd : (L.map (·.2)).Nodup
  few : L.length < 64
def SetTK (P : Program) (w : World) (a : Addr) (L : List (Addr × List Key)) : HO := .ext fun h => TSet0 P w h a L
theorem setTK_new {H : Hp} {h : Heap} {a : Addr} {L : List (Addr × List Key)} (R : TSet0 P w h a L) : ObjOk P w H h a (SetTK P w a L) := by
  have ⟨es, ep, t, ⟨o, ho, _⟩, _⟩ := R.ex
  refine ⟨R, ⟨o, ho⟩, fun h1 h2 R' k => ?_⟩
  have ⟨es', ep', t', ⟨o', ho', r'⟩, q'⟩ := TSet0.ex R'
  exact ⟨⟨es', ep', t', ⟨o', k o' ho', r'⟩, q'⟩, TSet0.nd R', TSet0.few R'⟩
theorem vk_back : ∀ {L : List (Value × List Key)} {ps : List (Addr × List Key)}, (∀ q ∈ L, q ∈ ps.map vk) → ∃ M : List (Addr × List Key), L = M.map vk ∧ ∀ q ∈ M, q ∈ ps
  | [], _, _ => ⟨[], rfl, fun q h => nomatch h⟩
  | p :: L, ps, h => by
    obtain ⟨q, hq, e⟩ := List.mem_map.mp (h p List.mem_cons_self)
    obtain ⟨M, e1, hM⟩ := vk_back (L := L) (ps := ps) fun r hr => h r (List.mem_cons_of_mem _ hr)
    exact ⟨q :: M, by rw [e1, ← e]; rfl, fun r hr => (List.mem_cons.mp hr).elim (fun e => e ▸ hq) (hM r)⟩
theorem vk_snd (M : List (Addr × List Key)) : (M.map vk).map (·.2) = M.map (·.2) := by
  rw [List.map_map]
  rfl
theorem refs_are : ∀ {ps : List (Addr × List Key)} {us : List Value}, Vals (ps.map fun p => V.ref p.1) us → us = (ps.map vk).map (·.1)
  | [], _, r => by cases r; rfl
  | p :: ps, _, r => by
    cases r with
    | cons r1 r2 =>
      cases r1
      rw [refs_are r2]
      rfl
theorem are_refs : ∀ (ps : List (Addr × List Key)), Vals (ps.map fun p => V.ref p.1) ((ps.map vk).map (·.1))
  | [] => .nil
  | p :: ps => .cons rfl (are_refs ps)
end
section
variable {X : Cx} {K : PySem.W.Frag}
theorem inv_tk {pins : List (Addr × Obj)} {σ : L2.St} {H : Hp} {s : Shared} {b : Addr} {k : List Key} (I : Inv X pins σ H s) (h : SqT X.K H b (k.map kV)) : IsTk X.prog X.w s.heap k b := by
  obtain ⟨its, r, ⟨o, ho, hc, n, hd⟩, _⟩ := I.tuple h
  exact ⟨o, its.toArray, n, ho, hc, hd, by simpa using items_are r⟩
theorem tk_reads {h : Heap} {P : Program} {w : World} {k : List Key} {b : Addr} (e : IsTk P w h k b) : Reads h (.ref b) (tD k) [] := by
  obtain ⟨o, its, n, ho, hc, hd, hi⟩ := e
  refine .tuple ho hc hd ?_
  have key : ∀ {k : List Key} {us : List Value}, ItemsAre (mixKind P w) k us → ReadsAll h us (k.map kD) [] := fun {k us} hi => by
    induction hi with
    | nil => exact .nil
    | cons h1 _ ih => exact .cons (as := []) (bs := []) (key_reads h1) ih
  exact key hi
/-- set(xs), xs a list or a tuple of tuples of keys -/
def rSetOfT2 (K : PySem.W.Frag) (P : Program) (w : World) : List V → Hp → VK → Prop := fun vs H Q => ∃ (a : Addr) (ps : List (Addr × List Key)), vs = [.ref a] ∧ (SqL K H a (ps.map fun p => V.ref p.1) ∨ SqT K H a (ps.map fun p => V.ref p.1)) ∧
  (∀ p ∈ ps, SqT K H p.1 (p.2.map kV)) ∧ (nub (ps.map (·.2))).length < 64 ∧ ∀ p M, H p = none → (∀ q ∈ M, q ∈ ps) → (M.map (·.2)).Perm (nub (ps.map (·.2))) → Q (.ref p) (upd H p (SetTK P w p M))
theorem cr_setOfT2 (hc : X.calm = true) (hu : X.A.units + 70 < cLine) (h : X.K = K := by rfl) : CallR X (.type "set") (rSetOfT2 K X.prog X.w) := by
  subst h
  intro pins s σ H vs us Q I r h
  obtain ⟨a, ps, rfl, hs, hp, few, q⟩ := h
  rw [Vals.ref1 r]
  have hn : H s.heap.objs.size = none := I.hok.fresh (Nat.le_refl _)
  have fin : ∀ (h' : Heap) (tk : Nat) L, ((∃ es ep t, TSet X.prog X.w h' s.heap.objs.size L es ep t) ∧ ∀ q ∈ L, q ∈ ps.map vk) → Has (ps.map vk) (ps.map vk).length L → Ext s.heap h' → EP X pins σ Q (.ref s.heap.objs.size) { s with heap := h', toks := tk } := fun h' tk L R g ex => by
    obtain ⟨⟨es, ep, t, R⟩, sub⟩ := R
    obtain ⟨M, rfl, hM⟩ := vk_back sub
    have pm := g.nub R.nd
    rw [vk_snd, vk_snd] at pm
    have nd := R.nd
    rw [vk_snd] at nd
    exact ⟨.ref _, upd H s.heap.objs.size (SetTK X.prog X.w s.heap.objs.size M), I.laid (t' := tk) ex (Nat.le_refl _) (setTK_new ⟨⟨es, ep, t, R.ob, R.rows, R.tab, R.led, by simpa using R.room⟩, nd, by simpa using R.few⟩), rfl, q _ M hn hM pm⟩
  have D : ∀ A', A'.handled = none → A'.units ≤ X.A.units + 6 → Adds X.prog X.w A' s.heap.objs.size s.heap (ps.map vk) _ := fun A' _ u => t_adds (P := X.prog) (w := X.w) (A := A') (S := s.heap.objs.size) (h0 := s.heap) (ps := ps) (fun p m => inv_tk I (hp p m)) few (by omega)
  have new : ∀ h', h'.get? s.heap.objs.size = some (setObj0 X.w) → (∃ es ep t, TSet X.prog X.w h' s.heap.objs.size [] es ep t) ∧ ∀ q ∈ ([] : List (Value × List Key)), q ∈ ps.map vk := fun h' e => ⟨⟨_, _, _, tset_new e⟩, fun q h => nomatch h⟩
  rcases hs with hs | hs
  · obtain ⟨its, rv, pl, hz⟩ := I.list hs
    exact set_of_list (I.ok.hd hc) pl.isList (by simpa using refs_are rv) D new fin
  · obtain ⟨its, rv, pl, hz⟩ := I.tuple hs
    exact set_of_tuple (I.ok.hd hc) pl (by simpa using refs_are rv) D new fin
/-- sorted(set of tuples of keys) -/
def rSortT2 (K : PySem.W.Frag) (P : Program) (w : World) : List V → Hp → VK → Prop := fun vs H Q => ∃ (a : Addr) (L : List (Addr × List Key)), vs = [.ref a] ∧ H a = some (SetTK P w a L) ∧ (∀ p ∈ L, SqT K H p.1 (p.2.map kV)) ∧ PySem.W.AllAlike (L.map fun p => tD p.2) ∧ (∀ p ∈ L, p.2 ≠ []) ∧
  ∀ (p : Addr) (M : List (Addr × List Key)), H p = none → M.Perm L → M.map (·.2) = sortT (L.map (·.2)) → Q (.ref p) (upd H p (.lst (M.map fun q => V.ref q.1)))
theorem cr_sortT2 (hc : X.calm = true) (hu : X.A.units + 70 < cLine) (h : X.K = K := by rfl) : CallR X (.builtin "sorted") (rSortT2 K X.prog X.w) := by
  subst h
  intro pins s σ H vs us Q I r h
  obtain ⟨a, L, rfl, ha, hp, al, ne, q⟩ := h
  have R : TSet0 X.prog X.w s.heap a L := (I.hok a _ ha).1
  rw [Vals.ref1 r]
  obtain ⟨es, ep, t, ⟨o, ho, hx, hd⟩, rows, T, led, room⟩ := R.ex
  have few := R.few
  have each : ∀ p ∈ L.map vk, ∀ h', Ext s.heap h' → Reads h' p.1 (tD p.2) [] := fun p m h' ex => by
    obtain ⟨q, hq, rfl⟩ := List.mem_map.mp m
    exact tk_reads (tk_keep (inv_tk I (hp q hq)) ex)
  have eE : ((L.map vk).map fun p => tD p.2) = L.map fun p => tD p.2 := by
    rw [List.map_map]
    rfl
  refine sorted_of_set (enc := tD) (L := L.map vk) ⟨o, ho, hx.1, hd⟩ (by rw [rows, List.map_map]; rfl) (by rw [rows_len rows]; exact tab_fits T _ (by simp) (by simp; omega)) T.ris led (by rw [List.length_map]; unfold scanBound; omega) (I.ok.hd hc) each (by rw [eE]; exact al)
    (.inl fun d hd => ?_) (fun p _ => tD_depth _) hu fun s' p out c M0 ex g o1 hp' ho' pM eo => ?_
  · rw [eE] at hd
    obtain ⟨p, m, rfl⟩ := List.mem_map.mp hd
    cases e : p.2 with
    | nil => exact absurd e (ne p m)
    | cons x r => exact ⟨kD x, r.map kD, rfl⟩
  · obtain ⟨M1, rfl, pM1⟩ := perm_back pM rfl
    have e1 : (M1.map vk).mergeSort (PySem.W.dataLe false fun q => tD q.2) = (M1.mergeSort (PySem.W.dataLe false fun q => tD q.2)).map vk := (List.map_mergeSort (by intros; rfl)).symm
    rw [e1] at eo
    have pM2 : (M1.mergeSort (PySem.W.dataLe false fun q : Addr × List Key => tD q.2)).Perm L := (List.mergeSort_perm _ _).trans pM1
    have e2 : (M1.mergeSort (PySem.W.dataLe false fun q : Addr × List Key => tD q.2)).map (·.2) = sortT (L.map (·.2)) := by
      rw [List.map_mergeSort (s := PySem.W.dataLe false tD) (by intros; rfl)]
      refine sort_one (fun a b => tup_eqv) (pM1.map (·.2)) fun d hd d' hd' => ?_
      have pF : ((M1.map (·.2)).map tD).Perm (L.map fun p => tD p.2) := by
        rw [List.map_map]
        exact pM1.map _
      exact al d (pF.mem_iff.mp hd) d' (pF.mem_iff.mp hd')
    generalize M1.mergeSort (PySem.W.dataLe false fun q : Addr × List Key => tD q.2) = M at eo pM2 e2
    have hn : H p = none := I.hok.fresh hp'
    have hv : Vals (M.map fun q => V.ref q.1) out.toList := by
      rw [eo]
      exact are_refs M
    have hlen : (M.map fun q => V.ref q.1).length ≤ sizeLine := by
      rw [List.length_map, pM2.length_eq, sizeLine_eq]
      omega
    have J : Inv X pins σ (upd H p (.lst (M.map fun q => V.ref q.1))) { s with heap := s'.heap, gens := s'.gens, drawn := s'.drawn, toks := s'.toks } :=
      I.call (ch := []) (Un.laid ex hp' hn) (I.hok.laid ex hp' ⟨hlen, out.toList, c, hv, ho'⟩) (by rw [g]; exact I.bare) (fun _ z => nomatch z)
    have e : s' = { s with heap := s'.heap, gens := s'.gens, drawn := s'.drawn, toks := s'.toks } := by
      cases s'
      cases s
      cases o1
      rfl
    rw [e]
    exact ⟨.ref p, _, J, rfl, q p M hn pM2 e2⟩
end
end Sg
end
section
set_option maxRecDepth 100000
set_option maxHeartbeats 4000000
/-! sorted(set(e)), len(set(e)), tuple(e), list(e) by data. -/
namespace Sg
open PySem PySem.Spec PyProof.Rows L2 Evl
/-! ### what is alike -/
def isN : Key → Bool
  | .inl _ => true
  | .inr _ => false
theorem alike_key (a b : Key) : PySem.W.alike (kD a) (kD b) = (isN a == isN b) := by
  cases a <;> cases b <;> simp [kD, isN, PySem.W.alike]
theorem alike_keys {ks : List Key} {c : Bool} (h : ∀ k ∈ ks, isN k = c) : PySem.W.AllAlike (ks.map kD) := fun d hd d' hd' => by
  obtain ⟨a, ha, rfl⟩ := List.mem_map.mp hd
  obtain ⟨b, hb, rfl⟩ := List.mem_map.mp hd'
  rw [alike_key, h a ha, h b hb]
  exact beq_self_eq_true _
theorem alike_row : ∀ {a b : List Key}, a.map isN = b.map isN → PySem.W.alikeAll (a.map kD) (b.map kD) = true
  | [], _, _ => by simp [PySem.W.alikeAll]
  | _ :: _, [], h => by simp at h
  | x :: a, y :: b, h => by
    obtain ⟨h1, h2⟩ := List.cons.inj h
    rw [List.map_cons, List.map_cons, PySem.W.alikeAll, alike_key, h1, alike_row h2]
    simp
theorem alike_tups {ks : List (List Key)} {c : List Bool} (h : ∀ k ∈ ks, k.map isN = c) : PySem.W.AllAlike (ks.map tD) := fun d hd d' hd' => by
  obtain ⟨a, ha, rfl⟩ := List.mem_map.mp hd
  obtain ⟨b, hb, rfl⟩ := List.mem_map.mp hd'
  unfold tD
  rw [PySem.W.alike]
  exact alike_row ((h a ha).trans (h b hb).symm)
theorem alike_sub {ds es : List PyData} (h : PySem.W.AllAlike ds) (s : ∀ e ∈ es, e ∈ ds) : PySem.W.AllAlike es := fun d hd d' hd' => h d (s d hd) d' (s d' hd')
section
variable {K : PySem.W.Frag} {P : Program} {w : World} {σ : L2.St} {H : Hp} {te : TE}
theorem Gr.two {H H1 : Hp} {p q : Addr} {o u : HO} (a : Ex H H1) (hp : H1 p = none) (hq : upd H1 p o q = none) : Gr H H1 (upd (upd H p o) q u) (upd (upd H1 p o) q u) := (Gr.alloc a hp).trans (.alloc (Gr.alloc a hp).sub hq)
theorem ed_sortSet {ks : List Key} (h : EvD K te σ H (.list (ks.map kD)) ∨ EvD K te σ H (.tuple (ks.map kD))) (few : ks.length < 4000) (al : PySem.W.AllAlike (ks.map kD)) :
    EvD K (tCB (rSortK P w) (tCons (tCB (rSetOf K P w) (tCons te tNil)) tNil)) σ H (.list ((sortK (nub ks)).map kD)) := fun H1 a Q q => by
  have n := nub_len ks
  have few' : (nub ks).length + 1 < scanBound := by unfold scanBound; omega
  have al' : PySem.W.AllAlike ((nub ks).map kD) := alike_sub al fun e he => by
    obtain ⟨k, hk, rfl⟩ := List.mem_map.mp he
    exact List.mem_map.mpr ⟨k, mem_nub.mp hk, rfl⟩
  rcases h with h | h
  · refine h H1 a _ fun v N H2 b hv => ?_
    cases hv with
    | @lst p xs _ h1 h2 =>
      rw [keys_da h2] at h1
      exact ⟨p, ks, rfl, .inl (sq_of (b.sub _ _ h1)), few', fun p2 hp => ⟨p2, nub ks, rfl, upd_same, al', fun p3 hp3 => q _ _ _ (b.trans (.two b.sub hp hp3)) (.lst upd_same (da_keys _))⟩⟩
  · refine h H1 a _ fun v N H2 b hv => ?_
    cases hv with
    | @tup p xs _ h1 h2 =>
      rw [keys_da h2] at h1
      exact ⟨p, ks, rfl, .inr (ex_t b.sub h1), few', fun p2 hp => ⟨p2, nub ks, rfl, upd_same, al', fun p3 hp3 => q _ _ _ (b.trans (.two b.sub hp hp3)) (.lst upd_same (da_keys _))⟩⟩
theorem ev_lenSet {ks : List Key} (h : EvD K te σ H (.list (ks.map kD)) ∨ EvD K te σ H (.tuple (ks.map kD))) (few : ks.length < 4000) :
    Ev (tCB (rLenK P w) (tCons (tCB (rSetOf K P w) (tCons te tNil)) tNil)) σ H (.int (nub ks).length) := fun H1 a Q q => by
  have n := nub_len ks
  have few' : (nub ks).length + 1 < scanBound := by unfold scanBound; omega
  rcases h with h | h
  · refine h H1 a _ fun v N H2 b hv => ?_
    cases hv with
    | @lst p xs _ h1 h2 =>
      rw [keys_da h2] at h1
      exact ⟨p, ks, rfl, .inl (sq_of (b.sub _ _ h1)), few', fun p2 hp => ⟨p2, nub ks, rfl, upd_same, q _ (b.act.trans (Ex.new hp))⟩⟩
  · refine h H1 a _ fun v N H2 b hv => ?_
    cases hv with
    | @tup p xs _ h1 h2 =>
      rw [keys_da h2] at h1
      exact ⟨p, ks, rfl, .inr (ex_t b.sub h1), few', fun p2 hp => ⟨p2, nub ks, rfl, upd_same, q _ (b.act.trans (Ex.new hp))⟩⟩
theorem ed_sortSetT {ks : List (List Key)} (h : EvD K te σ H (.list (ks.map tD))) (few : (nub ks).length < 64) (al : PySem.W.AllAlike (ks.map tD)) (ne : ∀ k ∈ ks, k ≠ []) :
    EvD K (tCB (rSortT2 K P w) (tCons (tCB (rSetOfT2 K P w) (tCons te tNil)) tNil)) σ H (.list ((sortT (nub ks)).map tD)) := fun H1 a Q q =>
  h H1 a _ fun v N H2 b hv => by
    cases hv with
    | @lst p xs _ h1 h2 =>
      obtain ⟨ps, rfl, rfl, hp⟩ := tups_da h2
      refine ⟨p, ps, rfl, .inl (sq_of (b.sub _ _ h1)), fun r m => ex_t b.sub (hp r m), few, fun p2 M hp2 hM pm => ?_⟩
      have alM : PySem.W.AllAlike (M.map fun r => tD r.2) := alike_sub al fun e he => by
        obtain ⟨r, hr, rfl⟩ := List.mem_map.mp he
        exact List.mem_map.mpr ⟨r.2, List.mem_map.mpr ⟨r, hM r hr, rfl⟩, rfl⟩
      have eS : sortT (M.map (·.2)) = sortT (nub (ps.map (·.2))) := sort_one (fun a b => tup_eqv) pm (by rw [List.map_map]; exact alM)
      refine ⟨p2, M, rfl, upd_same, fun r m => ex_t (b.sub.trans (Ex.new hp2)) (hp r (hM r m)), alM, fun r m => ne _ (List.mem_map.mpr ⟨r, hM r m, rfl⟩), fun p3 M' hp3 pM' eM' => ?_⟩
      have g := b.trans (.two (u := .lst (M'.map fun q => V.ref q.1)) b.sub hp2 hp3)
      refine q _ _ _ g (.lst upd_same ?_)
      rw [← eS, ← eM']
      exact (da_tups fun r m => hp r (hM r (pM'.mem_iff.mp m))).ex ((Ex.new (fresh_back b.sub hp2)).trans (Ex.new (fresh_back (Gr.alloc b.sub hp2).sub hp3)))
end
/-! ### tuple(e), list(e) -/
def rTupOf (K : PySem.W.Frag) : List V → Hp → VK → Prop := fun xs H Q => ∃ p ys, xs = [.ref p] ∧ ((SqL K H p ys ∧ ∀ l, H l = none → Q (.ref l) (upd H l (.tup ys))) ∨ (SqT K H p ys ∧ Q (.ref p) H))
def rLstOf (K : PySem.W.Frag) : List V → Hp → VK → Prop := fun xs H Q => ∃ p ys, xs = [.ref p] ∧ (SqL K H p ys ∨ SqT K H p ys) ∧ ∀ l, H l = none → Q (.ref l) (upd H l (.lst ys))
section
variable {X : Cx} {K : PySem.W.Frag}
theorem cr_tupOf (h : X.K = K := by rfl) : CallR X (.type "tuple") (rTupOf K) := by subst h; exact call_tuple_of
theorem cr_lstOf (h : X.K = K := by rfl) : CallR X (.type "list") (rLstOf K) := by subst h; exact call_list_of
variable {σ : L2.St} {H : Hp} {te : TE} {ds : List PyData}
theorem ed_tupL (h : EvD K te σ H (.list ds)) : EvD K (tCB (rTupOf K) (tCons te tNil)) σ H (.tuple ds) := fun H1 a Q q =>
  h H1 a _ fun v N H2 b hv => by
    cases hv with
    | @lst p xs _ h1 h2 => exact ⟨p, xs, rfl, .inl ⟨sq_of (b.sub _ _ h1), fun l hl => q _ _ _ (b.trans (.alloc b.sub hl)) (.tup (st_of upd_same) (h2.ex (Ex.new (fresh_back b.sub hl))))⟩⟩
theorem ed_tupT (h : EvD K te σ H (.tuple ds)) : EvD K (tCB (rTupOf K) (tCons te tNil)) σ H (.tuple ds) := fun H1 a Q q =>
  h H1 a _ fun v N H2 b hv => by
    cases hv with
    | @tup p xs _ h1 h2 => exact ⟨p, xs, rfl, .inr ⟨ex_t b.sub h1, q _ N _ b (.tup h1 h2)⟩⟩
theorem ed_lstL (h : EvD K te σ H (.list ds)) : EvD K (tCB (rLstOf K) (tCons te tNil)) σ H (.list ds) := fun H1 a Q q =>
  h H1 a _ fun v N H2 b hv => by
    cases hv with
    | @lst p xs _ h1 h2 => exact ⟨p, xs, rfl, .inl (sq_of (b.sub _ _ h1)), fun l hl => q _ _ _ (b.trans (.alloc b.sub hl)) (.lst upd_same (h2.ex (Ex.new (fresh_back b.sub hl))))⟩
theorem ed_lstT (h : EvD K te σ H (.tuple ds)) : EvD K (tCB (rLstOf K) (tCons te tNil)) σ H (.list ds) := fun H1 a Q q =>
  h H1 a _ fun v N H2 b hv => by
    cases hv with
    | @tup p xs _ h1 h2 => exact ⟨p, xs, rfl, .inr (ex_t b.sub h1), fun l hl => q _ _ _ (b.trans (.alloc b.sub hl)) (.lst upd_same (h2.ex (Ex.new (fresh_back b.sub hl))))⟩
end
end Sg
end
section
set_option maxRecDepth 100000
set_option maxHeartbeats 4000000
/-! Set comprehensions of texts and numbers, with one for and with two. -/
namespace Sg
open PySem PySem.Spec PyProof.Rows L2 Evl
/-- one more key -/
def putS {κ : Type} [DecidableEq κ] (ks : List κ) (k : κ) : List κ := if k ∈ ks then ks else ks ++ [k]
section
variable {X : Cx}
theorem addK_ok {pins : List (Addr × Obj)} {σ : L2.St} {H : Hp} {s : Shared} {E : Value → Shared → Prop} {D : Addr} {ks : List Key} {k : Key} {v : Value} {Q : Value → Shared → Prop} (I : Inv X pins σ H s) (hD : H D = some (SetKO X.prog X.w D ks)) (r : RelV (kV k) v)
    (room : ks.length + 1 < scanBound) (h : ∀ s', Inv X pins σ (upd H D (SetKO X.prog X.w D (putS ks k))) s' → Q .none s') : wpAny (model X.prog X.w) X.A (call (.builtin "set.add") [.ref D, v]) Q E s := by
  obtain ⟨L, R, pm⟩ := (I.hok D _ hD).1
  have hk : (mixKind X.prog X.w).is k v = true := kV_is r
  obtain ⟨o, es, ep, t, ho, hx, hd, _⟩ := R.ex
  refine wpAny_call_entry F.slot_set_add ⟨o, ho, hx.1⟩ F.entry_set_add ?_ (F.args_set_add_2 _ _)
  unfold Builtin.«set.add» Builtin.Frozenset.oneOther
  simp only [List.isEmpty_nil, bind_assoc]
  unfold Builtin.Frozenset.addrOf setAdd
  refine wpAny_bind (wpAny_pure ?_)
  try dsimp only
  refine wpAny_bind (wpAny_pure ?_)
  try dsimp only
  refine wpAny_bind (wpAny_holding (wpAny_bind ((mixKind X.prog X.w).pyHash hk ?_)))
  have len : L.length = ks.length := by rw [← pm.length_eq, List.length_map]
  refine kset_add (s := { s with toks := s.toks + 1 }) R hk (key_scan r) (by omega) fun b h' L' sb R' c1 c2 => ?_
  show wpAny _ _ (ret Value.none) _ _ _
  have he : ∃ u, h'.get? D = some u := by
    obtain ⟨o', _, _, _, ho', _⟩ := R'.ex
    exact ⟨o', ho'⟩
  have pm' : (L'.map (·.2)).Perm (putS ks k) := by
    unfold putS
    by_cases c : k ∈ L.map (·.2)
    · rw [c1 c, if_pos (pm.mem_iff.mp c)]
      exact pm
    · rw [if_neg fun z => c (pm.mem_iff.mpr z)]
      exact ((c2 c).map fun p : Value × Key => p.2).trans ((pm.cons k).trans (List.perm_append_singleton k ks).symm)
  exact wpAny_pure ⟨_, rfl, h _ (I.write (e := D) (t' := s.toks + 1) (by rw [hD]; trivial) (.inl rfl) (fun b u hb hu => (sb.2 b hb).trans hu) he (setKO_new ⟨L', R', pm'⟩))⟩
/-! ### one turn of a clause -/
/-- what a turn leaves pinned is let go -/
theorem unpin {Y : Cx} {tg : Expr} {J : It} {fp : List Addr} {it : Addr} {tn : Nat → Heap → Prop} {pins : List (Addr × Obj)} {σ : L2.St} {H : Hp} {s : Shared} {h7 : Heap} {i : Nat} (T : Turn Y.prog Y.w Y.K tg J fp it tn) (I : Inv Y (pins ++ pinsAt fp h7) σ H s) (st : tn i h7) :
    Inv Y pins σ H s ∧ tn i s.heap ∧ ∀ b ∈ fp, H b = none := by
  have pin : ∀ b ∈ fp, ∀ o, h7.get? b = some o → s.heap.get? b = some o ∧ H b = none := fun b hb o e =>
    let z := I.pin (b, o) (List.mem_append_right _ (List.mem_append_right _ (mem_pinsAt hb e)))
    ⟨z.1, z.2.1⟩
  refine ⟨I.unpinned, T.keep _ _ _ st fun b hb o e => (pin b hb o e).1, fun b hb => ?_⟩
  obtain ⟨o, e, _⟩ := T.obj _ _ st b hb
  exact (pin b hb o e).2
theorem clause {Y : Cx} {tg : Expr} {J : It} {fp : List Addr} {it : Addr} {tn : Nat → Heap → Prop} {pins : List (Addr × Obj)} {σ : L2.St} {H : Hp} {s : Shared} {i : Nat} {g : TG} {ifs : List Expr} {tt : TT} {E : Value → Shared → Prop} (hx : Y.xe = fun _ _ => False)
    (T : Turn Y.prog Y.w Y.K tg J fp it tn) (hc : Y.calm = true) (pg : PG Y tg g) (pt : PTs Y ifs tt) (I : Inv Y pins σ H s) (st : tn i s.heap) (fo : ∀ H' : Hp, (∀ b ∈ fp, H' b = none) → ∀ b ∈ fp, FpOk Y pins H' b) (nf : ∀ b ∈ fp, H b = none) {R0 : Shared → Prop} {R1 : Bool → Shared → Prop} {Z : Bool → L2.St → Hp → Prop}
    (alt : (J.stop i H ∧ ∀ s', Inv Y pins σ H s' → R0 s') ∨ (J.go i H ∧ ∀ x H', J.yld i H x H' → g x σ H' fun σ2 H2 => tt σ2 H2 fun b H3 => Z b σ2 H3)) (fin : ∀ b σ2 H3 h7 s9, Inv Y (pins ++ pinsAt fp h7) σ2 H3 s9 → tn (i + 1) h7 → Z b σ2 H3 → R1 b s9) :
    wpAny (model Y.prog Y.w) Y.A (pyNext (.ref it)) (fun r s₁ => match r with
      | none => R0 s₁
      | some v => wpAny (model Y.prog Y.w) Y.A (letOwnedTupleGo tg (.ref it) v) (fun _ s₁' => wpAny (model Y.prog Y.w) Y.A (assign tg Y.env v) (fun _ s₂ =>
          wpAny (model Y.prog Y.w) Y.A (forIn ifs true fun c r => if r = true then do let ok ← isTrue c Y.env (eval c Y.env); pure (ForInStep.yield ok) else pure (ForInStep.yield r)) R1 E s₂) E s₁') E s₁) E s := by
  rcases alt with ⟨stop, r0⟩ | ⟨go, step⟩
  · refine thnF (T.done Y rfl rfl rfl hc i pins s σ H (fun _ _ => False) I (fo H nf) st stop) fun r s1 ⟨hr, I1⟩ => ?_
    subst hr
    exact r0 s1 I1
  · refine thnF (T.item Y rfl rfl rfl hc i pins s σ H (fun _ _ => False) I (fo H nf) st go) fun r s1 ⟨u, hr, h1⟩ => ?_
    subst hr
    refine thnF h1 fun _ s2 ⟨x, H2, I2, r2, y2, st2, n2⟩ => ?_
    have q1 := pg.run _ s2 σ H2 x u _ (I2.pinned (fo H2 n2) (T.obj _ _ st2)) r2 (step x H2 y2)
    rw [hx] at q1
    refine thnF q1 fun _ s3 ⟨σ3, H3, I3, q3⟩ => ?_
    have q2 := pt.run _ s3 σ3 H3 _ I3 q3
    rw [hx] at q2
    exact thnF q2 fun b s4 ⟨H4, I4, q4⟩ => fin b σ3 H4 s2.heap s4 I4 st2 q4
/-! ### {elt for tg in iter if ..} -/
def tScK (P : Program) (w : World) (wi : TI) (g : TG) (tt : TT) (te : TE) (vs : List Nat) : TE := fun σ H Q => wi σ H fun J H1 => ∀ D, H1 D = none → ∃ W : Nat → Nat → Hp → Prop, (∃ m, W 0 m (upd H1 D (SetKO P w D []))) ∧ ∀ i m H, W i m H →
  (J.stop i H ∧ Q (.ref D) H) ∨ (J.go i H ∧ ∃ Nx : Hp → Prop, (∀ H', Nx H' → ∃ m', m' < m ∧ W (i + 1) m' H') ∧ ∀ x H', J.yld i H x H' → g x (wipe σ vs) H' fun σ2 H2 => tt σ2 H2 fun b H3 => wipe σ2 vs = wipe σ vs ∧
    if b = true then te σ2 H3 fun y H4 => ∃ (k : Key) (ks : List Key), y = kV k ∧ H4 D = some (SetKO P w D ks) ∧ ks.length + 1 < scanBound ∧ Nx (upd H4 D (SetKO P w D (putS ks k))) else Nx H3)
end
/-- the block's context -/
abbrev Blk (X : Cx) (scope : Scope) (s : Shared) (H : Hp) (C : Addr) (cl : List (PySem.Str × Addr)) (fp : List Addr) : Cx := X.blk s H scope (compEnvC scope cl C X.env) fp
section
variable {X : Cx}
theorem scK_core {pins : List (Addr × Obj)} {s : Shared} {σ : L2.St} {H : Hp} {Q : VK} {elt tg iter : Expr} {ifs : List Expr} {scope : Scope} {own : List (PySem.Str × Nat)} {pos pos' : Pos} {wi : TI} {g : TG} {tt : TT} {te : TE} {Qf : Value → Shared → Prop} {use : Option (Value → Sem Unit)} (hc : X.calm = true) (hN : X.N.Nodup)
    (I : Inv X pins σ H s) (hi : PI X tg iter wi) (ok : BlkOk X.N X.env.scope scope own) (hg : ∀ s H C cl fp, PG (Blk X scope s H C cl fp) tg g) (ht : ∀ s H C cl fp, PTs (Blk X scope s H C cl fp) ifs tt) (he : ∀ s H C cl fp, PE (Blk X scope s H C cl fp) elt te)
    (hs : ∀ x, foldedSetIterable iter X.env x = pure x) (h : tScK X.prog X.w wi g tt te (own.map (·.2)) σ H Q)
    (out : ∀ D C s' m H', Inv X pins σ H' s' → Q (.ref D) H' → s'.heap.Ns C m → FpOk X pins H' C → compPost (model X.prog X.w) X.A X.xe use Qf (.ref D) C (.ok .next) s') :
    wpAny (model X.prog X.w) X.A (comprehension (.SetComp elt [⟨tg, iter, ifs, 0⟩] scope pos) scope X.env pos' (newSet (.type "set")) false (eval iter X.env) use) Qf X.xe s := by
  refine wpAny_comprehension_free (use := use) rfl hs (closure_ok fun y hy e => I.ok.has _ (ok.free y hy e)) ok.kind (fun y hy e => by rw [ok.uniq y hy, e]) (thn (hi.run pins s σ H _ I h) fun xv s1 hx => thn hx fun itv s2 h2 => ?_)
  obtain ⟨it, fp, tn, J, H2, rfl, I2, T, st2, f2, q⟩ := h2
  refine PpSet.newSet_ok (newEnv_comp ?_)
  obtain ⟨D, hD⟩ : ∃ D, D = s2.heap.objs.size := ⟨_, rfl⟩
  have nD : H2 D = none := I2.hok.fresh (Nat.le_of_eq hD.symm)
  obtain ⟨W, ⟨m0, w0⟩, turn⟩ := q D nD
  -- the new set
  obtain ⟨s3, hs3⟩ : ∃ s3 : Shared, s3 = { s2 with heap := s2.heap.push (setObj0 X.w) } := ⟨_, rfl⟩
  obtain ⟨H3, hH3⟩ : ∃ H3, H3 = upd H2 D (SetKO X.prog X.w D []) := ⟨_, rfl⟩
  have I3 : Inv X pins σ H3 s3 := by
    rw [hs3, hH3]
    refine I2.laid (t' := s2.toks) (fun b o e => Heap.get?_push_of_some _ e) (Nat.le_of_eq hD.symm) (setKO_new ⟨[], kset_new ?_, .refl _⟩)
    rw [hD]
    exact Heap.get?_push_size _ rfl
  have f3 : ∀ b ∈ fp, FpOk X pins H3 b ∧ b < s3.heap.objs.size := fun b hb => by
    obtain ⟨o, e, _⟩ := T.obj _ _ st2 b hb
    have lt := Heap.lt_size e
    refine ⟨⟨?_, (f2 b hb).2⟩, by rw [hs3, Heap.size_push]; exact Nat.lt_succ_of_lt lt⟩
    rw [hH3, upd_ne (by rw [hD]; exact Nat.ne_of_lt lt)]
    exact (f2 b hb).1
  have I4 := block_start I3 ok hN f3
  rw [← hD, ← hs3]
  rw [← hH3] at w0
  -- names for what the block runs in
  obtain ⟨C, hC⟩ : ∃ C, C = s3.heap.objs.size := ⟨_, rfl⟩
  rw [← hC] at I4 ⊢
  obtain ⟨cl, hcl⟩ : ∃ cl, cl = cellsFrom (C + 1) scope.names (cloFrom X.env.cells scope.names []) := ⟨_, rfl⟩
  rw [← hcl] at I4 ⊢
  obtain ⟨s4, hs4⟩ : ∃ s4 : Shared, s4 = { s3 with heap := pushCells (s3.heap.push { cls := .type "dict", data := .dict #[] }) scope.names } := ⟨_, rfl⟩
  rw [← hs4] at I4 ⊢
  obtain ⟨Y, hY⟩ : ∃ Y, Y = Blk X scope s3 H3 C cl fp := ⟨_, rfl⟩
  have st4 : tn 0 s4.heap := T.keep _ _ _ st2 fun b _ o e => by
    rw [hs4]
    refine pushCells_keeps _ _ _ _ (Heap.get?_push_of_some _ ?_)
    rw [hs3]
    exact Heap.get?_push_of_some _ e
  have fo : ∀ {σ' : L2.St} {H0 : Hp} {s' : Shared}, Inv (Blk X scope s3 H3 C cl fp) [] σ' H0 s' → ∀ H' : Hp, (∀ b ∈ fp, H' b = none) → ∀ b ∈ fp, FpOk (Blk X scope s3 H3 C cl fp) [] H' b := fun {σ' H0 s'} I' H' hn b hb =>
    ⟨hn b hb, (I'.ok.exf b hb).1, I'.ok.exfs b hb, .inl hb, fun x c e => (I'.ok.exf b hb).2 x c e, fun p hp => absurd (show p ∈ ([] : List (Addr × Obj)) ++ [] from hp) (by simp)⟩
  have loop : codeAny (model X.prog X.w) X.A (.compLoop (.SetComp elt [⟨tg, iter, ifs, 0⟩] scope pos) 0 (.ref it) (.ref D) (compEnvC scope cl C X.env)) (compPost (model X.prog X.w) X.A X.xe use Qf (.ref D) C) s4 := by
    refine PpSet.compLoopS_any (fun n s' => ∃ i H', Inv (Blk X scope s3 H3 C cl fp) [] (wipe σ (own.map (·.2))) H' s' ∧ tn i s'.heap ∧ (∀ b ∈ fp, H' b = none) ∧ W i n H') ?_ m0 ⟨0, H3, I4, st4, fun b hb => (f3 b hb).1.1, w0⟩
    rintro n s5 ⟨i, H5, I5, st5, n5, w5⟩
    have al := turn i n H5 w5
    rcases al with ⟨stop, qq⟩ | ⟨go, Nx, hNx, step⟩
    · refine clause (Y := Blk X scope s3 H3 C cl fp) (Z := fun _ _ _ => False) rfl T hc (hg _ _ _ _ _) (ht _ _ _ _ _) I5 st5 (fo I5) n5 (.inl ⟨stop, fun s6 I6 => ?_⟩) (fun b σ2 H3 h7 s9 I' st' z => z.elim)
      have I7 : Inv X pins σ H5 s6 := I3.call' (ch := fp) I6.os I6.base I6.hok I6.bare fun b hb => ⟨(f3 b hb).1.2.2.2.1, (f3 b hb).1.2.1, (f3 b hb).1.2.2.2.2.1, (f3 b hb).1.2.2.2.2.2⟩
      obtain ⟨m, hn, _⟩ := I6.loc
      have nC : H5 C = none := I6.free
      exact out D C s6 m H5 I7 qq hn (I3.fpOk (Nat.le_of_eq hC.symm) nC)
    · refine clause (Y := Blk X scope s3 H3 C cl fp) rfl T hc (hg _ _ _ _ _) (ht _ _ _ _ _) I5 st5 (fo I5) n5 (.inr ⟨go, step⟩) fun b σ8 H9 h7 s9 I9 st7 z => ?_
      obtain ⟨hw, q9⟩ := z
      have fin : ∀ {s' : Shared} {H' : Hp}, Inv (Blk X scope s3 H3 C cl fp) ([] ++ pinsAt fp h7) σ8 H' s' → Nx H' → ∃ m, m < n ∧ ∃ i H', Inv (Blk X scope s3 H3 C cl fp) [] (wipe σ (own.map (·.2))) H' s' ∧ tn i s'.heap ∧ (∀ b ∈ fp, H' b = none) ∧ W i m H' := fun {s' H'} I' nx => by
        obtain ⟨m', hm, w'⟩ := hNx H' nx
        obtain ⟨I8, st8, n8⟩ := unpin (Y := Blk X scope s3 H3 C cl fp) T I' st7
        refine ⟨m', hm, i + 1, H', I8.weak (by rw [← hw, wipe_length]) (fun j v e => ?_), st8, n8, w'⟩
        rw [← hw] at e
        exact (wipe_some e).1
      cases b with
      | false =>
        simp only [Bool.false_eq_true, if_false] at q9 ⊢
        exact fin I9 q9
      | true =>
        simp only [if_true] at q9 ⊢
        refine thnF ((he s3 H3 C cl fp).run _ s9 σ8 H9 _ I9 q9) fun z s10 ⟨y, H10, I10, r10, k, ks, ey, hD10, room, nx⟩ => ?_
        subst ey
        exact addK_ok (X := Blk X scope s3 H3 C cl fp) I10 hD10 r10 room fun s11 I11 => fin I11 nx
  exact PpSet.codeAny_compStart_set loop (T.self X.A 0 _ _ _ st4 loop)
theorem pe_scK {elt tg iter : Expr} {ifs : List Expr} {scope : Scope} {own : List (PySem.Str × Nat)} {pos : Pos} {wi : TI} {g : TG} {tt : TT} {te : TE} (hc : X.calm = true) (hN : X.N.Nodup) (hi : PI X tg iter wi) (ok : BlkOk X.N X.env.scope scope own)
    (hg : ∀ s H C cl fp, PG (Blk X scope s H C cl fp) tg g) (ht : ∀ s H C cl fp, PTs (Blk X scope s H C cl fp) ifs tt) (he : ∀ s H C cl fp, PE (Blk X scope s H C cl fp) elt te) (hs : ∀ x, foldedSetIterable iter X.env x = pure x := by intro _; rfl) :
    PE X (.SetComp elt [⟨tg, iter, ifs, 0⟩] scope pos) (tScK X.prog X.w wi g tt te (own.map (·.2))) := by
  refine ⟨fun pins s σ H Q I h => ?_⟩
  rw [PpSet.eval_SetComp]
  refine scK_core hc hN I hi ok hg ht he hs h fun D C s' m H' I' q hn f => ⟨m, hn, fun h'' sb => ?_⟩
  obtain ⟨f0, f1, f2, f3, f4, f5⟩ := f
  exact ⟨.ref D, H', I'.turned (t' := s'.toks) (fun b o hb e => (sb.2 b hb).trans e) f0 f1 f3 f4 f5, rfl, q⟩
end
end Sg
end
section
set_option maxRecDepth 100000
set_option maxHeartbeats 4000000
/-! Set comprehensions of texts and numbers with two fors. -/
namespace Sg
open PySem PySem.Spec PyProof.Rows L2 Evl
abbrev SC2 (elt t0 i0 t1 i1 : Expr) (c0 c1 : List Expr) (scope : Scope) (pos : Pos) : Expr := .SetComp elt [⟨t0, i0, c0, 0⟩, ⟨t1, i1, c1, 0⟩] scope pos
theorem turn_out (elt t0 i0 t1 i1 : Expr) (c0 c1 : List Expr) (scope : Scope) (pos : Pos) (it acc : Value) (env : Env) : compTurn (SC2 elt t0 i0 t1 i1 c0 c1 scope pos) 0 it acc env = (do
    standAt i0.pos
    match ← pyNext it with
    | none => pure (.done .next)
    | some v =>
      letOwnedTupleGo t0 it v
      assign t0 env v
      let mut ok := true
      for c in c0 do
        if ok then ok ← isTrue c env (eval c env)
      if ok then
        let x ← eval i1 env
        standAt i1.pos
        let x ← foldedSetIterable i1 env x
        let _ ← runOwn (.compStart (SC2 elt t0 i0 t1 i1 c0 c1 scope pos) 1 (← holding [x] (pyIter x)) acc env) env
      again (.compLoop (SC2 elt t0 i0 t1 i1 c0 c1 scope pos) 0 it acc env)) := by rfl
theorem turn_in (elt t0 i0 t1 i1 : Expr) (c0 c1 : List Expr) (scope : Scope) (pos : Pos) (it acc : Value) (env : Env) : compTurn (SC2 elt t0 i0 t1 i1 c0 c1 scope pos) 1 it acc env = (do
    standAt i1.pos
    match ← pyNext it with
    | none => pure (.done .next)
    | some v =>
      letOwnedTupleGo t1 it v
      assign t1 env v
      let mut ok := true
      for c in c1 do
        if ok then ok ← isTrue c env (eval c env)
      if ok then
        (do let v ← eval elt env; standAt elt.pos; let _ ← call (.builtin "set.add") [acc, v])
      again (.compLoop (SC2 elt t0 i0 t1 i1 c0 c1 scope pos) 1 it acc env)) := by rfl
section
variable {P : Program} {w : World} {A : Around} {R : Result → Shared → Prop} {s : Shared} {elt t0 i0 t1 i1 : Expr} {c0 c1 : List Expr} {scope : Scope} {pos : Pos} {it acc : Value} {env : Env}
/-- the tests of a clause -/
abbrev tests (cs : List Expr) (env : Env) : Sem Bool := forIn cs true fun c r => if r = true then do let ok ← isTrue c env (eval c env); pure (ForInStep.yield ok) else pure (ForInStep.yield r)
abbrev noted (P : Program) (w : World) (A : Around) (env : Env) (R : Result → Shared → Prop) : Value → Shared → Prop := notedBy (model P w) A env fun e s' => R (.error e) s'
theorem loop_out (hs : ∀ x, foldedSetIterable i1 env x = pure x) (I : Nat → Shared → Prop) (turn : ∀ n s, I n s → wpAny (model P w) A (pyNext it) (fun r s1 => match r with
      | none => R (.ok .next) s1
      | some v => wpAny (model P w) A (letOwnedTupleGo t0 it v) (fun _ s2 => wpAny (model P w) A (assign t0 env v) (fun _ s3 => wpAny (model P w) A (tests c0 env) (fun ok s4 =>
          if ok = true then wpAny (model P w) A (eval i1 env) (fun x s5 => wpAny (model P w) A (pyIter x) (fun it1 s6 => codeAny (model P w) A (.compStart (SC2 elt t0 i0 t1 i1 c0 c1 scope pos) 1 it1 acc env) (fun r s' => match r with
                | .ok _ => ∃ m, m < n ∧ I m s'
                | .error _ => False) s6) (noted P w A env R) s5) (noted P w A env R) s4
          else ∃ m, m < n ∧ I m s4) (noted P w A env R) s3) (noted P w A env R) s2) (noted P w A env R) s1) (noted P w A env R) s) (n : Nat) (h : I n s) :
    codeAny (model P w) A (.compLoop (SC2 elt t0 i0 t1 i1 c0 c1 scope pos) 0 it acc env) R s := by
  refine codeAny_loop rfl I (fun n s hI => ?_) n h
  show wpAny _ A ((compTurn (SC2 elt t0 i0 t1 i1 c0 c1 scope pos) 0 it acc env).onRaise fun x => do noteFrame x env; theTreesLotGoes x) _ _ s
  refine wpAny_noted ?_
  rw [turn_out]
  refine wpAny_bind (wpAny_standAt (wpAny_bind (wpAny_mono (turn n s hI) (fun r s1 q1 => ?_) fun _ _ z => z)))
  cases r with
  | none => exact wpAny_pure q1
  | some v =>
    refine wpAny_bind (wpAny_mono q1 (fun _ s2 q2 => wpAny_bind (wpAny_mono q2 (fun _ s3 q3 => wpAny_bind (wpAny_mono q3 (fun ok s4 q4 => ?_) fun _ _ z => z)) fun _ _ z => z)) fun _ _ z => z)
    cases ok with
    | false => exact wpAny_pure ⟨rfl, q4⟩
    | true =>
      refine wpAny_bind (wpAny_mono q4 (fun x s5 q5 => wpAny_bind (wpAny_standAt (wpAny_bind (wpAny_of_eq (hs x) (wpAny_bind (wpAny_holding (wpAny_mono q5 (fun it1 s6 q6 => ?_) fun _ _ z => z))))))) fun _ _ z => z)
      refine wpAny_bind (wpAny_runOwn ?_)
      rw [Around.mark_none]
      refine codeAny_mono q6 fun r s' hr => ?_
      cases r with
      | ok f => first | exact wpAny_pure ⟨rfl, hr⟩ | exact wpAny_bind (wpAny_pure (wpAny_pure ⟨rfl, hr⟩))
      | error e => exact hr.elim
theorem loop_in (I : Nat → Shared → Prop) (turn : ∀ n s, I n s → wpAny (model P w) A (pyNext it) (fun r s1 => match r with
      | none => R (.ok .next) s1
      | some v => wpAny (model P w) A (letOwnedTupleGo t1 it v) (fun _ s2 => wpAny (model P w) A (assign t1 env v) (fun _ s3 => wpAny (model P w) A (tests c1 env) (fun ok s4 =>
          if ok = true then wpAny (model P w) A (eval elt env) (fun x s5 => wpAny (model P w) A (call (.builtin "set.add") [acc, x]) (fun _ s6 => ∃ m, m < n ∧ I m s6) (noted P w A env R) s5) (noted P w A env R) s4
          else ∃ m, m < n ∧ I m s4) (noted P w A env R) s3) (noted P w A env R) s2) (noted P w A env R) s1) (noted P w A env R) s) (n : Nat) (h : I n s) :
    codeAny (model P w) A (.compLoop (SC2 elt t0 i0 t1 i1 c0 c1 scope pos) 1 it acc env) R s := by
  refine codeAny_loop rfl I (fun n s hI => ?_) n h
  show wpAny _ A ((compTurn (SC2 elt t0 i0 t1 i1 c0 c1 scope pos) 1 it acc env).onRaise fun x => do noteFrame x env; theTreesLotGoes x) _ _ s
  refine wpAny_noted ?_
  rw [turn_in]
  refine wpAny_bind (wpAny_standAt (wpAny_bind (wpAny_mono (turn n s hI) (fun r s1 q1 => ?_) fun _ _ z => z)))
  cases r with
  | none => exact wpAny_pure q1
  | some v =>
    refine wpAny_bind (wpAny_mono q1 (fun _ s2 q2 => wpAny_bind (wpAny_mono q2 (fun _ s3 q3 => wpAny_bind (wpAny_mono q3 (fun ok s4 q4 => ?_) fun _ _ z => z)) fun _ _ z => z)) fun _ _ z => z)
    cases ok with
    | false => exact wpAny_pure ⟨rfl, q4⟩
    | true => exact wpAny_bind (wpAny_bind (wpAny_mono q4 (fun x s5 q5 => wpAny_bind (wpAny_standAt (wpAny_bind (wpAny_mono q5 (fun _ s6 q6 => wpAny_pure (wpAny_pure ⟨rfl, q6⟩)) fun _ _ z => z)))) fun _ _ z => z))
theorem start_in (h0 : codeAny (model P w) A (.compLoop (SC2 elt t0 i0 t1 i1 c0 c1 scope pos) 1 it acc env) R s) (h : wpAny (model P w) A (pyIter it) (fun it' s' => codeAny (model P w) A (.compLoop (SC2 elt t0 i0 t1 i1 c0 c1 scope pos) 1 it' acc env) R s') (noted P w A env R) s) :
    codeAny (model P w) A (.compStart (SC2 elt t0 i0 t1 i1 c0 c1 scope pos) 1 it acc env) R s := by
  refine codeAny_of_tree ?_
  show wpAny _ _ ((compStart (SC2 elt t0 i0 t1 i1 c0 c1 scope pos) 1 it acc env).onRaise fun x => do noteFrame x env; standAt theWindowsPlace) _ _ s
  refine wpAny_notedAt ?_
  unfold compStart
  show wpAny _ _ (ask >>= _) _ _ s
  refine wpAny_bind (wpAny_askSetting (wpAny_ite ?_))
  split
  · first | exact wpAny_bind (wpAny_pure (wpAny_pure ⟨rfl, h0⟩)) | exact wpAny_pure ⟨rfl, h0⟩
  · refine wpAny_bind (wpAny_rule ?_)
    first
      | exact wpAny_bind (wpAny_standAt (wpAny_bind (wpAny_mono h (fun it' s' q => wpAny_pure ⟨rfl, q⟩) fun _ _ z => z)))
      | (show wpAny _ _ (standAt i1.pos >>= _) _ _ s; exact wpAny_bind (wpAny_standAt (wpAny_bind (wpAny_mono h (fun it' s' q => wpAny_pure ⟨rfl, q⟩) fun _ _ z => z))))
end
section
variable {X : Cx}
def tScK2 (P : Program) (w : World) (wi : TI) (g : TG) (tt : TT) (wi1 : TI) (g1 : TG) (tt1 : TT) (te : TE) (vs vs1 : List Nat) : TE := fun σ H Q => wi σ H fun J H1 => ∀ D, H1 D = none → ∃ W : Nat → Nat → Hp → Prop, (∃ m, W 0 m (upd H1 D (SetKO P w D []))) ∧ ∀ i m H, W i m H →
  (J.stop i H ∧ Q (.ref D) H) ∨ (J.go i H ∧ ∃ Nx : Hp → Prop, (∀ H', Nx H' → ∃ m', m' < m ∧ W (i + 1) m' H') ∧ ∀ x H', J.yld i H x H' → g x (wipe σ vs) H' fun σ2 H2 => tt σ2 H2 fun b H3 => wipe σ2 vs = wipe σ vs ∧
    if b = true then wi1 σ2 H3 fun J1 H4 => ∃ W1 : Nat → Nat → Hp → Prop, (∃ m, W1 0 m H4) ∧ ∀ j k H, W1 j k H → (J1.stop j H ∧ Nx H) ∨ (J1.go j H ∧ ∃ Nx1 : Hp → Prop, (∀ H', Nx1 H' → ∃ k', k' < k ∧ W1 (j + 1) k' H') ∧
        ∀ x H', J1.yld j H x H' → g1 x (wipe σ2 vs1) H' fun σ3 H5 => tt1 σ3 H5 fun b H6 => wipe σ3 vs1 = wipe σ2 vs1 ∧
          if b = true then te σ3 H6 fun y H7 => ∃ (k : Key) (ks : List Key), y = kV k ∧ H7 D = some (SetKO P w D ks) ∧ ks.length + 1 < scanBound ∧ Nx1 (upd H7 D (SetKO P w D (putS ks k))) else Nx1 H6)
    else Nx H3)
theorem scK2_core {pins : List (Addr × Obj)} {s : Shared} {σ : L2.St} {H : Hp} {Q : VK} {elt tg iter tg1 iter1 : Expr} {ifs ifs1 : List Expr} {scope : Scope} {own : List (PySem.Str × Nat)} {vs1 : List Nat} {pos pos' : Pos} {wi wi1 : TI} {g g1 : TG} {tt tt1 : TT} {te : TE} {Qf : Value → Shared → Prop} {use : Option (Value → Sem Unit)}
    (hc : X.calm = true) (hN : X.N.Nodup) (I : Inv X pins σ H s) (hi : PI X tg iter wi) (ok : BlkOk X.N X.env.scope scope own) (hv : ∀ i ∈ vs1, i ∈ own.map (·.2)) (hg : ∀ s H C cl fp, PG (Blk X scope s H C cl fp) tg g) (ht : ∀ s H C cl fp, PTs (Blk X scope s H C cl fp) ifs tt)
    (he : ∀ s H C cl fp, PE (Blk X scope s H C cl fp) elt te) (hi1 : ∀ s H C cl fp, PI (Blk X scope s H C cl fp) tg1 iter1 wi1) (hg1 : ∀ s H C cl fp, PG (Blk X scope s H C cl fp) tg1 g1) (ht1 : ∀ s H C cl fp, PTs (Blk X scope s H C cl fp) ifs1 tt1) (hs : ∀ x, foldedSetIterable iter X.env x = pure x)
    (hs1 : ∀ env x, foldedSetIterable iter1 env x = pure x) (h : tScK2 X.prog X.w wi g tt wi1 g1 tt1 te (own.map (·.2)) vs1 σ H Q)
    (out : ∀ D C s' m H', Inv X pins σ H' s' → Q (.ref D) H' → s'.heap.Ns C m → FpOk X pins H' C → compPost (model X.prog X.w) X.A X.xe use Qf (.ref D) C (.ok .next) s') :
    wpAny (model X.prog X.w) X.A (comprehension (SC2 elt tg iter tg1 iter1 ifs ifs1 scope pos) scope X.env pos' (newSet (.type "set")) false (eval iter X.env) use) Qf X.xe s := by
  refine wpAny_comprehension_free (use := use) rfl hs (closure_ok fun y hy e => I.ok.has _ (ok.free y hy e)) ok.kind (fun y hy e => by rw [ok.uniq y hy, e]) (thn (hi.run pins s σ H _ I h) fun xv s1 hx => thn hx fun itv s2 h2 => ?_)
  obtain ⟨it, fp, tn, J, H2, rfl, I2, T, st2, f2, q⟩ := h2
  refine PpSet.newSet_ok (newEnv_comp ?_)
  obtain ⟨D, hD⟩ : ∃ D, D = s2.heap.objs.size := ⟨_, rfl⟩
  have nD : H2 D = none := I2.hok.fresh (Nat.le_of_eq hD.symm)
  obtain ⟨W, ⟨m0, w0⟩, turn⟩ := q D nD
  obtain ⟨s3, hs3⟩ : ∃ s3 : Shared, s3 = { s2 with heap := s2.heap.push (setObj0 X.w) } := ⟨_, rfl⟩
  obtain ⟨H3, hH3⟩ : ∃ H3, H3 = upd H2 D (SetKO X.prog X.w D []) := ⟨_, rfl⟩
  have I3 : Inv X pins σ H3 s3 := by
    rw [hs3, hH3]
    refine I2.laid (t' := s2.toks) (fun b o e => Heap.get?_push_of_some _ e) (Nat.le_of_eq hD.symm) (setKO_new ⟨[], kset_new ?_, .refl _⟩)
    rw [hD]
    exact Heap.get?_push_size _ rfl
  have f3 : ∀ b ∈ fp, FpOk X pins H3 b ∧ b < s3.heap.objs.size := fun b hb => by
    obtain ⟨o, e, _⟩ := T.obj _ _ st2 b hb
    have lt := Heap.lt_size e
    refine ⟨⟨?_, (f2 b hb).2⟩, by rw [hs3, Heap.size_push]; exact Nat.lt_succ_of_lt lt⟩
    rw [hH3, upd_ne (by rw [hD]; exact Nat.ne_of_lt lt)]
    exact (f2 b hb).1
  have I4 := block_start I3 ok hN f3
  rw [← hD, ← hs3]
  rw [← hH3] at w0
  obtain ⟨C, hC⟩ : ∃ C, C = s3.heap.objs.size := ⟨_, rfl⟩
  rw [← hC] at I4 ⊢
  obtain ⟨cl, hcl⟩ : ∃ cl, cl = cellsFrom (C + 1) scope.names (cloFrom X.env.cells scope.names []) := ⟨_, rfl⟩
  rw [← hcl] at I4 ⊢
  obtain ⟨s4, hs4⟩ : ∃ s4 : Shared, s4 = { s3 with heap := pushCells (s3.heap.push { cls := .type "dict", data := .dict #[] }) scope.names } := ⟨_, rfl⟩
  rw [← hs4] at I4 ⊢
  have st4 : tn 0 s4.heap := T.keep _ _ _ st2 fun b _ o e => by
    rw [hs4]
    refine pushCells_keeps _ _ _ _ (Heap.get?_push_of_some _ ?_)
    rw [hs3]
    exact Heap.get?_push_of_some _ e
  have fo : ∀ {σ' : L2.St} {H0 : Hp} {s' : Shared}, Inv (Blk X scope s3 H3 C cl fp) [] σ' H0 s' → ∀ H' : Hp, (∀ b ∈ fp, H' b = none) → ∀ b ∈ fp, FpOk (Blk X scope s3 H3 C cl fp) [] H' b := fun {σ' H0 s'} I' H' hn b hb =>
    ⟨hn b hb, (I'.ok.exf b hb).1, I'.ok.exfs b hb, .inl hb, fun x c e => (I'.ok.exf b hb).2 x c e, fun p hp => absurd (show p ∈ ([] : List (Addr × Obj)) ++ [] from hp) (by simp)⟩
  have loop : codeAny (model X.prog X.w) X.A (.compLoop (SC2 elt tg iter tg1 iter1 ifs ifs1 scope pos) 0 (.ref it) (.ref D) (compEnvC scope cl C X.env)) (compPost (model X.prog X.w) X.A X.xe use Qf (.ref D) C) s4 := by
    refine loop_out (hs1 _) (fun n s' => ∃ i H', Inv (Blk X scope s3 H3 C cl fp) [] (wipe σ (own.map (·.2))) H' s' ∧ tn i s'.heap ∧ (∀ b ∈ fp, H' b = none) ∧ W i n H') ?_ m0 ⟨0, H3, I4, st4, fun b hb => (f3 b hb).1.1, w0⟩
    rintro n s5 ⟨i, H5, I5, st5, n5, w5⟩
    rcases turn i n H5 w5 with ⟨stop, qq⟩ | ⟨go, Nx, hNx, step⟩
    · refine clause (Y := Blk X scope s3 H3 C cl fp) (Z := fun _ _ _ => False) rfl T hc (hg _ _ _ _ _) (ht _ _ _ _ _) I5 st5 (fo I5) n5 (.inl ⟨stop, fun s6 I6 => ?_⟩) (fun b σ2 H3 h7 s9 I' st' z => z.elim)
      have I7 : Inv X pins σ H5 s6 := I3.call' (ch := fp) I6.os I6.base I6.hok I6.bare fun b hb => ⟨(f3 b hb).1.2.2.2.1, (f3 b hb).1.2.1, (f3 b hb).1.2.2.2.2.1, (f3 b hb).1.2.2.2.2.2⟩
      obtain ⟨m, hn, _⟩ := I6.loc
      have nC : H5 C = none := I6.free
      exact out D C s6 m H5 I7 qq hn (I3.fpOk (Nat.le_of_eq hC.symm) nC)
    · refine clause (Y := Blk X scope s3 H3 C cl fp) rfl T hc (hg _ _ _ _ _) (ht _ _ _ _ _) I5 st5 (fo I5) n5 (.inr ⟨go, step⟩) fun b σ8 H9 h7 s9 I9 st7 z => ?_
      obtain ⟨hw, q9⟩ := z
      -- from any slots that know what the block knew
      have fin : ∀ {σ9 : L2.St} {s' : Shared} {H' : Hp}, Inv (Blk X scope s3 H3 C cl fp) ([] ++ pinsAt fp h7) σ9 H' s' → (wipe σ (own.map (·.2))).length = σ9.length → (∀ (j : Nat) v, (wipe σ (own.map (·.2)))[j]? = some (some v) → σ9[j]? = some (some v)) → Nx H' →
          ∃ m, m < n ∧ ∃ i H', Inv (Blk X scope s3 H3 C cl fp) [] (wipe σ (own.map (·.2))) H' s' ∧ tn i s'.heap ∧ (∀ b ∈ fp, H' b = none) ∧ W i m H' := fun {σ9 s' H'} I' hl hk nx => by
        obtain ⟨m', hm, w'⟩ := hNx H' nx
        obtain ⟨I8, st8, n8⟩ := unpin (Y := Blk X scope s3 H3 C cl fp) T I' st7
        exact ⟨m', hm, i + 1, H', I8.weak hl hk, st8, n8, w'⟩
      have l8 : (wipe σ (own.map (·.2))).length = σ8.length := by rw [← hw, wipe_length]
      cases b with
      | false =>
        simp only [Bool.false_eq_true, if_false] at q9 ⊢
        refine fin I9 l8 (fun j v e => ?_) q9
        rw [← hw] at e
        exact (wipe_some e).1
      | true =>
        simp only [if_true] at q9 ⊢
        refine thnF ((hi1 s3 H3 C cl fp).run _ s9 σ8 H9 _ I9 q9) fun xv s10 hx => thnF hx fun itv s11 h11 => ?_
        obtain ⟨it1, fp1, tn1, J1, H11, rfl, I11, T1, st11, f11, W1, ⟨m1, w1⟩, turn1⟩ := h11
        have fo1 : ∀ H' : Hp, (∀ b ∈ fp1, H' b = none) → ∀ b ∈ fp1, FpOk (Blk X scope s3 H3 C cl fp) ([] ++ pinsAt fp h7) H' b := fun H' hn b hb => ⟨hn b hb, (f11 b hb).2⟩
        have loop1 : codeAny (model X.prog X.w) X.A (.compLoop (SC2 elt tg iter tg1 iter1 ifs ifs1 scope pos) 1 (.ref it1) (.ref D) (compEnvC scope cl C X.env)) (fun r s' => match r with
              | .ok _ => ∃ m, m < n ∧ ∃ i H', Inv (Blk X scope s3 H3 C cl fp) [] (wipe σ (own.map (·.2))) H' s' ∧ tn i s'.heap ∧ (∀ b ∈ fp, H' b = none) ∧ W i m H'
              | .error _ => False) s11 := by
          refine loop_in (fun k s' => ∃ j H', Inv (Blk X scope s3 H3 C cl fp) ([] ++ pinsAt fp h7) (wipe σ8 vs1) H' s' ∧ tn1 j s'.heap ∧ (∀ b ∈ fp1, H' b = none) ∧ W1 j k H') ?_ m1 ⟨0, H11, I11.weak (wipe_length _ _) (fun j v e => (wipe_some e).1), st11, fun b hb => (f11 b hb).1, w1⟩
          rintro k s12 ⟨j, H12, I12, st12, n12, w12⟩
          rcases turn1 j k H12 w12 with ⟨stop1, nx1⟩ | ⟨go1, Nx1, hNx1, step1⟩
          · refine clause (Y := Blk X scope s3 H3 C cl fp) (Z := fun _ _ _ => False) rfl T1 hc (hg1 _ _ _ _ _) (ht1 _ _ _ _ _) I12 st12 fo1 n12 (.inl ⟨stop1, fun s13 I13 => ?_⟩) (fun b σ2 H3 h7 s9 I' st' z => z.elim)
            refine fin I13 (l8.trans (wipe_length σ8 vs1).symm) (fun j v e => ?_) nx1
            rw [← hw] at e
            obtain ⟨e1, e2⟩ := wipe_some e
            rw [wipe_out fun z => e2 (hv j z)]
            exact e1
          · refine clause (Y := Blk X scope s3 H3 C cl fp) rfl T1 hc (hg1 _ _ _ _ _) (ht1 _ _ _ _ _) I12 st12 fo1 n12 (.inr ⟨go1, step1⟩) fun b1 σ15 H16 h14 s16 I16 st14 z1 => ?_
            obtain ⟨hw1, q16⟩ := z1
            have fin1 : ∀ {s' : Shared} {H' : Hp}, Inv (Blk X scope s3 H3 C cl fp) (([] ++ pinsAt fp h7) ++ pinsAt fp1 h14) σ15 H' s' → Nx1 H' → ∃ m, m < k ∧ ∃ j H', Inv (Blk X scope s3 H3 C cl fp) ([] ++ pinsAt fp h7) (wipe σ8 vs1) H' s' ∧ tn1 j s'.heap ∧ (∀ b ∈ fp1, H' b = none) ∧ W1 j m H' := fun {s' H'} I' nx => by
              obtain ⟨m', hm, w'⟩ := hNx1 H' nx
              obtain ⟨I8, st8, n8⟩ := unpin (Y := Blk X scope s3 H3 C cl fp) T1 I' st14
              exact ⟨m', hm, j + 1, H', I8.weak (by rw [← hw1, wipe_length]) (fun j v e => by rw [← hw1] at e; exact (wipe_some e).1), st8, n8, w'⟩
            cases b1 with
            | false =>
              simp only [Bool.false_eq_true, if_false] at q16 ⊢
              exact fin1 I16 q16
            | true =>
              simp only [if_true] at q16 ⊢
              refine thnF ((he s3 H3 C cl fp).run _ s16 σ15 H16 _ I16 q16) fun z s17 ⟨y, H17, I17, r17, k', ks, ey, hD17, room, nx⟩ => ?_
              subst ey
              exact addK_ok (X := Blk X scope s3 H3 C cl fp) I17 hD17 r17 room fun s18 I18 => fin1 I18 nx
        exact start_in loop1 (T1.self X.A 0 _ _ _ st11 loop1)
  exact PpSet.codeAny_compStart_set loop (T.self X.A 0 _ _ _ st4 loop)
theorem pe_scK2 {elt tg iter tg1 iter1 : Expr} {ifs ifs1 : List Expr} {scope : Scope} {own : List (PySem.Str × Nat)} {vs1 : List Nat} {pos : Pos} {wi wi1 : TI} {g g1 : TG} {tt tt1 : TT} {te : TE} (hc : X.calm = true) (hN : X.N.Nodup) (hi : PI X tg iter wi) (ok : BlkOk X.N X.env.scope scope own) (hv : ∀ i ∈ vs1, i ∈ own.map (·.2))
    (hg : ∀ s H C cl fp, PG (Blk X scope s H C cl fp) tg g) (ht : ∀ s H C cl fp, PTs (Blk X scope s H C cl fp) ifs tt) (hi1 : ∀ s H C cl fp, PI (Blk X scope s H C cl fp) tg1 iter1 wi1) (hg1 : ∀ s H C cl fp, PG (Blk X scope s H C cl fp) tg1 g1) (ht1 : ∀ s H C cl fp, PTs (Blk X scope s H C cl fp) ifs1 tt1)
    (he : ∀ s H C cl fp, PE (Blk X scope s H C cl fp) elt te) (hs : ∀ x, foldedSetIterable iter X.env x = pure x := by intro _; rfl) (hs1 : ∀ env x, foldedSetIterable iter1 env x = pure x := by intro _ _; rfl) :
    PE X (SC2 elt tg iter tg1 iter1 ifs ifs1 scope pos) (tScK2 X.prog X.w wi g tt wi1 g1 tt1 te (own.map (·.2)) vs1) := by
  refine ⟨fun pins s σ H Q I h => ?_⟩
  rw [PpSet.eval_SetComp]
  refine scK2_core hc hN I hi ok hv hg ht he hi1 hg1 ht1 hs hs1 h fun D C s' m H' I' q hn f => ⟨m, hn, fun h'' sb => ?_⟩
  obtain ⟨f0, f1, f2, f3, f4, f5⟩ := f
  exact ⟨.ref D, H', I'.turned (t' := s'.toks) (fun b o hb e => (sb.2 b hb).trans e) f0 f1 f3 f4 f5, rfl, q⟩
end
end Sg
end
section
set_option maxRecDepth 100000
set_option maxHeartbeats 4000000
/-! for some in combinations(xs, r). -/
namespace Sg.Comb
open PySem PySem.Spec PyProof.Rows L2 Evl Sg
open PySem.Builtin.Itertools
abbrev T : String := "itertools.combinations"
theorem mro_is : mroOf (.type T) = pure [.type T, .type "object"] := by rw [mroOf_type]; kernel_rfl
theorem new_is : typeLookup (.type T) "__new__" = pure (some (.builtin "itertools.combinations.__new__")) := by rw [typeLookup_type, builtinLookup_eq_fast]; kernel_rfl
theorem sub_is : isSubtype (.type T) (.type T) = pure true := by rw [isSubtype_type]; kernel_rfl
theorem slot_init : Slot T "__init__" "object.__init__" :=
  .of (owner := "object") (n := "__init__") (by rw [typeLookup_type, builtinLookup_eq_fast]; kernel_rfl) (by decide +kernel) (by decide +kernel) (by decide +kernel) (by first | exact .inl (by decide +kernel) | exact .inr (by decide +kernel)) (by rw [isSubtype_type]; kernel_rfl)
theorem slot_iter : Slot T "__iter__" "itertools.combinations.__iter__" :=
  .of (owner := T) (n := "__iter__") (by rw [typeLookup_type, builtinLookup_eq_fast]; kernel_rfl) (by decide +kernel) (by decide +kernel) (by decide +kernel) (by first | exact .inl (by decide +kernel) | exact .inr (by decide +kernel)) sub_is
theorem slot_next : Slot T "__next__" "itertools.combinations.__next__" :=
  .of (owner := T) (n := "__next__") (by rw [typeLookup_type, builtinLookup_eq_fast]; kernel_rfl) (by decide +kernel) (by decide +kernel) (by decide +kernel) (by first | exact .inl (by decide +kernel) | exact .inr (by decide +kernel)) sub_is
theorem called : TypeCalled T "itertools.combinations.__new__" "object.__init__" := ⟨by decide +kernel, by decide +kernel, ⟨_, _, mro_is⟩, madeBy_type mro_is new_is (by decide +kernel), by decide +kernel, sub_is, slot_init⟩
theorem type_call (a b : Value) : checkTypeCall T ⟨[a, b], []⟩ = pure () := by kernel_rfl
theorem new_call (a b : Value) : checkBuiltinCall "itertools.combinations.__new__" ⟨[.type T, a, b], []⟩ = pure () := by kernel_rfl
theorem entry_new : entryFor table "itertools.combinations.__new__" = some Builtin.«itertools.combinations.__new__» := entryFor_of_tree (by kernel_rfl)
theorem entry_next : entryFor table "itertools.combinations.__next__" = some Builtin.«itertools.combinations.__next__» := entryFor_of_tree (by kernel_rfl)
theorem entry_iter : entryFor table "itertools.combinations.__iter__" = some Builtin.«dict_keyiterator.__iter__» :=
  entryFor_alias (id' := "dict_keyiterator.__iter__") (by kernel_rfl) (by first | rfl | decide +kernel | (unfold String.splitOn; simp +decide [String.splitOnAux])) (by decide +kernel) (by kernel_rfl)
abbrev rev (s : String) : List Char := s.toList.reverse
theorem owner_is : Manifest.owners.lookup (String.ofList (['s', 'n', 'o', 'i', 't', 'a', 'n', 'i', 'b', 'm', 'o', 'c', '.', 's', 'l', 'o', 'o', 't', 'r', 'e', 't', 'i'] : List Char).reverse) = some Manifest.sig_itertools_combinations := by kernel_rfl
theorem args_iter (a : Value) : argsOk "itertools.combinations.__iter__" ⟨[a], []⟩ := by
  unfold argsOk
  rw [signature?_of (id := "itertools.combinations.__iter__") (n := ['_', '_', 'r', 'e', 't', 'i', '_', '_']) (o := ['s', 'n', 'o', 'i', 't', 'a', 'n', 'i', 'b', 'm', 'o', 'c', '.', 's', 'l', 'o', 'o', 't', 'r', 'e', 't', 'i']) (by kernel_rfl) owner_is]
  kernel_rfl
theorem args_next (a : Value) : argsOk "itertools.combinations.__next__" ⟨[a], []⟩ := by
  unfold argsOk
  rw [signature?_of (id := "itertools.combinations.__next__") (n := ['_', '_', 't', 'x', 'e', 'n', '_', '_']) (o := ['s', 'n', 'o', 'i', 't', 'a', 'n', 'i', 'b', 'm', 'o', 'c', '.', 's', 'l', 'o', 'o', 't', 'r', 'e', 't', 'i']) (by kernel_rfl) owner_is]
  kernel_rfl
theorem no_dict : typeHasDict (.type T) = false := by decide +kernel
/-! ### its steps, opened -/
def nextC (n : Nat) (ix : List Nat) : Option (List Nat) := match (List.range ix.length).reverse.find? fun i => ix.getD i 0 != i + n - ix.length with
  | none => none
  | some i => some (ix.take i ++ (List.range (ix.length - i)).map (ix.getD i 0 + 1 + ·))
def give (self pool : Value) (ix : List Nat) : Sem Fin := do
  let r ← (do let xs ← itPoolItems pool; newTuple (ix.map fun i => xs.getD i .none))
  let b ← field self 2
  setField self 2 r
  letGo [b] [r]
  ret r
theorem next_eq (it : Addr) : Builtin.«itertools.combinations.__next__» ⟨[.ref it], []⟩ = (do
    let (self, _) ← slotArgs "__next__" 0 ⟨[.ref it], []⟩
    let pool ← field self 0
    let ix ← itNumbersFrom self 3
    match ← itIntField self 1 with
    | 0 => setField self 1 (rawInt 1); give self pool ix
    | 1 =>
      match nextC (← itPoolItems pool).size ix with
      | some nx => itSetNumbersFrom self 3 nx; give self pool nx
      | none => setField self 1 (rawInt 2); itStop
    | _ => rule "itertools.combinations.ended"; itStop) := by rfl
def poolR (args : Args) : Sem (Value × Value × Nat × Nat) := do
  let (c, rest) ← itClassAndRest "combinations" args
  let [some xs, some rV] ← itBindNamed "combinations" ["iterable", "r"] 2 2 rest args.kw | unsupported "internal:itertools.combinations.__new__"
  let r ← itSsizeArg rV
  let items ← collect xs
  if r < 0 then
    rule "itertools.combinations.negative-r"
    raiseError "ValueError" "r must be non-negative"
  if itTooMany r then unsupported s!"itertools.{"combinations"}.__new__:memory"
  return (c, ← newTuple items, items.length, r.toNat)
theorem new_eq (args : Args) : Builtin.«itertools.combinations.__new__» args = (do
    let (c, p, n, r) ← poolR args
    ret (← itNewRecord c ([p, rawInt (if r > n then 2 else 0), .none] ++ (List.range r).map fun (i : Nat) => rawInt i))) := by rfl
end Sg.Comb
end
section
set_option maxRecDepth 100000
set_option maxHeartbeats 4000000
namespace Sg.Comb
open PySem PySem.Spec PyProof.Rows L2 Evl Sg
open PySem.Builtin.Itertools
/-- the object of a walk over all choices -/
abbrev cObj (pool : Value) (st : Int) (last : Value) (ix : List Nat) : Obj := { cls := .type T, dict := none, data := .fields (([pool, .int st 0, last] ++ ix.map fun (i : Nat) => rawInt (i : Int)).toArray), slots := #[] }
abbrev copyH (h : Heap) (xs : Array Value) : Heap := (h.push (seqObj "list" #[] 0)).update h.objs.size (Obj.mapSeq (· ++ xs))
theorem c_fits {p q v : Value} {r : Nat} (h : r ≤ 1000) : sizeOk (Data.fields (([p, q, v] ++ (List.range r).map fun (i : Nat) => rawInt (i : Int)).toArray)) := by
  show (([p, q, v] ++ (List.range r).map fun (i : Nat) => rawInt (i : Int)).toArray).size ≤ sizeLine + 2
  rw [List.size_toArray, List.length_append, List.length_map, List.length_range, sizeLine_eq]
  show 3 + r ≤ _
  omega
theorem comb_new (l : Addr) (xs : Array Value) (r : Nat) (t : Tok) (h1000 : r ≤ 1000) : Meets (Builtin.«itertools.combinations.__new__» ⟨[.type T, .ref l, .int (r : Int) t], []⟩) (fun _ R s => (s.heap.IsList l xs ∧ xs.size ≤ sizeLine) ∧
    R (.ok (.ret (.ref (s.heap.objs.size + 2)))) { s with heap := ((copyH s.heap xs).push { cls := .type "tuple", data := .seq xs 0 }).push (cObj (.ref (s.heap.objs.size + 1)) (if r > xs.size then 2 else 0) .none (List.range r)) }) :=
  .of_wp fun prog w A R s h => by
    obtain ⟨⟨hl, hz⟩, h⟩ := h
    have hsub : isSubtype (.type T) (.type ("itertools." ++ "combinations")) = pure true := by
      rw [show ("itertools." ++ "combinations" : String) = T by decide]
      exact sub_is
    have hneg : ¬ ((r : Int) < 0) := by omega
    have hbig : ¬ (itTooMany (r : Int) = true) := by
      unfold itTooMany
      simp
      omega
    have hsz : ¬ ((!(decide (-(2 ^ 63 : Int) ≤ (r : Int)) && decide ((r : Int) < (2 ^ 63 : Int)))) = true) := by
      rw [decide_eq_true (show -(2 ^ 63 : Int) ≤ (r : Int) by omega), decide_eq_true (show (r : Int) < (2 ^ 63 : Int) by omega)]
      decide
    have hd := no_dict
    rw [new_eq]
    unfold poolR
    obtain ⟨hp, g, dd, tk, os⟩ := s
    repeat (first
      | wp_step
      | simp only [List.head?_cons, Option.some_or, List.getElem?_cons_succ, List.getElem?_cons_zero, List.length_cons, List.length_nil, List.forIn_nil])
    refine wp_if_neg (by simp; omega) (wpAny_pure ?_)
    try dsimp only
    refine wpAny_bind (collect_list (vs := xs.toList) (by simpa using hl) ?_ (by simpa using hz))
    refine wp_if_neg hneg (wp_if_neg hbig ?_)
    simp only [newTuple]
    refine wpAny_bind (wpAny_newObj_type ?_ (by show xs.toList.toArray.size ≤ sizeLine; simpa using hz))
    refine wpAny_pure ?_
    try dsimp only
    simp only [itNewRecord, hd]
    simp only [Bool.not_false, if_true]
    refine wpAny_bind ?_
    have e1 : ((hp.push (seqObj "list" #[] 0)).update hp.objs.size (Obj.mapSeq (· ++ xs))).objs.size = hp.objs.size + 1 := by rw [Heap.size_update, size_push']
    have e2 : (((hp.push (seqObj "list" #[] 0)).update hp.objs.size (Obj.mapSeq (· ++ xs))).push { cls := Value.type "tuple", data := Data.seq xs }).objs.size = hp.objs.size + 2 := by rw [size_push', e1]
    simp only [Array.toArray_toList, Int.toNat_natCast, Array.length_toList, e1]
    refine wpAny_newObj_type ?_ (c_fits h1000)
    rw [e2]
    exact wpAny_pure ⟨_, rfl, h⟩
end Sg.Comb
end
section
set_option maxRecDepth 100000
set_option maxHeartbeats 4000000
/-! combinations(xs, r): its turns. -/
namespace Sg.Comb
open PySem PySem.Spec PyProof.Rows L2 Evl Sg
open PySem.Builtin.Itertools
section
variable {P : Program} {w : World} {A : Around} {E : Value → Shared → Prop} {s : Shared}
abbrev IsComb (h : Heap) (it : Addr) (pool : Value) (st : Int) (last : Value) (ix : List Nat) : Prop := h.get? it = some (cObj pool st last ix)
theorem call_comb {l : Addr} {xs : Array Value} {r : Nat} {t : Tok} {Q : Value → Shared → Prop} (hl : s.heap.IsList l xs) (hz : xs.size ≤ sizeLine) (hr : r ≤ 1000)
    (h : ∀ h', IsComb h' (s.heap.objs.size + 2) (.ref (s.heap.objs.size + 1)) (if r > xs.size then 2 else 0) .none (List.range r) → h'.get? (s.heap.objs.size + 1) = some { cls := .type "tuple", data := .seq xs 0 } → Ext s.heap h' →
      Q (.ref (s.heap.objs.size + 2)) { s with heap := h' }) : wpAny (model P w) A (call (.type T) [.ref l, .int (r : Int) t]) Q E s := by
  have e1 : (copyH s.heap xs).objs.size = s.heap.objs.size + 1 := by rw [Heap.size_update, size_push']
  have e2 : ((copyH s.heap xs).push { cls := Value.type "tuple", data := Data.seq xs }).objs.size = s.heap.objs.size + 2 := by rw [size_push', e1]
  have g1 : (((copyH s.heap xs).push { cls := Value.type "tuple", data := Data.seq xs }).push (cObj (.ref (s.heap.objs.size + 1)) (if r > xs.size then 2 else 0) .none (List.range r))).get? (s.heap.objs.size + 2) = some (cObj (.ref (s.heap.objs.size + 1)) (if r > xs.size then 2 else 0) .none (List.range r)) := by
    rw [← e2]
    exact Heap.get?_push_size _ rfl
  refine callType_new called (by decide +kernel) (type_call _ _) (new_call _ _) (fun obj => F.args_object_init_3 obj _ _) entry_new (comb_new l xs r t hr) ⟨⟨hl, hz⟩, ⟨_, g1, rfl⟩, h _ g1 ?_ fun b o e => ?_⟩
  · refine Heap.get?_push_of_some _ ?_
    rw [← e1]
    exact Heap.get?_push_size _ rfl
  · have lt := Heap.lt_size e
    refine Heap.get?_push_of_some _ (Heap.get?_push_of_some _ ?_)
    show ((s.heap.push (seqObj "list" #[] 0)).update s.heap.objs.size (Obj.mapSeq (· ++ xs))).get? b = some o
    rw [Heap.get?_update_ne _ _ _ _ (Nat.ne_of_lt lt)]
    exact Heap.get?_push_of_some _ e
theorem iter_comb {it : Addr} {pool last : Value} {st : Int} {ix : List Nat} {Q : Value → Shared → Prop} (hit : IsComb s.heap it pool st last ix) (h : Q (.ref it) s) : wpAny (model P w) A (pyIter (.ref it)) Q E s := by
  have ty : s.TypeIs (.ref it) T := ⟨_, hit, rfl⟩
  refine wpAny_pyIter_slot ty slot_iter (wpAny_call_entry slot_iter ty entry_iter ?_ (args_iter _))
  show wpAny _ _ (ret (.ref it)) _ _ s
  exact wpAny_pure ⟨_, rfl, T, _, ty, slot_next.lookup, h⟩
/-- the tuple that is handed out -/
abbrev chosen (xs : Array Value) (ix : List Nat) : List Value := ix.map fun i => xs.getD i .none
theorem numbers_at {it : Addr} {pool last : Value} {st : Int} {ix : List Nat} {Q : List Nat → Shared → Prop} (hit : IsComb s.heap it pool st last ix) (h : Q ix s) : wpAny (model P w) A (itNumbersFrom (.ref it) 3) Q E s := by
  unfold itNumbersFrom
  refine wpAny_bind (wpAny_load hit ?_)
  refine wpAny_pure ?_
  have e : ((([pool, Value.int st 0, last] ++ ix.map fun (i : Nat) => rawInt (i : Int)).toArray.toList.drop 3).map fun | .int n _ => n.toNat | _ => 0) = ix := by
    simp [rawInt, List.map_map, Function.comp_def]
  first
    | (rw [← e] at h; exact h)
    | exact e ▸ h
theorem give_at {it p : Addr} {xs : Array Value} {n : Nat} {last : Value} {st : Int} {ix : List Nat} {Q : Fin → Shared → Prop} (hit : IsComb s.heap it (.ref p) st last ix) (hp : s.heap.get? p = some { cls := .type "tuple", data := .seq xs n }) (hz : ix.length ≤ sizeLine)
    (h : ∀ h', IsComb h' it (.ref p) st (.ref s.heap.objs.size) ix → h'.get? s.heap.objs.size = some { cls := .type "tuple", data := .seq (chosen xs ix).toArray } → (∀ b o, b ≠ it → s.heap.get? b = some o → h'.get? b = some o) → Q (.done (.ret (.ref s.heap.objs.size))) { s with heap := h' }) :
    wpAny (model P w) A (give (.ref it) (.ref p) ix) Q E s := by
  have lt := Heap.lt_size hit
  unfold give itPoolItems
  refine wpAny_bind (wpAny_bind (wpAny_bind (wpAny_seqItems hp rfl (wpAny_pure ?_))))
  simp only [newTuple]
  refine wpAny_newObj_type ?_ (by show (chosen xs ix).toArray.size ≤ sizeLine; simpa using hz)
  have hit1 : (s.heap.push { cls := .type "tuple", data := .seq (chosen xs ix).toArray }).get? it = some (cObj (.ref p) st last ix) := Heap.get?_push_of_some _ hit
  refine wpAny_bind (wpAny_field hit1 rfl (x := last) rfl ?_)
  refine wpAny_bind (wpAny_setField hit1 rfl (by simp) ?_)
  refine wpAny_bind (wpAny_letGo ?_)
  have g := Heap.get?_update_self (Obj.mapFields (·.setIfInBounds 2 (.ref s.heap.objs.size))) hit1 rfl
  refine wpAny_pure (h _ ?_ ?_ fun b o hb e => ?_)
  · show _ = some (cObj (.ref p) st (.ref s.heap.objs.size) ix)
    rw [g]
    rfl
  · rw [Heap.get?_update_ne _ _ _ _ (Nat.ne_of_gt lt)]
    exact Heap.get?_push_size _ rfl
  · rw [Heap.get?_update_ne _ _ _ _ hb]
    exact Heap.get?_push_of_some _ e
end
end Sg.Comb
end
section
set_option maxRecDepth 100000
set_option maxHeartbeats 4000000
/-! combinations(xs, r): next. -/
namespace Sg.Comb
open PySem PySem.Spec PyProof.Rows L2 Evl Sg
open PySem.Builtin.Itertools
section
variable {P : Program} {w : World} {A : Around} {E : Value → Shared → Prop} {s : Shared}
theorem int_at {it : Addr} {pool last : Value} {st : Int} {ix : List Nat} {Q : Int → Shared → Prop} (hit : IsComb s.heap it pool st last ix) (h : Q st s) : wpAny (model P w) A (itIntField (.ref it) 1) Q E s := by
  unfold itIntField
  exact wpAny_bind (wpAny_field hit rfl (x := .int st 0) rfl (wpAny_pure h))
theorem set_state {it : Addr} {pool last : Value} {st : Int} {ix : List Nat} (n : Int) {Q : Unit → Shared → Prop} (hit : IsComb s.heap it pool st last ix) (h : ∀ h', IsComb h' it pool n last ix → Heap.SameBut it s.heap h' → Q () { s with heap := h' }) :
    wpAny (model P w) A (setField (.ref it) 1 (rawInt n)) Q E s := by
  refine wpAny_setField hit rfl (by simp) (h _ ?_ (Heap.SameBut.update ..))
  have g := Heap.get?_update_self (Obj.mapFields (·.setIfInBounds 1 (rawInt n))) hit rfl
  show _ = some (cObj pool n last ix)
  rw [g]
  rfl
theorem set_numbers {it : Addr} {pool last : Value} {st : Int} {ix nx : List Nat} {Q : Unit → Shared → Prop} (hit : IsComb s.heap it pool st last ix) (hz : nx.length ≤ sizeLine) (h : ∀ h', IsComb h' it pool st last nx → Heap.SameBut it s.heap h' → Q () { s with heap := h' }) :
    wpAny (model P w) A (itSetNumbersFrom (.ref it) 3 nx) Q E s := by
  unfold itSetNumbersFrom
  refine wpAny_updateFields hit rfl (h _ ?_ (Heap.SameBut.update ..)) (by simp; omega)
  have g := Heap.get?_update_self (Obj.mapFields fun fs => fs.extract 0 3 ++ (nx.map fun (n : Nat) => rawInt (n : Int)).toArray) hit rfl
  show _ = some (cObj pool st last nx)
  rw [g]
  simp [Obj.mapFields]
theorem pool_at {p : Addr} {xs : Array Value} {n : Nat} {Q : Array Value → Shared → Prop} (hp : s.heap.get? p = some { cls := .type "tuple", data := .seq xs n }) (h : Q xs s) : wpAny (model P w) A (itPoolItems (.ref p)) Q E s := by
  unfold itPoolItems
  exact wpAny_bind (wpAny_seqItems hp rfl (wpAny_pure h))
abbrev Pool (h : Heap) (p : Addr) (xs : Array Value) : Prop := h.get? p = some { cls := .type "tuple", data := .seq xs 0 }
theorem next_first {it p : Addr} {xs : Array Value} {last : Value} {ix : List Nat} {Q : Option Value → Shared → Prop} (hit : IsComb s.heap it (.ref p) 0 last ix) (hp : Pool s.heap p xs) (hne : p ≠ it) (hz : ix.length ≤ sizeLine)
    (h : ∀ h', IsComb h' it (.ref p) 1 (.ref s.heap.objs.size) ix → h'.get? s.heap.objs.size = some { cls := .type "tuple", data := .seq (chosen xs ix).toArray } → (∀ b o, b ≠ it → s.heap.get? b = some o → h'.get? b = some o) → Q (some (.ref s.heap.objs.size)) { s with heap := h' }) :
    wpAny (model P w) A (pyNext (.ref it)) Q E s := by
  have ty : s.TypeIs (.ref it) T := ⟨_, hit, rfl⟩
  unfold pyNext
  refine wpAny_bind (wpAny_attempt (wpAny_callSpecial?_slot (name := Str.ofString "__next__") ty slot_next (wpAny_call_entry slot_next ty entry_next ?_ (args_next _))))
  rw [next_eq]
  refine wpAny_bind (m := slotArgs "__next__" 0 _) (wpAny_pure ?_)
  show wpAny _ _ (field (.ref it) 0 >>= _) _ _ s
  refine wpAny_bind (wpAny_field hit rfl (x := .ref p) rfl ?_)
  refine wpAny_bind (numbers_at hit ?_)
  refine wpAny_bind (int_at hit ?_)
  show wpAny _ _ (setField (.ref it) 1 (rawInt 1) >>= _) _ _ s
  refine wpAny_bind (set_state 1 hit fun h1 hit1 sb => ?_)
  have sz : h1.objs.size = s.heap.objs.size := sb.1
  refine give_at (s := { s with heap := h1 }) hit1 ((sb.2 p hne).trans hp) hz fun h2 hit2 g2 k2 => ⟨_, rfl, wpAny_pure ?_⟩
  have hit2 : IsComb h2 it (.ref p) 1 (.ref h1.objs.size) ix := hit2
  have g2 : h2.get? h1.objs.size = some { cls := .type "tuple", data := .seq (chosen xs ix).toArray } := g2
  show Q (some (.ref h1.objs.size)) { s with heap := h2 }
  rw [sz] at hit2 g2 ⊢
  exact h h2 hit2 g2 fun b o hb e => k2 b o hb ((sb.2 b hb).trans e)
theorem next_more {it p : Addr} {xs : Array Value} {last : Value} {ix nx : List Nat} {Q : Option Value → Shared → Prop} (hit : IsComb s.heap it (.ref p) 1 last ix) (hp : Pool s.heap p xs) (hne : p ≠ it) (hn : nextC xs.size ix = some nx) (hz : nx.length ≤ sizeLine)
    (h : ∀ h', IsComb h' it (.ref p) 1 (.ref s.heap.objs.size) nx → h'.get? s.heap.objs.size = some { cls := .type "tuple", data := .seq (chosen xs nx).toArray } → (∀ b o, b ≠ it → s.heap.get? b = some o → h'.get? b = some o) → Q (some (.ref s.heap.objs.size)) { s with heap := h' }) :
    wpAny (model P w) A (pyNext (.ref it)) Q E s := by
  have ty : s.TypeIs (.ref it) T := ⟨_, hit, rfl⟩
  unfold pyNext
  refine wpAny_bind (wpAny_attempt (wpAny_callSpecial?_slot (name := Str.ofString "__next__") ty slot_next (wpAny_call_entry slot_next ty entry_next ?_ (args_next _))))
  rw [next_eq]
  refine wpAny_bind (m := slotArgs "__next__" 0 _) (wpAny_pure ?_)
  show wpAny _ _ (field (.ref it) 0 >>= _) _ _ s
  refine wpAny_bind (wpAny_field hit rfl (x := .ref p) rfl ?_)
  refine wpAny_bind (numbers_at hit ?_)
  refine wpAny_bind (int_at hit ?_)
  show wpAny _ _ (itPoolItems (.ref p) >>= _) _ _ s
  refine wpAny_bind (pool_at hp ?_)
  rw [hn]
  dsimp only
  refine wpAny_bind (set_numbers hit hz fun h1 hit1 sb => ?_)
  have sz : h1.objs.size = s.heap.objs.size := sb.1
  refine give_at (s := { s with heap := h1 }) hit1 ((sb.2 p hne).trans hp) hz fun h2 hit2 g2 k2 => ⟨_, rfl, wpAny_pure ?_⟩
  have hit2 : IsComb h2 it (.ref p) 1 (.ref h1.objs.size) nx := hit2
  have g2 : h2.get? h1.objs.size = some { cls := .type "tuple", data := .seq (chosen xs nx).toArray } := g2
  show Q (some (.ref h1.objs.size)) { s with heap := h2 }
  rw [sz] at hit2 g2 ⊢
  exact h h2 hit2 g2 fun b o hb e => k2 b o hb ((sb.2 b hb).trans e)
/-- the end of the choices: behind the last one, or where there is none at all -/
theorem next_end {it p : Addr} {xs : Array Value} {last : Value} {st : Int} {ix : List Nat} {Q : Option Value → Shared → Prop} (hh : A.handled = none) (hit : IsComb s.heap it (.ref p) st last ix) (hp : Pool s.heap p xs) (hs : (st = 1 ∧ nextC xs.size ix = none) ∨ st = 2)
    (hQ : ∀ h', Heap.ExtBut it s.heap h' → Q none { s with heap := h' }) : wpAny (model P w) A (pyNext (.ref it)) Q E s := by
  have ty : s.TypeIs (.ref it) T := ⟨_, hit, rfl⟩
  unfold pyNext
  refine wpAny_bind (wpAny_attempt (wpAny_callSpecial?_slot (name := Str.ofString "__next__") ty slot_next (wpAny_call_entry slot_next ty entry_next ?_ (args_next _))))
  rw [next_eq]
  refine wpAny_bind (m := slotArgs "__next__" 0 _) (wpAny_pure ?_)
  show wpAny _ _ (field (.ref it) 0 >>= _) _ _ s
  refine wpAny_bind (wpAny_field hit rfl (x := .ref p) rfl ?_)
  refine wpAny_bind (numbers_at hit ?_)
  refine wpAny_bind (int_at hit ?_)
  rcases hs with ⟨rfl, hn⟩ | rfl
  · show wpAny _ _ (itPoolItems (.ref p) >>= _) _ _ s
    refine wpAny_bind (pool_at hp ?_)
    rw [hn]
    dsimp only
    refine wpAny_bind (set_state 2 hit fun h1 hit1 sb => ?_)
    exact wpAny_mono (stop_at (P := P) (w := w) (s := s) (h0 := h1) (it := it) (Q := Q) (E := E) hh (fun b ob hb e => (sb.2 b hb).trans e) hQ) (fun _ _ z => z.elim) fun e s' z => z
  · show wpAny _ _ (rule "itertools.combinations.ended" >>= fun _ => itStop) _ _ s
    refine wpAny_bind (wpAny_rule ?_)
    exact wpAny_mono (stop_at (P := P) (w := w) (s := s) (h0 := s.heap) (it := it) (Q := Q) (E := E) hh (fun b ob hb e => e) hQ) (fun _ _ z => z.elim) fun e s' z => z
end
end Sg.Comb
end
section
set_option maxRecDepth 100000
set_option maxHeartbeats 4000000
/-! for some in combinations(xs, r): as a walk of the layer. -/
namespace Sg.Comb
open PySem PySem.Spec PyProof.Rows L2 Evl Sg
open PySem.Builtin.Itertools
/-- the choices by places, as they come -/
structure CSeq (n r : Nat) (cs : List (List Nat)) : Prop where
  none_ : r > n → cs = []
  first : r ≤ n → cs[0]? = some (List.range r)
  next : ∀ i ix, cs[i]? = some ix → nextC n ix = cs[i + 1]?
  len : ∀ ix ∈ cs, ix.length = r
/-- the values at these places -/
abbrev pickV (ys : List V) (ix : List Nat) : List V := ix.map fun i => ys.getD i .non
theorem pick_vals {ys : List V} {xs : Array Value} (rv : Vals ys xs.toList) : ∀ ix : List Nat, Vals (pickV ys ix) (chosen xs ix)
  | [] => .nil
  | i :: ix => by
    refine .cons ?_ (pick_vals rv ix)
    cases e : ys[i]? with
    | some y =>
      obtain ⟨u, hu, ru⟩ := rv.get e
      have hu' : xs[i]? = some u := by rw [← Array.getElem?_toList]; exact hu
      show L2.RelV (ys.getD i .non) (xs.getD i .none)
      rw [List.getD_eq_getElem?_getD, e, Array.getD_eq_getD_getElem?, hu']
      exact ru
    | none =>
      have hu := rv.none_of e
      have hu' : xs[i]? = none := by rw [← Array.getElem?_toList]; exact hu
      show L2.RelV (ys.getD i .non) (xs.getD i .none)
      rw [List.getD_eq_getElem?_getD, e, Array.getD_eq_getD_getElem?, hu']
      exact rfl
/-- new tuples of the chosen -/
def ItC (ys : List V) (cs : List (List Nat)) : It where
  go := fun i _ => i < cs.length
  yld := fun i H v H' => ∃ b ix, cs[i]? = some ix ∧ v = .ref b ∧ H b = none ∧ H' = upd H b (.tup (pickV ys ix))
  stop := fun i _ => i = cs.length
/-- what stands behind i turns -/
def tnC (it p : Addr) (n r : Nat) (xs : Array Value) (cs : List (List Nat)) (i : Nat) (h : Heap) : Prop := ∃ last st ix, IsComb h it (.ref p) st last ix ∧ Pool h p xs ∧
  ((i = 0 ∧ st = (if r > n then 2 else 0) ∧ ix = List.range r) ∨ (i ≠ 0 ∧ st = 1 ∧ cs[i - 1]? = some ix))
theorem turn_comb {P : Program} {w : World} {K : PySem.W.Frag} {tg : Expr} {it p : Addr} {n r : Nat} {xs : Array Value} {ys : List V} {cs : List (List Nat)} (hne : p ≠ it) (rv : Vals ys xs.toList) (hn : xs.size = n) (hr : r ≤ 1000) (C : CSeq n r cs) : Turn P w K tg (ItC ys cs) [it, p] it (tnC it p n r xs cs) where
  mem := List.mem_cons_self
  obj := fun i h ⟨last, st, ix, h1, h2, _⟩ b hb => by
    rcases List.mem_cons.mp hb with z | z
    · rw [z]
      exact ⟨_, h1, fun v q => nomatch q⟩
    · rw [List.mem_singleton.mp z]
      exact ⟨_, h2, fun v q => nomatch q⟩
  keep := fun i h h' ⟨last, st, ix, h1, h2, h3⟩ k => ⟨last, st, ix, k it (by simp) _ h1, k p (by simp) _ h2, h3⟩
  item := by
    intro X hP hw hK hc i pins s σ H E I hf st hg
    subst hP hw hK
    obtain ⟨last, q, ix, h1, h2, h3⟩ := st
    have hlt : i < cs.length := hg
    obtain ⟨jx, hj⟩ : ∃ jx, cs[i]? = some jx := ⟨_, List.getElem?_eq_getElem hlt⟩
    have hz : jx.length ≤ sizeLine := by
      rw [C.len jx (List.mem_of_getElem? hj), sizeLine_eq]
      omega
    have lit : it < s.heap.objs.size := Heap.lt_size h1
    have lp : p < s.heap.objs.size := Heap.lt_size h2
    -- whichever turn it is
    have fin : ∀ h', IsComb h' it (.ref p) 1 (.ref s.heap.objs.size) jx → h'.get? s.heap.objs.size = some { cls := .type "tuple", data := .seq (chosen xs jx).toArray } → (∀ b o, b ≠ it → s.heap.get? b = some o → h'.get? b = some o) →
        ∃ u, (some (Value.ref s.heap.objs.size)) = some u ∧ wpAny (model X.prog X.w) X.A (letOwnedTupleGo tg (.ref it) u) (fun _ s2 => ∃ x H', Inv X pins σ H' s2 ∧ RelV x u ∧ (ItC ys cs).yld i H x H' ∧ tnC it p n r xs cs (i + 1) s2.heap ∧ ∀ b ∈ [it, p], H' b = none) E { s with heap := h' } := fun h' c1 c2 c3 => by
      refine ⟨_, rfl, go_of (s := { s with heap := h' }) c1 rfl rfl (by decide) ?_⟩
      have hlen : (pickV ys jx).length ≤ sizeLine := by rw [List.length_map]; exact hz
      have new : ObjOk X.prog X.w (upd H s.heap.objs.size (.tup (pickV ys jx))) h' s.heap.objs.size (.tup (pickV ys jx)) := ⟨hlen, chosen xs jx, pick_vals rv jx, ⟨_, c2, rfl, _, rfl⟩⟩
      have I1 : Inv X pins σ (upd H s.heap.objs.size (.tup (pickV ys jx))) { s with heap := h', toks := s.toks } := I.turnedNew (ch := [it, p]) (fun b o hb e => c3 b o (fun z => hb (by simp [z])) e) hf (Nat.le_refl _) new
      refine ⟨.ref s.heap.objs.size, _, I1, rfl, ⟨_, jx, hj, rfl, I.hok.fresh (Nat.le_refl _), rfl⟩, ⟨_, 1, jx, c1, c3 p _ hne h2, .inr ⟨Nat.succ_ne_zero i, rfl, hj⟩⟩, fun b hb => ?_⟩
      have lb : b < s.heap.objs.size := by
        rcases List.mem_cons.mp hb with z | z
        · rw [z]; exact lit
        · rw [List.mem_singleton.mp z]; exact lp
      rw [upd_ne (Nat.ne_of_lt lb)]
      exact (hf b hb).1
    rcases h3 with ⟨rfl, rfl, rfl⟩ | ⟨i0, rfl, hi⟩
    · have le : ¬ r > n := fun z => by
        rw [C.none_ z] at hlt
        exact absurd hlt (Nat.not_lt_zero _)
      have e : jx = List.range r := by
        rw [C.first (Nat.le_of_not_lt le)] at hj
        exact (Option.some.inj hj).symm
      rw [if_neg le] at h1
      subst e
      exact next_first h1 h2 hne hz fin
    · have e : nextC xs.size ix = some jx := by
        rw [hn, C.next _ _ hi, ← hj]
        congr 1
        omega
      exact next_more h1 h2 hne e hz fin
  done := by
    intro X hP hw hK hc i pins s σ H E I hf st hg
    subst hP hw hK
    obtain ⟨last, q, ix, h1, h2, h3⟩ := st
    have hl : i = cs.length := hg
    obtain ⟨f0, f1, f2, f3, f4, f5⟩ := hf it (by simp)
    refine next_end (I.ok.hd hc) h1 h2 ?_ fun h' eb => ⟨rfl, I.turned (t' := s.toks) (fun b o hb e => eb b o hb e) f0 f1 f3 f4 f5⟩
    rcases h3 with ⟨rfl, rfl, rfl⟩ | ⟨i0, rfl, hi⟩
    · refine .inr (if_pos ?_)
      refine Nat.lt_of_not_le fun le => ?_
      have z := (List.getElem?_eq_some_iff.mp (C.first le)).1
      omega
    · refine .inl ⟨rfl, ?_⟩
      rw [hn, C.next _ _ hi]
      exact List.getElem?_eq_none (by omega)
  self := fun A i s Q E ⟨last, st, ix, h1, _⟩ h => iter_comb h1 h
/-- for some in combinations(xs, r), xs a list -/
def iComb (K : PySem.W.Frag) (ta : TA) : TI := fun σ H R => ta σ H fun vs H1 => ∃ (a : Addr) (ys : List V) (r : Nat) (cs : List (List Nat)), vs = [.ref a, .int (r : Int)] ∧ SqL K H1 a ys ∧ r ≤ 1000 ∧ CSeq ys.length r cs ∧ R (ItC ys cs) H1
theorem pi_comb {X : Cx} {K : PySem.W.Frag} {x : PySem.Str} {tg e : Expr} {es : List Expr} {ta : TA} {p pos : Pos} (hg : Gl X x) (hm : X.mg x = some (.type T)) (ha : PA X (e :: es) ta) (hK : X.K = K := by rfl) (hdb : (x == ("__debug__" : PySem.Str)) = false := by decide)
    (he : starEach (e :: es) X.env = (false, eval e X.env) :: starEach es X.env := by rfl) (hpl : (backTo pos (starEach es X.env)).any (·.1) = false := by rfl) : PI X tg (.Call (.Name x p) (e :: es) [] pos) (iComb K ta) := by
  subst hK
  refine ⟨fun pins s σ H R I h => ?_⟩
  refine wpAny_Call_Name_kw (ld_glob I hg hm ?_ hdb)
  refine PyProof.Rows.callWith_type1 (thn (ha.run pos pins s σ H _ I h) fun us s1 ⟨vs, H1, I1, r1, q1⟩ => ?_) he hpl
  obtain ⟨a, ys, r, cs, rfl, hq, hr, C, q⟩ := q1
  cases r1 with
  | cons ra rr =>
    cases rr with
    | cons rb rn =>
      cases rn
      cases ra
      obtain ⟨t, rfl⟩ := rb
      obtain ⟨its, rv, pl, hz⟩ := I1.list hq
      have sz : its.toArray.size = ys.length := by rw [List.size_toArray, ← rv.length]
      refine call_comb (xs := its.toArray) pl.isList (by rw [sz]; exact hz) hr fun h' c1 c2 ex => iter_comb c1 ?_
      have I2 : Inv X pins σ H1 { s1 with heap := h' } := I1.kept (t' := s1.toks) ex
      have ne : s1.heap.objs.size + 1 ≠ s1.heap.objs.size + 2 := Nat.ne_of_lt (Nat.lt_succ_self _)
      refine ⟨_, [s1.heap.objs.size + 2, s1.heap.objs.size + 1], _, _, H1, rfl, I2, turn_comb (n := ys.length) (r := r) (xs := its.toArray) ne (by simpa using rv) sz hr C, ⟨.none, _, _, c1, c2, .inl ⟨rfl, by rw [sz], rfl⟩⟩, fun b hb => ?_, q⟩
      have hle : s1.heap.objs.size ≤ b := by
        rcases List.mem_cons.mp hb with z | z
        · rw [z]; exact Nat.le_add_right _ _
        · rw [List.mem_singleton.mp z]; exact Nat.le_add_right _ _
      exact I1.fpOk hle (I1.hok.fresh hle)
end Sg.Comb
end
section
set_option maxRecDepth 100000
set_option maxHeartbeats 4000000
/-! combinations: which they are; the walk over data. -/
namespace Sg
open PySem PySem.Spec PyProof.Rows L2 Evl
/-- all choices of r of these, in order -/
def choose {α : Type} : List α → Nat → List (List α)
  | [], 0 => [[]]
  | [], _ + 1 => []
  | _ :: _, 0 => [[]]
  | x :: l, r + 1 => (choose l r).map (x :: ·) ++ choose l (r + 1)
theorem choose_zero {α : Type} (l : List α) : choose l 0 = [[]] := by cases l <;> rfl
theorem choose_big {α : Type} : ∀ {l : List α} {r : Nat}, l.length < r → choose l r = []
  | [], 0, h => absurd h (Nat.lt_irrefl _)
  | [], _ + 1, _ => rfl
  | _ :: _, 0, h => absurd h (Nat.not_lt_zero _)
  | x :: l, r + 1, h => by
    have h1 : l.length < r := Nat.lt_of_succ_lt_succ h
    show (choose l r).map (x :: ·) ++ choose l (r + 1) = []
    rw [choose_big h1, choose_big (Nat.lt_succ_of_lt h1)]
    rfl
theorem choose_first {α : Type} : ∀ {l : List α} {r : Nat}, r ≤ l.length → (choose l r)[0]? = some (l.take r)
  | [], 0, _ => rfl
  | [], _ + 1, h => absurd h (Nat.not_succ_le_zero _)
  | _ :: _, 0, _ => rfl
  | x :: l, r + 1, h => by
    have h1 : r ≤ l.length := Nat.le_of_succ_le_succ h
    have e := choose_first h1
    show ((choose l r).map (x :: ·) ++ choose l (r + 1))[0]? = some (x :: l.take r)
    have lt : 0 < ((choose l r).map (x :: ·)).length := by
      rw [List.length_map]
      exact (List.getElem?_eq_some_iff.mp e).1
    rw [List.getElem?_append_left lt, List.getElem?_map, e]
    rfl
theorem choose_len {α : Type} : ∀ {l : List α} {r : Nat} {c : List α}, c ∈ choose l r → c.length = r
  | [], 0, c, h => by
    rw [List.mem_singleton.mp h]
    rfl
  | [], _ + 1, c, h => nomatch h
  | _ :: _, 0, c, h => by
    rw [List.mem_singleton.mp h]
    rfl
  | x :: l, r + 1, c, h => by
    rcases List.mem_append.mp (show c ∈ (choose l r).map (x :: ·) ++ choose l (r + 1) from h) with h | h
    · obtain ⟨d, hd, rfl⟩ := List.mem_map.mp h
      rw [List.length_cons, choose_len hd]
    · exact choose_len h
theorem choose_map {α β : Type} (f : α → β) : ∀ (l : List α) (r : Nat), choose (l.map f) r = (choose l r).map (List.map f)
  | [], 0 => rfl
  | [], _ + 1 => rfl
  | _ :: _, 0 => rfl
  | x :: l, r + 1 => by
    show (choose (l.map f) r).map (f x :: ·) ++ choose (l.map f) (r + 1) = ((choose l r).map (x :: ·) ++ choose l (r + 1)).map (List.map f)
    rw [choose_map f l r, choose_map f l (r + 1), List.map_append, List.map_map, List.map_map]
    rfl
namespace Comb
theorem find_range (k : Nat) (p : Nat → Bool) : (List.range (k + 1)).reverse.find? p = (((List.range k).reverse.find? fun i => p (i + 1)).map (· + 1)).or (if p 0 = true then some 0 else none) := by
  rw [List.range_succ_eq_map, List.reverse_cons, List.find?_append, ← List.map_reverse, List.find?_map]
  congr 1
  simp [List.find?_cons]
  cases p 0 <;> rfl
theorem nextC_cons (n x : Nat) (l : List Nat) : nextC n (x :: l) = match nextC n l with
    | some l' => some (x :: l')
    | none => if x = n - (l.length + 1) then none else some ((List.range (l.length + 1)).map (x + 1 + ·)) := by
  unfold nextC
  rw [List.length_cons, find_range]
  have e : (fun i => (x :: l).getD (i + 1) 0 != i + 1 + n - (l.length + 1)) = fun i => l.getD i 0 != i + n - l.length := funext fun i => by
    rw [show i + 1 + n - (l.length + 1) = i + n - l.length by omega]
    rfl
  rw [e]
  cases h : (List.range l.length).reverse.find? fun i => l.getD i 0 != i + n - l.length with
  | some i =>
    simp only [Option.map_some, Option.some_or, List.take_succ_cons]
    rw [show l.length + 1 - (i + 1) = l.length - i by omega]
    rfl
  | none =>
    simp only [Option.map_none, Option.none_or]
    by_cases hx : x = n - (l.length + 1)
    · have z : ((x :: l).getD 0 0 != 0 + n - (l.length + 1)) = false := by
        show (x != 0 + n - (l.length + 1)) = false
        rw [Nat.zero_add, hx]
        simp
      rw [z, if_pos hx]
      rfl
    · have z : ((x :: l).getD 0 0 != 0 + n - (l.length + 1)) = true := by
        show (x != 0 + n - (l.length + 1)) = true
        rw [Nat.zero_add]
        simpa using hx
      rw [z, if_neg hx]
      rfl
theorem chain : ∀ (m a r : Nat) (i : Nat) (ix : List Nat), (choose (List.range' a m) r)[i]? = some ix → nextC (a + m) ix = (choose (List.range' a m) r)[i + 1]?
  | m, a, 0, i, ix, h => by
    rw [choose_zero] at h ⊢
    match i, h with
    | 0, h =>
      obtain rfl : [] = ix := Option.some.inj h
      rfl
  | 0, a, r + 1, i, ix, h => by
    rw [List.range'_zero] at h
    exact absurd h (by simp [choose])
  | m + 1, a, r + 1, i, ix, h => by
    have e0 : choose (List.range' a (m + 1)) (r + 1) = (choose (List.range' (a + 1) m) r).map (a :: ·) ++ choose (List.range' (a + 1) m) (r + 1) := by
      rw [List.range'_succ]
      rfl
    have en : a + 1 + m = a + (m + 1) := by omega
    rw [e0] at h ⊢
    have lm : ((choose (List.range' (a + 1) m) r).map (a :: ·)).length = (choose (List.range' (a + 1) m) r).length := List.length_map ..
    by_cases hi : i < (choose (List.range' (a + 1) m) r).length
    · rw [List.getElem?_append_left (by rw [lm]; exact hi), List.getElem?_map] at h
      obtain ⟨l, hl, rfl⟩ := Option.map_eq_some_iff.mp h
      have ih := chain m (a + 1) r i l hl
      rw [en] at ih
      have ll : l.length = r := choose_len (List.mem_of_getElem? hl)
      rw [nextC_cons, ih]
      by_cases hi1 : i + 1 < (choose (List.range' (a + 1) m) r).length
      · rw [List.getElem?_append_left (by rw [lm]; exact hi1), List.getElem?_map, List.getElem?_eq_getElem hi1]
        rfl
      · rw [List.getElem?_eq_none (Nat.le_of_not_lt hi1), List.getElem?_append_right (by rw [lm]; exact Nat.le_of_not_lt hi1), lm, show i + 1 - (choose (List.range' (a + 1) m) r).length = 0 by omega]
        -- how many there are
        have le : r ≤ m := Nat.le_of_not_lt fun z => by
          rw [choose_big (by rw [List.length_range']; exact z)] at hi
          exact absurd hi (Nat.not_lt_zero _)
        dsimp only
        by_cases hm : r = m
        · rw [if_pos (by omega), choose_big (by rw [List.length_range']; omega)]
          rfl
        · have lt : r + 1 ≤ m := by omega
          rw [if_neg (by omega), choose_first (by rw [List.length_range']; exact lt), ll]
          congr 1
          rw [List.range'_eq_map_range, ← List.map_take, List.take_range, Nat.min_eq_left lt]
    · rw [List.getElem?_append_right (by rw [lm]; exact Nat.le_of_not_lt hi), lm] at h
      have ih := chain m (a + 1) (r + 1) _ ix h
      rw [en] at ih
      rw [ih, List.getElem?_append_right (by rw [lm]; omega), lm]
      congr 1
      omega
theorem cseq (n r : Nat) : CSeq n r (choose (List.range n) r) where
  none_ := fun h => choose_big (by rw [List.length_range]; exact h)
  first := fun h => by
    rw [choose_first (by rw [List.length_range]; exact h), List.take_range, Nat.min_eq_left h]
  next := fun i ix h => by
    have z := chain n 0 r i ix
    rw [← List.range_eq_range', Nat.zero_add] at z
    exact z h
  len := fun ix h => choose_len h
end Comb
theorem pick_all {α : Type} (l : List α) (d : α) : (List.range l.length).map (fun i => l.getD i d) = l := by
  apply List.ext_getElem
  · rw [List.length_map, List.length_range]
  · intro i h1 h2
    rw [List.getElem_map, List.getElem_range, List.getD_eq_getElem?_getD, List.getElem?_eq_getElem h2]
    rfl
theorem choose_pick {α : Type} (l : List α) (d : α) (r : Nat) : choose l r = (choose (List.range l.length) r).map (List.map fun i => l.getD i d) := by
  rw [← choose_map, pick_all]
theorem da_pick {K : PySem.W.Frag} {N : Hp} {ys : List V} {ds : List PyData} (h : DaAll K N ys ds) : ∀ ix : List Nat, DaAll K N (Comb.pickV ys ix) (ix.map fun i => ds.getD i .none)
  | [] => .nil
  | i :: ix => by
    refine .cons ?_ (da_pick h ix)
    show Da K N (ys.getD i .non) (ds.getD i .none)
    by_cases hi : i < ys.length
    · obtain ⟨d, e1, e2⟩ := h.get (List.getElem?_eq_getElem hi)
      rw [List.getD_eq_getElem?_getD, List.getElem?_eq_getElem hi, List.getD_eq_getElem?_getD, e1]
      exact e2
    · rw [List.getD_eq_getElem?_getD, List.getElem?_eq_none (Nat.le_of_not_lt hi), List.getD_eq_getElem?_getD, List.getElem?_eq_none (by rw [← h.len]; exact Nat.le_of_not_lt hi)]
      exact .non
/-- .. over data -/
theorem wd_comb {K : PySem.W.Frag} {σ : L2.St} {H : Hp} {te tr : TE} {ds : List PyData} {r : Nat} (h : EvD K te σ H (.list ds)) (g : ∀ N, Ex H N → EvD K tr σ N (.int (r : Int))) (hr : r ≤ 1000) :
    WiD (Comb.iComb K (tCons te (tCons tr tNil))) σ H (choose ds r).length (fun N i x => ∃ c, (choose ds r)[i]? = some c ∧ Da K N x (.tuple c)) := fun H1 a R k =>
  h H1 a _ fun v N H2 b hv => g N b.bas H2 b.sub _ fun u N' H3 c hu => by
    cases hv with
    | @lst p xs _ h1 h2 =>
      cases hu
      have len := h2.len
      have ec : choose ds r = (choose (List.range xs.length) r).map (List.map fun i => ds.getD i .none) := by rw [len]; exact choose_pick ds .none r
      have ecl : (choose ds r).length = (choose (List.range xs.length) r).length := by rw [ec, List.length_map]
      refine ⟨p, xs, r, choose (List.range xs.length) r, rfl, sq_of ((b.sub.trans c.act) _ _ h1), hr, Comb.cseq _ _, k _ N' H3 (b.trans c) ⟨fun H4 d i hi => ?_, fun B H4 i x H5 d d2 hi y => ?_, fun H4 d => ecl⟩⟩
      · show i < (choose (List.range xs.length) r).length
        rw [← ecl]
        exact hi
      · obtain ⟨q, ix, e1, rfl, nq, rfl⟩ := y
        have nB : B q = none := fresh_back d2 nq
        refine ⟨upd B q (.tup (Comb.pickV xs ix)), .alloc d2 nq, ix.map fun i => ds.getD i .none, ?_, .tup (st_of upd_same) (da_pick (h2.ex (c.bas.trans (d.trans (Ex.new nB)))) ix)⟩
        rw [ec, List.getElem?_map, e1]
        rfl
end Sg
end
section
set_option maxRecDepth 100000
set_option maxHeartbeats 4000000
/-! Set comprehensions by data. -/
namespace Sg
open PySem PySem.Spec PyProof.Rows L2 Evl
/-! ### put in one by one -/
section
variable {κ : Type} [DecidableEq κ]
def adds (ks xs : List κ) : List κ := xs.foldl putS ks
theorem mem_putS {ks : List κ} {k x : κ} : x ∈ putS ks k ↔ x ∈ ks ∨ x = k := by
  unfold putS
  by_cases h : k ∈ ks
  · rw [if_pos h]
    exact ⟨.inl, fun z => z.elim id fun e => e ▸ h⟩
  · rw [if_neg h, List.mem_append, List.mem_singleton]
theorem nd_putS {ks : List κ} {k : κ} (h : ks.Nodup) : (putS ks k).Nodup := by
  unfold putS
  by_cases c : k ∈ ks
  · rw [if_pos c]; exact h
  · rw [if_neg c]
    exact (List.perm_append_singleton k ks).symm.nodup_iff.mp (List.nodup_cons.mpr ⟨c, h⟩)
theorem len_putS (ks : List κ) (k : κ) : (putS ks k).length ≤ ks.length + 1 := by
  unfold putS
  split
  · omega
  · simp
theorem mem_adds : ∀ {xs ks : List κ} {x : κ}, x ∈ adds ks xs ↔ x ∈ ks ∨ x ∈ xs
  | [], ks, x => by simp [adds]
  | y :: xs, ks, x => by
    show x ∈ adds (putS ks y) xs ↔ _
    rw [mem_adds, mem_putS, List.mem_cons, or_assoc]
theorem nd_adds : ∀ {xs ks : List κ}, ks.Nodup → (adds ks xs).Nodup
  | [], _, h => h
  | _ :: xs, _, h => nd_adds (xs := xs) (nd_putS h)
theorem len_adds : ∀ (xs ks : List κ), (adds ks xs).length ≤ ks.length + xs.length
  | [], _ => Nat.le_refl _
  | y :: xs, ks => by
    have h1 := len_adds xs (putS ks y)
    have h2 := len_putS ks y
    show (adds (putS ks y) xs).length ≤ _
    rw [List.length_cons]
    omega
theorem adds_snoc (ks xs : List κ) (x : κ) : adds ks (xs ++ [x]) = putS (adds ks xs) x := by
  unfold adds
  rw [List.foldl_append]
  rfl
theorem adds_app (ks xs ys : List κ) : adds ks (xs ++ ys) = adds (adds ks xs) ys := by
  unfold adds
  rw [List.foldl_append]
theorem adds_nub (xs : List κ) : (adds [] xs).Perm (nub xs) := (List.perm_ext_iff_of_nodup (nd_adds .nil) (nub_nodup _)).mpr fun x => by
  rw [mem_adds, mem_nub]
  simp
end
/-- a new set of keys -/
def EvS (P : Program) (w : World) (te : TE) (σ : L2.St) (H : Hp) (ks : List Key) : Prop := ∀ H1, Ex H H1 → ∀ Q : VK, (∀ p N H2, Gr H H1 N H2 → N p = some (SetKO P w p ks) → Q (.ref p) H2) → te σ H1 Q
section
variable {K : PySem.W.Frag} {P : Program} {w : World} {σ : L2.St} {H : Hp} {t : TT} {te : TE}
theorem ed_sortS {ks : List Key} (h : EvS P w te σ H ks) (al : PySem.W.AllAlike (ks.map kD)) : EvD K (tCB (rSortK P w) (tCons te tNil)) σ H (.list ((sortK ks).map kD)) := fun H1 a Q q =>
  h H1 a _ fun p N H2 b hp => ⟨p, ks, rfl, b.sub _ _ hp, al, fun p3 hp3 => q _ _ _ (b.trans (.alloc b.sub hp3)) (.lst upd_same (da_keys _))⟩
theorem sortK_adds {xs : List Key} (al : PySem.W.AllAlike (xs.map kD)) : sortK (adds [] xs) = sortK (nub xs) := sort_one (fun a b => key_eqv) (adds_nub xs) (alike_sub al fun e he => by
  obtain ⟨k, hk, rfl⟩ := List.mem_map.mp he
  exact List.mem_map.mpr ⟨k, (mem_adds.mp hk).resolve_left (by simp), rfl⟩)
/-- what the comprehension keeps: B known, the set (not known) at D -/
def Hold (P : Program) (w : World) (N1 H1 : Hp) (D : Addr) (ks : List Key) (H' : Hp) : Prop := ∃ B, Gr N1 H1 B H' ∧ B D = none ∧ H' D = some (SetKO P w D ks)
/-- the set of D is changed alone -/
theorem Gr.put {N1 H1 B H' : Hp} {D : Addr} {o : HO} (g : Gr N1 H1 B H') (hD : H1 D = none) (nD : B D = none) : Gr N1 H1 B (upd H' D o) := ⟨fun b u hb => by
    rw [upd_ne (ne_of_none hb hD)]
    exact g.act b u hb, g.bas, fun b u hb => by
    rw [upd_ne (ne_of_none hb nD)]
    exact g.sub b u hb, g.new⟩
theorem Gr.seq {N1 H1 B H2 B' H3 : Hp} (g : Gr N1 H1 B H2) (f : Gr B H2 B' H3) : Gr N1 H1 B' H3 := g.trans f
/-- the set becomes known -/
theorem Hold.known {N1 H1 H' : Hp} {D : Addr} {ks : List Key} (h : Hold P w N1 H1 D ks H') (hD : H1 D = none) : ∃ N, Gr N1 H1 N H' ∧ N D = some (SetKO P w D ks) := by
  obtain ⟨B, g, nD, e⟩ := h
  refine ⟨upd B D (SetKO P w D ks), ⟨g.act, g.bas.trans (Ex.new nD), fun b u hb => ?_, fun b h1 h2 => ?_⟩, upd_same⟩
  · by_cases eb : b = D
    · subst eb
      rw [upd_same] at hb
      rw [e]
      exact hb
    · rw [upd_ne eb] at hb
      exact g.sub b u hb
  · have eb : b ≠ D := fun z => h2 (z ▸ hD)
    rw [upd_ne eb]
    exact g.new b h1 h2
/-- behind something that makes new objects alone -/
theorem Hold.on {N1 H1 B H' B2 H2 : Hp} {D : Addr} {ks : List Key} (g : Gr N1 H1 B H') (nD : B D = none) (e : H' D = some (SetKO P w D ks)) (f : Gr B H' B2 H2) : Gr N1 H1 B2 H2 ∧ B2 D = none ∧ H2 D = some (SetKO P w D ks) :=
  ⟨g.trans f, f.new D nD (by rw [e]; simp), f.act _ _ e⟩
theorem ed_sc {β : Type} {wi : TI} {g : TG} {vs : List Nat} {Pw : Hp → Nat → V → Prop} (ys : List β) (pf : β → Bool) (kf : β → Key) (hz : ys.length ≤ 4000) (hwi : WiD wi σ H ys.length Pw)
    (hg : ∀ (i : Nat) (x : V) (y : β) N, Ex H N → ys[i]? = some y → Pw N i x → ∃ σ2 : L2.St, wipe σ2 vs = wipe σ vs ∧ (∀ H2, Ex N H2 → ∀ R : L2.St → Hp → Prop, R σ2 H2 → g x (wipe σ vs) H2 R) ∧ EvT t σ2 N (pf y) ∧ (pf y = true → EvD K te σ2 N (kD (kf y)))) :
    EvS P w (tScK P w wi g t te vs) σ H (adds [] ((ys.filter pf).map kf)) := fun H0 e Q q => hwi H0 e _ fun J N1 H1 G F D hD => by
  have nD : N1 D = none := fresh_back G.sub hD
  refine ⟨fun i m H' => m = ys.length - i ∧ i ≤ ys.length ∧ Hold P w N1 H1 D (adds [] (((ys.take i).filter pf).map kf)) H', ⟨ys.length, by simp, Nat.zero_le _, N1, .old G.sub (Ex.new hD), nD, upd_same⟩, ?_⟩
  rintro i m H' ⟨rfl, hi, hold⟩
  by_cases lt : i < ys.length
  · obtain ⟨B, c1, c2, c3⟩ := hold
    refine .inr ⟨F.go H' (c1.bas.trans c1.sub) i lt, fun H2 => Hold P w N1 H1 D (adds [] (((ys.take (i + 1)).filter pf).map kf)) H2, fun H2 z => ⟨ys.length - (i + 1), by omega, rfl, lt, z⟩, fun x H2 y => ?_⟩
    obtain ⟨B2, f, px⟩ := F.yld B H' i x H2 c1.bas c1.sub lt y
    obtain ⟨d1, d2, d3⟩ := Hold.on c1 c2 c3 f
    have ey : ys[i]? = some ys[i] := List.getElem?_eq_getElem lt
    have tk : ys.take (i + 1) = ys.take i ++ [ys[i]] := by rw [List.take_succ, ey]; rfl
    obtain ⟨σ2, w2, gg, ht, he⟩ := hg i x ys[i] B2 (G.bas.trans d1.bas) ey px
    refine gg _ d1.sub _ (ht H2 d1.sub _ fun H3 e3 => ⟨w2, ?_⟩)
    obtain ⟨d1', d2', d3'⟩ := Hold.on d1 d2 d3 (.old d1.sub e3)
    cases hf : pf ys[i] with
    | false =>
      refine ⟨B2, d1', d2', ?_⟩
      rw [tk, List.filter_append, List.filter_cons_of_neg (by simp [hf]), List.filter_nil, List.append_nil]
      exact d3'
    | true =>
      refine he hf H3 d1'.sub _ fun v N4 H4 g4 hv => ?_
      obtain ⟨f1, f2, f3⟩ := Hold.on d1' d2' d3' g4
      refine ⟨kf ys[i], adds [] (((ys.take i).filter pf).map kf), key_da hv, f3, ?_, N4, f1.put hD f2, f2, ?_⟩
      · have l1 := len_adds (((ys.take i).filter pf).map kf) []
        have l2 := List.length_filter_le pf (ys.take i)
        rw [List.length_map] at l1
        rw [List.length_take] at l2
        simp only [List.length_nil] at l1
        unfold scanBound
        omega
      · rw [upd_same, tk, List.filter_append, List.filter_cons_of_pos hf, List.filter_nil, List.map_append, List.map_cons, List.map_nil, adds_snoc]
  · obtain rfl : i = ys.length := by omega
    rw [List.take_length] at hold
    obtain ⟨B, c1, _, _⟩ := id hold
    obtain ⟨N, gN, hN⟩ := hold.known hD
    exact .inl ⟨F.stop H' (c1.bas.trans c1.sub), q D N H' (G.trans gN) hN⟩
/-- two fors, no tests -/
theorem ed_sc2 {β γ : Type} {wi wi1 : TI} {g g1 : TG} {vs vs1 : List Nat} {Pw : Hp → Nat → V → Prop} {Pw1 : β → Hp → Nat → V → Prop} (ys : List β) (zs : β → List γ) (kf : β → γ → Key) (hz : (ys.flatMap zs).length ≤ 4000) (hwi : WiD wi σ H ys.length Pw)
    (hg : ∀ (i : Nat) (x : V) (y : β) N, Ex H N → ys[i]? = some y → Pw N i x → ∃ σ2 : L2.St, wipe σ2 vs = wipe σ vs ∧ (∀ H2, Ex N H2 → ∀ R : L2.St → Hp → Prop, R σ2 H2 → g x (wipe σ vs) H2 R) ∧ WiD wi1 σ2 N (zs y).length (Pw1 y) ∧
      ∀ (j : Nat) (x1 : V) (z : γ) N', Ex N N' → (zs y)[j]? = some z → Pw1 y N' j x1 → ∃ σ3 : L2.St, wipe σ3 vs1 = wipe σ2 vs1 ∧ (∀ H2, Ex N' H2 → ∀ R : L2.St → Hp → Prop, R σ3 H2 → g1 x1 (wipe σ2 vs1) H2 R) ∧ EvD K te σ3 N' (kD (kf y z))) :
    EvS P w (tScK2 P w wi g tYes wi1 g1 tYes te vs vs1) σ H (adds [] (ys.flatMap fun y => (zs y).map (kf y))) := fun H0 e Q q => hwi H0 e _ fun J N1 H1 G F D hD => by
  have nD : N1 D = none := fresh_back G.sub hD
  have many : ∀ i, ((ys.take i).flatMap fun y => (zs y).map (kf y)).length ≤ ((ys.take i).flatMap zs).length := fun i => by
    simp [List.length_flatMap]
  have less : ∀ i, ((ys.take i).flatMap zs).length ≤ (ys.flatMap zs).length := fun i => by
    conv => rhs; rw [← List.take_append_drop i ys, List.flatMap_append, List.length_append]
    omega
  refine ⟨fun i m H' => m = ys.length - i ∧ i ≤ ys.length ∧ Hold P w N1 H1 D (adds [] ((ys.take i).flatMap fun y => (zs y).map (kf y))) H', ⟨ys.length, by simp, Nat.zero_le _, N1, .old G.sub (Ex.new hD), nD, upd_same⟩, ?_⟩
  rintro i m H' ⟨rfl, hi, hold⟩
  by_cases lt : i < ys.length
  · obtain ⟨B, c1, c2, c3⟩ := hold
    refine .inr ⟨F.go H' (c1.bas.trans c1.sub) i lt, fun H2 => Hold P w N1 H1 D (adds [] ((ys.take (i + 1)).flatMap fun y => (zs y).map (kf y))) H2, fun H2 z => ⟨ys.length - (i + 1), by omega, rfl, lt, z⟩, fun x H2 y => ?_⟩
    obtain ⟨B2, f, px⟩ := F.yld B H' i x H2 c1.bas c1.sub lt y
    obtain ⟨d1, d2, d3⟩ := Hold.on c1 c2 c3 f
    have ey : ys[i]? = some ys[i] := List.getElem?_eq_getElem lt
    have tk : ys.take (i + 1) = ys.take i ++ [ys[i]] := by rw [List.take_succ, ey]; rfl
    have room : ((ys.take i).flatMap zs).length + (zs ys[i]).length ≤ 4000 := by
      have z := less (i + 1)
      rw [tk, List.flatMap_append, List.length_append] at z
      simp only [List.flatMap_cons, List.flatMap_nil, List.append_nil] at z
      omega
    obtain ⟨σ2, w2, gg, wi2, inner⟩ := hg i x ys[i] B2 (G.bas.trans d1.bas) ey px
    refine gg _ d1.sub _ ⟨w2, ?_⟩
    refine wi2 H2 d1.sub _ fun J1 N3 H3 G3 F3 => ?_
    obtain ⟨e1, e2, e3⟩ := Hold.on d1 d2 d3 G3
    refine ⟨fun j k H4 => k = (zs ys[i]).length - j ∧ j ≤ (zs ys[i]).length ∧ ∃ B4, Gr N1 H1 B4 H4 ∧ Ex N3 B4 ∧ B4 D = none ∧ H4 D = some (SetKO P w D (adds (adds [] ((ys.take i).flatMap fun y => (zs y).map (kf y))) (((zs ys[i]).take j).map (kf ys[i])))),
      ⟨(zs ys[i]).length, by simp, Nat.zero_le _, N3, e1, Ex.refl _, e2, e3⟩, ?_⟩
    rintro j k H4 ⟨rfl, hj, B4, c4, c5, c6, c7⟩
    by_cases lj : j < (zs ys[i]).length
    · refine .inr ⟨F3.go H4 (c5.trans c4.sub) j lj, fun H5 => ∃ B5, Gr N1 H1 B5 H5 ∧ Ex N3 B5 ∧ B5 D = none ∧ H5 D = some (SetKO P w D (adds (adds [] ((ys.take i).flatMap fun y => (zs y).map (kf y))) (((zs ys[i]).take (j + 1)).map (kf ys[i])))),
        fun H5 z => ⟨(zs ys[i]).length - (j + 1), by omega, rfl, lj, z⟩, fun x1 H5 y1 => ?_⟩
      obtain ⟨B5, f5, px5⟩ := F3.yld B4 H4 j x1 H5 c5 c4.sub lj y1
      obtain ⟨a1, a2, a3⟩ := Hold.on c4 c6 c7 f5
      have ez : (zs ys[i])[j]? = some (zs ys[i])[j] := List.getElem?_eq_getElem lj
      obtain ⟨σ3, w3, gg3, he⟩ := inner j x1 _ B5 (G3.bas.trans (c5.trans f5.bas)) ez px5
      refine gg3 _ a1.sub _ ⟨w3, ?_⟩
      refine he H5 a1.sub _ fun v N6 H6 g6 hv => ?_
      obtain ⟨b1, b2, b3⟩ := Hold.on a1 a2 a3 g6
      refine ⟨_, _, key_da hv, b3, ?_, N6, b1.put hD b2, c5.trans (f5.bas.trans g6.bas), b2, ?_⟩
      · have l1 := len_adds ((ys.take i).flatMap fun y => (zs y).map (kf y)) []
        have l2 := len_adds (((zs ys[i]).take j).map (kf ys[i])) (adds [] ((ys.take i).flatMap fun y => (zs y).map (kf y)))
        have l3 := many i
        rw [List.length_map, List.length_take] at l2
        simp only [List.length_nil] at l1
        unfold scanBound
        omega
      · rw [upd_same, List.take_succ, ez]
        simp only [Option.toList_some, List.map_append, List.map_cons, List.map_nil]
        rw [adds_snoc]
    · obtain rfl : j = (zs ys[i]).length := by omega
      rw [List.take_length] at c7
      refine .inl ⟨F3.stop H4 (c5.trans c4.sub), B4, c4, c6, ?_⟩
      rw [tk, List.flatMap_append, adds_app]
      simpa using c7
  · obtain rfl : i = ys.length := by omega
    rw [List.take_length] at hold
    obtain ⟨B, c1, _, _⟩ := id hold
    obtain ⟨N, gN, hN⟩ := hold.known hD
    exact .inl ⟨F.stop H' (c1.bas.trans c1.sub), q D N H' (G.trans gN) hN⟩
end
end Sg
end
section
set_option maxRecDepth 100000
set_option maxHeartbeats 4000000
/-! Dict comprehensions by data; enumerate(list). -/
namespace Sg
open PySem PySem.Spec PyProof.Rows L2 Evl
/-- a new object -/
def EvC (te : TE) (σ : L2.St) (H : Hp) (o : HO) : Prop := ∀ H1, Ex H H1 → ∀ Q : VK, (∀ p N H2, Gr H H1 N H2 → N p = some o → Q (.ref p) H2) → te σ H1 Q
/-- what a comprehension keeps: B known, its object (not known) at D -/
def HoldO (N1 H1 : Hp) (D : Addr) (o : HO) (H' : Hp) : Prop := ∃ B, Gr N1 H1 B H' ∧ B D = none ∧ H' D = some o
theorem HoldO.known {N1 H1 H' : Hp} {D : Addr} {o : HO} (h : HoldO N1 H1 D o H') (hD : H1 D = none) : ∃ N, Gr N1 H1 N H' ∧ N D = some o := by
  obtain ⟨B, g, nD, e⟩ := h
  refine ⟨upd B D o, ⟨g.act, g.bas.trans (Ex.new nD), fun b u hb => ?_, fun b h1 h2 => ?_⟩, upd_same⟩
  · by_cases eb : b = D
    · subst eb
      rw [upd_same] at hb
      rw [e]
      exact hb
    · rw [upd_ne eb] at hb
      exact g.sub b u hb
  · have eb : b ≠ D := fun z => h2 (z ▸ hD)
    rw [upd_ne eb]
    exact g.new b h1 h2
theorem HoldO.on {N1 H1 B H' B2 H2 : Hp} {D : Addr} {o : HO} (g : Gr N1 H1 B H') (nD : B D = none) (e : H' D = some o) (f : Gr B H' B2 H2) : Gr N1 H1 B2 H2 ∧ B2 D = none ∧ H2 D = some o := ⟨g.trans f, f.new D nD (by rw [e]; simp), f.act _ _ e⟩
/-- entries put in one by one -/
def puts {β : Type} (kf : β → Key) (vf : β → V) (ys : List β) : List (Key × V) := ys.foldl (fun kvs y => putK kvs (kf y) (vf y)) []
theorem puts_snoc {β : Type} (kf : β → Key) (vf : β → V) (ys : List β) (y : β) : puts kf vf (ys ++ [y]) = putK (puts kf vf ys) (kf y) (vf y) := by
  unfold puts
  rw [List.foldl_append]
  rfl
theorem puts_len {β : Type} (kf : β → Key) (vf : β → V) (ys : List β) : (puts kf vf ys).length ≤ ys.length := by
  have key : ∀ (ys : List β) (acc : List (Key × V)), (ys.foldl (fun kvs y => putK kvs (kf y) (vf y)) acc).length ≤ acc.length + ys.length := by
    intro ys
    induction ys with
    | nil => exact fun acc => Nat.le_refl _
    | cons y ys ih =>
      intro acc
      have h1 := ih (putK acc (kf y) (vf y))
      have h2 := length_putK acc (kf y) (vf y)
      rw [List.foldl_cons, List.length_cons]
      omega
  have := key ys []
  simpa [puts] using this
/-- keys that are unlike: the entries as they come -/
theorem puts_new {β : Type} (kf : β → Key) (vf : β → V) {ys : List β} (nd : (ys.map kf).Nodup) : puts kf vf ys = ys.map fun y => (kf y, vf y) := by
  have key : ∀ (ys : List β) (acc : List (Key × V)), (∀ y ∈ ys, kf y ∉ acc.map (·.1)) → (ys.map kf).Nodup → ys.foldl (fun kvs y => putK kvs (kf y) (vf y)) acc = acc ++ ys.map fun y => (kf y, vf y) := by
    intro ys
    induction ys with
    | nil => exact fun acc _ _ => by simp
    | cons y ys ih =>
      intro acc hn nd
      obtain ⟨n1, n2⟩ := List.nodup_cons.mp (show (kf y :: ys.map kf).Nodup from nd)
      have e : putK acc (kf y) (vf y) = acc ++ [(kf y, vf y)] := putK_new _ (by
        cases q : valV acc (kf y) with
        | none => rfl
        | some v => exact absurd (valV_in q) (hn y List.mem_cons_self))
      rw [List.foldl_cons, e, ih _ (fun z hz => ?_) n2, List.map_cons, List.append_assoc]
      · rfl
      · rw [List.map_append, List.mem_append]
        rintro (h | h)
        · exact hn z (List.mem_cons_of_mem _ hz) h
        · have h' : kf z = kf y := by simpa using h
          exact n1 (h' ▸ List.mem_map.mpr ⟨z, hz, rfl⟩)
  simpa [puts] using key ys [] (fun y _ => by simp) nd
section
variable {K : PySem.W.Frag} {σ : L2.St} {H : Hp} {tk tv : TE}
theorem ed_dc {β : Type} {wi : TI} {g : TG} {vs : List Nat} {Pw : Hp → Nat → V → Prop} (ys : List β) (kf : β → Key) (vf : β → V) (hz : ys.length ≤ 30000) (hwi : WiD wi σ H ys.length Pw)
    (hg : ∀ (i : Nat) (x : V) (y : β) N, Ex H N → ys[i]? = some y → Pw N i x → ∃ σ2 : L2.St, wipe σ2 vs = wipe σ vs ∧ (∀ H2, Ex N H2 → ∀ R : L2.St → Hp → Prop, R σ2 H2 → g x (wipe σ vs) H2 R) ∧ EvD K tk σ2 N (kD (kf y)) ∧ ∀ N', Ex N N' → Ev tv σ2 N' (vf y)) :
    EvC (tDc wi g tYes tk tv vs) σ H (.dK (puts kf vf ys)) := fun H0 e Q q => hwi H0 e _ fun J N1 H1 G F D hD => by
  have nD : N1 D = none := fresh_back G.sub hD
  refine ⟨fun i m H' => m = ys.length - i ∧ i ≤ ys.length ∧ HoldO N1 H1 D (.dK (puts kf vf (ys.take i))) H', ⟨ys.length, by simp, Nat.zero_le _, N1, .old G.sub (Ex.new hD), nD, upd_same⟩, ?_⟩
  rintro i m H' ⟨rfl, hi, hold⟩
  by_cases lt : i < ys.length
  · obtain ⟨B, c1, c2, c3⟩ := hold
    refine .inr ⟨F.go H' (c1.bas.trans c1.sub) i lt, fun H2 => HoldO N1 H1 D (.dK (puts kf vf (ys.take (i + 1)))) H2, fun H2 z => ⟨ys.length - (i + 1), by omega, rfl, lt, z⟩, fun x H2 y => ?_⟩
    obtain ⟨B2, f, px⟩ := F.yld B H' i x H2 c1.bas c1.sub lt y
    obtain ⟨d1, d2, d3⟩ := HoldO.on c1 c2 c3 f
    have ey : ys[i]? = some ys[i] := List.getElem?_eq_getElem lt
    have tk' : ys.take (i + 1) = ys.take i ++ [ys[i]] := by rw [List.take_succ, ey]; rfl
    obtain ⟨σ2, w2, gg, hk, hv⟩ := hg i x ys[i] B2 (G.bas.trans d1.bas) ey px
    refine gg _ d1.sub _ ⟨w2, ?_⟩
    refine hk H2 d1.sub _ fun v N4 H4 g4 hd => ?_
    obtain ⟨f1, f2, f3⟩ := HoldO.on d1 d2 d3 g4
    refine hv N4 g4.bas H4 f1.sub _ fun H5 e5 => ?_
    obtain ⟨h1, h2, h3⟩ := HoldO.on f1 f2 f3 (.old f1.sub e5)
    refine ⟨_, kf ys[i], key_da hd, h3, ?_, N4, ?_, h2, ?_⟩
    · have l1 := puts_len kf vf (ys.take i)
      rw [List.length_take] at l1
      rw [sizeLine_eq]
      omega
    · exact Gr.put h1 hD h2
    · rw [upd_same, tk', puts_snoc]
  · obtain rfl : i = ys.length := by omega
    rw [List.take_length] at hold
    obtain ⟨B, c1, _, _⟩ := id hold
    obtain ⟨N, gN, hN⟩ := hold.known hD
    exact .inl ⟨F.stop H' (c1.bas.trans c1.sub), q D N H' (G.trans gN) hN⟩
/-- enumerate(list) -/
theorem wd_enumL {ta : TE} {ds : List PyData} (h : EvD K ta σ H (.list ds)) : WiD (iEnum K (tCons ta tNil)) σ H ds.length (fun N i x => ∃ d, ds[i]? = some d ∧ Da K N x (.tuple [.int (i : Int), d])) := fun H1 a R k =>
  h H1 a _ fun v N H2 b hv => by
    cases hv with
    | @lst p xs _ h1 h2 =>
      refine ⟨p, xs, rfl, sq_of (b.sub _ _ h1), k _ N H2 b ⟨fun H3 c i hi => ?_, fun B H3 i x H4 c c2 hi y => ?_, fun H3 c => ⟨xs, sq_of (c _ _ h1), by rw [h2.len]; exact Nat.le_refl _⟩⟩⟩
      · have hx : i < xs.length := by rw [h2.len]; exact hi
        exact ⟨xs, xs[i], sq_of (c _ _ h1), List.getElem?_eq_getElem hx⟩
      · obtain ⟨T, z, rfl, nT, rfl, hz⟩ := y
        obtain ⟨d, e1, e2⟩ := h2.get (hz xs (sq_of (c2 _ _ (c _ _ h1))))
        have nB : B T = none := fresh_back c2 nT
        exact ⟨upd B T (.tup [.int (i : Nat), z]), .alloc c2 nT, d, e1, .tup (st_of upd_same) (.cons (.int _) (.cons (e2.ex (c.trans (Ex.new nB))) .nil))⟩
end
end Sg
end
section
set_option maxRecDepth 100000
set_option maxHeartbeats 4000000
/-! What is owned: a part L of the heap that a piece of program may change, all else kept. -/
namespace Sg
open PySem PySem.Spec PyProof.Rows L2 Evl
/-- from the owned part L of H to the owned part L' of H': what stood beside L stands as it was, and is not owned -/
structure Mv (L H L' H' : Hp) : Prop where
  sub : Ex L' H'
  rest : ∀ a, L a = none → H a ≠ none → H' a = H a ∧ L' a = none
theorem Mv.refl {L H : Hp} (e : Ex L H) : Mv L H L H := ⟨e, fun a h1 _ => ⟨rfl, h1⟩⟩
theorem Mv.trans {L H L' H' L'' H'' : Hp} (a : Mv L H L' H') (b : Mv L' H' L'' H'') : Mv L H L'' H'' := ⟨b.sub, fun x h1 h2 => by
  obtain ⟨c1, c2⟩ := a.rest x h1 h2
  obtain ⟨d1, d2⟩ := b.rest x c2 (by rw [c1]; exact h2)
  exact ⟨d1.trans c1, d2⟩⟩
/-- new objects alone -/
theorem Gr.mv {L H N H2 : Hp} (g : Gr L H N H2) : Mv L H N H2 := ⟨g.sub, fun a h1 h2 => by
  refine ⟨?_, g.new a h1 h2⟩
  cases e : H a with
  | none => exact absurd e h2
  | some o => exact g.act a o e⟩
theorem Mv.old {L H H2 : Hp} (e : Ex L H) (a : Ex H H2) : Mv L H L H2 := (Gr.old e a).mv
/-- one of the owned is changed -/
theorem Mv.put {L H : Hp} {p : Addr} {o u : HO} (e : Ex L H) (hp : L p = some u) : Mv L H (upd L p o) (upd H p o) := ⟨fun a x h => by
  by_cases ea : a = p
  · subst ea
    rw [upd_same] at h ⊢
    exact h
  · rw [upd_ne ea] at h ⊢
    exact e a x h, fun a h1 _ => by
  have ea : a ≠ p := fun z => by rw [z, hp] at h1; cases h1
  exact ⟨upd_ne ea, by rw [upd_ne ea]; exact h1⟩⟩
/-- one more is owned -/
theorem Mv.new {L H : Hp} {p : Addr} {o : HO} (e : Ex L H) (hp : H p = none) : Mv L H (upd L p o) (upd H p o) := (Gr.alloc e hp).mv
theorem Mv.to {L H L' H' H2 : Hp} (m : Mv L H L' H') (e : Ex H' H2) : Mv L H L' H2 := m.trans (.old m.sub e)
/-- .. fewer are owned -/
theorem Mv.less {L H L' H' M : Hp} (m : Mv L H L' H') (s : Ex M L') : Mv L H M H' := ⟨fun a o h => m.sub a o (s a o h), fun a h1 h2 => by
  obtain ⟨c1, c2⟩ := m.rest a h1 h2
  refine ⟨c1, ?_⟩
  cases e : M a with
  | none => rfl
  | some o =>
    rw [s a o e] at c2
    cases c2⟩
/-! ### two parts that share nothing -/
def Dj (A B : Hp) : Prop := ∀ a, A a = none ∨ B a = none
def join (A B : Hp) : Hp := fun a => match A a with
  | some o => some o
  | none => B a
theorem join_l {A B : Hp} {a : Addr} {o : HO} (h : A a = some o) : join A B a = some o := by
  unfold join
  rw [h]
theorem join_r {A B : Hp} {a : Addr} (h : A a = none) : join A B a = B a := by
  unfold join
  rw [h]
theorem ex_l {A B : Hp} : Ex A (join A B) := fun _ _ h => join_l h
theorem ex_r {A B : Hp} (d : Dj A B) : Ex B (join A B) := fun a o h => by
  have z : A a = none := (d a).resolve_right (by rw [h]; simp)
  rw [join_r z]
  exact h
theorem join_ex {A B H : Hp} (ea : Ex A H) (eb : Ex B H) : Ex (join A B) H := fun a o h => by
  cases z : A a with
  | some u =>
    rw [join_l z] at h
    rw [← h]
    exact ea a u z
  | none =>
    rw [join_r z] at h
    exact eb a o h
theorem Dj.symm {A B : Hp} (d : Dj A B) : Dj B A := fun a => (d a).symm
/-- what is owned beside what a piece changes stays -/
theorem Mv.frame {A B H A' H' : Hp} (eb : Ex B H) (d : Dj A B) (m : Mv A H A' H') : Mv (join A B) H (join A' B) H' ∧ Dj A' B ∧ Ex B H' := by
  have keep : ∀ a o, B a = some o → H' a = some o ∧ A' a = none := fun a o h => by
    have hA : A a = none := (d a).resolve_right (by rw [h]; simp)
    have hH := eb a o h
    obtain ⟨c1, c2⟩ := m.rest a hA (by rw [hH]; simp)
    exact ⟨c1.trans hH, c2⟩
  refine ⟨⟨join_ex m.sub fun a o h => (keep a o h).1, fun a h1 h2 => ?_⟩, fun a => ?_, fun a o h => (keep a o h).1⟩
  · have hA : A a = none := by
      cases z : A a with
      | none => rfl
      | some o =>
        rw [join_l z] at h1
        cases h1
    rw [join_r hA] at h1
    obtain ⟨c1, c2⟩ := m.rest a hA h2
    exact ⟨c1, by rw [join_r c2]; exact h1⟩
  · cases z : B a with
    | none => exact .inr rfl
    | some o => exact .inl (keep a o z).2
/-- a promise on what is owned: from a part of which pre holds to one of which post holds -/
def spOwn (len : Nat) (pre : List V → Hp → Prop) (post : List V → Hp → V → Hp → Prop) : Sp := fun vs H Q _ => ∃ L, Ex L H ∧ vs.length = len ∧ pre vs L ∧ ∀ v L' H', Mv L H L' H' → post vs L v L' → Q v H'
theorem spOwn_len {n : Nat} {pre : List V → Hp → Prop} {post : List V → Hp → V → Hp → Prop} : ∀ vs H Q E, spOwn n pre post vs H Q E → vs.length = n := fun vs H Q E h => by
  obtain ⟨_, _, h, _⟩ := h
  exact h
end Sg
end
section
set_option maxRecDepth 100000
set_option maxHeartbeats 4000000
/-! Methods and classes by a promise; a walk over a list or a tuple, whichever comes. -/
namespace Sg
open PySem PySem.Spec PyProof.Rows L2 Evl
/-- the method m of the class at C keeps the promise sp -/
def Okm (P : Program) (w : World) (K : PySem.W.Frag) (mg : Str → Option Value) (base : Heap) (CX : CXT) (k : Nat) (C : Addr) (m : Str) (ps : List Str) (dvs : List V) (sp : Sp) : Prop :=
  ∃ (f : Addr) (fd : FuncData) (ds : List Value), Cls K C ∧ Meth K C m f ∧ Binds K fd ps ds ∧ Vals dvs ds ∧ FnOk P w K mg base CX k f fd ps sp
/-- the class x at C is made by an __init__ that keeps the promise sp -/
def Okc (P : Program) (w : World) (K : PySem.W.Frag) (mg : Str → Option Value) (base : Heap) (CX : CXT) (k : Nat) (C : Addr) (x : Str) (ps : List Str) (dvs : List V) (sp : Sp) : Prop :=
  ∃ (f : Addr) (fd : FuncData) (ds : List Value), Cls K C ∧ Mk K C f ∧ mg x = some (.ref C) ∧ Binds K fd ps ds ∧ Vals dvs ds ∧ FnOk P w K mg base CX k f fd ps sp
section
variable {X : Cx} {CX : CXT} {k : Nat} {C : Addr} {ps : List Str} {sp : Sp} {dvs : List V} {E : XK} {m x : Str} {pos apos p : Pos} {o e : Expr} {es : List Expr} {ta : TE} {t : TA} {pl : Sem Bool}
theorem pe_ownM (F : Okm X.prog X.w X.K X.mg X.base CX k C m ps dvs sp) (hr : Room k X.A) (ho : PE X o ta) (ha : PA X (e :: es) t) (hx : Passes CX X E) (hst : starEach (e :: es) X.env = (false, eval e X.env) :: starEach es X.env := by rfl)
    (hpl : (backTo pos (starEach es X.env)).any (·.1) = false := by rfl) (ht : eval (.Call (.Attribute o m apos) (e :: es) [] pos) X.env = (do
      let ov ← eval o X.env
      standAt apos.atName
      let (f, first) ← holding [ov] (getMethod ov m pl)
      callWith pos f first (backTo pos (starEach (e :: es) X.env)) (backToKw pos (keywordEach [] X.env))) := by rfl) : PE X (.Call (.Attribute o m apos) (e :: es) [] pos) (tMeth C m sp dvs E ta t) := by
  obtain ⟨f, fd, ds, c, a, b, d, g⟩ := F
  exact pe_meth ho c a g hr b d hx ha hst hpl ht
theorem pe_ownM0 (F : Okm X.prog X.w X.K X.mg X.base CX k C m ps dvs sp) (hr : Room k X.A) (ho : PE X o ta) (hx : Passes CX X E) (ht : eval (.Call (.Attribute o m apos) [] [] pos) X.env = (do
      let ov ← eval o X.env
      standAt apos.atName
      let (f, first) ← holding [ov] (getMethod ov m pl)
      callWith pos f first (backTo pos (starEach [] X.env)) (backToKw pos (keywordEach [] X.env))) := by rfl) : PE X (.Call (.Attribute o m apos) [] [] pos) (tMeth C m sp dvs E ta tNil) := by
  obtain ⟨f, fd, ds, c, a, b, d, g⟩ := F
  exact pe_meth0 ho c a g hr b d hx ht
theorem pe_ownC (F : Okc X.prog X.w X.K X.mg X.base CX k C x ps dvs sp) (hr : Room (k + 1) X.A) (ha : PA X (e :: es) t) (hx : Passes CX X E) (hg : Gl X x := by rfl) (hdb : (x == ("__debug__" : Str)) = false := by decide)
    (he : starEach (e :: es) X.env = (false, eval e X.env) :: starEach es X.env := by rfl) (hpl : (backTo pos (starEach es X.env)).any (·.1) = false := by rfl) : PE X (.Call (.Name x p) (e :: es) [] pos) (tMake C sp dvs E t) := by
  obtain ⟨f, fd, ds, c, a, h, b, d, g⟩ := F
  exact pe_make a g hr hg h b d hx ha hdb he hpl
theorem pe_ownC0 (F : Okc X.prog X.w X.K X.mg X.base CX k C x ps dvs sp) (hr : Room (k + 1) X.A) (hx : Passes CX X E) (hg : Gl X x := by rfl) (hdb : (x == ("__debug__" : Str)) = false := by decide) : PE X (.Call (.Name x p) [] [] pos) (tMake C sp dvs E tNil) := by
  obtain ⟨f, fd, ds, c, a, h, b, d, g⟩ := F
  exact pe_make0 a g hr hg h b d hx hdb
end
/-! ### a list or a tuple, walked -/
def iSeq (K : PySem.W.Frag) (tl : TE) : TI := fun σ H R => tl σ H fun x H1 => ∃ a, x = .ref a ∧ (((∃ xs, SqL K H1 a xs) ∧ R (Itl K a) H1) ∨ ((∃ xs, SqT K H1 a xs) ∧ R (Itt K a) H1))
theorem pi_seq {X : Cx} {K : PySem.W.Frag} {tg l : Expr} {tl : TE} (hl : PE X l tl) (h : X.K = K := by rfl) : PI X tg l (iSeq K tl) := by
  subst h
  refine ⟨fun pins s σ H R I h => ?_⟩
  refine thn (hl.run pins s σ H _ I h) fun v s1 ⟨x, H1, I1, r1, a, e, q⟩ => ?_
  subst e
  cases r1
  have fo : ∀ b ∈ [s1.heap.objs.size], FpOk X pins H1 b := fun b hb => by
    obtain rfl : b = s1.heap.objs.size := by simpa using hb
    exact I1.fpOk (Nat.le_refl _) (I1.hok.fresh (Nat.le_refl _))
  rcases q with ⟨⟨xs, hq⟩, q⟩ | ⟨⟨xs, hq⟩, q⟩
  · obtain ⟨its, rv, p, hz⟩ := I1.list hq
    exact wpAny_pyIter_list p.isList ⟨_, [s1.heap.objs.size], _, _, H1, rfl, I1.kept (t' := s1.toks) fun b o e => Heap.get?_push_of_some _ e, turn_list a _, ⟨_, Heap.get?_push_size _ rfl, rfl, rfl⟩, fo, q⟩
  · obtain ⟨its, rv, p, hz⟩ := I1.tuple hq
    exact wpAny_pyIter_tuple (show s1.heap.IsTuple a its.toArray from p) ⟨_, [s1.heap.objs.size], _, _, H1, rfl, I1.kept (t' := s1.toks) fun b o e => Heap.get?_push_of_some _ e, turn_tuple a _, ⟨_, Heap.get?_push_size _ rfl, rfl, rfl⟩, fo, q⟩
section
variable {K : PySem.W.Frag} {σ : L2.St} {H : Hp} {tl : TE} {ds : List PyData}
theorem wd_seqL (h : EvD K tl σ H (.list ds)) : WiD (iSeq K tl) σ H ds.length (PD K ds) := fun H1 a R k => by
  unfold iSeq
  refine h H1 a _ fun v N H2 b hv => ?_
  cases hv with
  | @lst p xs _ h1 h2 =>
    refine ⟨p, rfl, .inl ⟨⟨_, sq_of (b.sub _ _ h1)⟩, k _ N H2 b (.still (fun H3 c i hi => ?_) (fun B H3 i x H4 c c2 hi y => ⟨y.1, ?_⟩) fun H3 c => ⟨xs, sq_of (c _ _ h1), by rw [h2.len]; exact Nat.le_refl _⟩)⟩⟩
    · have hx : i < xs.length := by rw [h2.len]; exact hi
      exact ⟨xs, xs[i], sq_of (c _ _ h1), List.getElem?_eq_getElem hx⟩
    · obtain ⟨d, e1, e2⟩ := h2.get (y.2 xs (sq_of (c2 _ _ (c _ _ h1))))
      exact ⟨d, e1, e2.ex c⟩
theorem wd_seqT (h : EvD K tl σ H (.tuple ds)) : WiD (iSeq K tl) σ H ds.length (PD K ds) := fun H1 a R k => by
  unfold iSeq
  refine h H1 a _ fun v N H2 b hv => ?_
  cases hv with
  | @tup p xs _ h1 h2 =>
    refine ⟨p, rfl, .inr ⟨⟨_, ex_t b.sub h1⟩, k _ N H2 b (.still (fun H3 c i hi => ?_) (fun B H3 i x H4 c c2 hi y => ⟨y.1, ?_⟩) fun H3 c => ⟨xs, ex_t c h1, by rw [h2.len]; exact Nat.le_refl _⟩)⟩⟩
    · have hx : i < xs.length := by rw [h2.len]; exact hi
      exact ⟨xs, xs[i], ex_t c h1, List.getElem?_eq_getElem hx⟩
    · obtain ⟨d, e1, e2⟩ := h2.get (y.2 xs (ex_t (c.trans c2) h1))
      exact ⟨d, e1, e2.ex c⟩
end
end Sg
end
section
set_option maxRecDepth 100000
set_option maxHeartbeats 4000000
/-! Dict comprehensions whose keys are texts, numbers or tuples of such; as a value, and stored in a name. -/
namespace Sg
open PySem PySem.Spec PyProof.Rows L2 Evl
section
variable {X : Cx} {pins : List (Addr × Obj)} {σ : L2.St} {H H' : Hp} {s : Shared} {E : Value → Shared → Prop} {D : Addr} {y v : V} {u r : Value} {Q : Unit → Shared → Prop}
theorem dput_ok (hu : X.A.units + 1 < cLine) (I : Inv X pins σ H s) (g : DPut H D y v H') (ry : RelV y u) (rv : RelV v r) (h : ∀ s', Inv X pins σ H' s' → Q () s') : wpAny (model X.prog X.w) X.A (dictSet D u r) Q E s := by
  rcases g with ⟨kvs, k, e, rfl, l, rfl⟩ | ⟨kvs, k, b, e, rfl, eb, l, rfl⟩
  · exact d_dictSet I e l ry rv h
  · cases (show u = Value.ref b from ry)
    obtain ⟨z, hd, xs, rel, dd⟩ := dt_of I.hok e
    have hz : xs.length ≤ sizeLine := by
      rw [← Paired.length rel]
      exact z
    have hl : (putK kvs k v).length ≤ sizeLine := by
      have := length_putK kvs k v
      omega
    have room : (tupleKind (mixKind X.prog X.w)).room X.A := by
      show X.A.units < cLine
      omega
    unfold dictSet
    refine wpAny_holding (wpAny_bind (wpAny_pyHash_tuple (knd := mixKind X.prog X.w) (ks := k) (by omega) (key_of I.hok eb) ?_))
    refine wpAny_dictSetHashed_heap (knd := tupleKind (mixKind X.prog X.w)) (s := { s with toks := s.toks + (k.length + 1) }) room (key_of I.hok eb) dd (fun h' dd' hs => ?_) hz
    have he : ∃ q, h'.get? D = some q := by
      obtain ⟨q, _, _, hq, _⟩ := dd'
      exact ⟨q, hq⟩
    refine h _ (d_write (s := { s with toks := s.toks + (k.length + 1) }) (t' := s.toks + (k.length + 1)) (I.tok _) (by rw [e]; exact True.intro) hs he ?_)
    obtain ⟨o', es', ep', c1, c2, c3, c4, _, c5⟩ := dd'
    have ne : b ≠ D := fun z => by rw [z, e] at eb; cases eb
    refine ⟨hl, hd, _, KT.keeps (KT.put rel k eb rv) fun c ys q => ?_, o', es', ep', c1, c2, c3, c4, c5⟩
    have nc : c ≠ D := fun z => by rw [z, e] at q; cases q
    rw [upd_ne nc]
    exact q
end
/-- the new dict is o0: with keys of either kind -/
def tDcP (o0 : HO) (wi : TI) (g : TG) (tt : TT) (tk tv : TE) (vs : List Nat) : TE := fun σ H Q => wi σ H fun J H1 => ∀ D, H1 D = none → ∃ W : Nat → Nat → Hp → Prop, (∃ m, W 0 m (upd H1 D o0)) ∧ ∀ i m H, W i m H →
  (J.stop i H ∧ Q (.ref D) H) ∨ (J.go i H ∧ ∃ Nx : Hp → Prop, (∀ H', Nx H' → ∃ m', m' < m ∧ W (i + 1) m' H') ∧ ∀ x H', J.yld i H x H' → g x (wipe σ vs) H' fun σ2 H2 => tt σ2 H2 fun b H3 => wipe σ2 vs = wipe σ vs ∧
    if b = true then tk σ2 H3 fun y H4 => tv σ2 H4 fun z H5 => ∃ H6, DPut H5 D y z H6 ∧ Nx H6 else Nx H3)
/-- an empty dict of this kind -/
def Bare (o0 : HO) : Prop := o0 = .dK [] ∨ o0 = .dT []
section
variable {X : Cx}
theorem dcP_core {pins : List (Addr × Obj)} {s : Shared} {σ : L2.St} {H : Hp} {Q : VK} {kx vx tg iter : Expr} {ifs : List Expr} {scope : Scope} {own : List (PySem.Str × Nat)} {pos pos' : Pos} {o0 : HO} {wi : TI} {g : TG} {tt : TT} {tk tv : TE} {Qf : Value → Shared → Prop} {use : Option (Value → Sem Unit)}
    (b0 : Bare o0) (hu : X.A.units + 1 < cLine) (hc : X.calm = true) (hN : X.N.Nodup) (I : Inv X pins σ H s) (hi : PI X tg iter wi) (ok : BlkOk X.N X.env.scope scope own) (hg : ∀ s H C cl fp, PG (Blk X scope s H C cl fp) tg g) (ht : ∀ s H C cl fp, PTs (Blk X scope s H C cl fp) ifs tt)
    (hk : ∀ s H C cl fp, PE (Blk X scope s H C cl fp) kx tk) (he : ∀ s H C cl fp, PE (Blk X scope s H C cl fp) vx tv) (hs : ∀ x, foldedSetIterable iter X.env x = pure x) (h : tDcP o0 wi g tt tk tv (own.map (·.2)) σ H Q)
    (out : ∀ D C s' m H', Inv X pins σ H' s' → Q (.ref D) H' → s'.heap.Ns C m → FpOk X pins H' C → compPost (model X.prog X.w) X.A X.xe use Qf (.ref D) C (.ok .next) s') :
    wpAny (model X.prog X.w) X.A (comprehension (.DictComp kx vx [⟨tg, iter, ifs, 0⟩] scope pos) scope X.env pos' newDict false (eval iter X.env) use) Qf X.xe s := by
  refine wpAny_comprehension_free (use := use) rfl hs (closure_ok fun y hy e => I.ok.has _ (ok.free y hy e)) ok.kind (fun y hy e => by rw [ok.uniq y hy, e]) (thn (hi.run pins s σ H _ I h) fun xv s1 hx => thn hx fun itv s2 h2 => ?_)
  obtain ⟨it, fp, tn, J, H2, rfl, I2, T, st2, f2, q⟩ := h2
  refine wpAny_newObj_type (newEnv_comp ?_)
  obtain ⟨D, hD⟩ : ∃ D, D = s2.heap.objs.size := ⟨_, rfl⟩
  have nD : H2 D = none := I2.hok.fresh (Nat.le_of_eq hD.symm)
  obtain ⟨W, ⟨m0, w0⟩, turn⟩ := q D nD
  obtain ⟨s3, hs3⟩ : ∃ s3 : Shared, s3 = { s2 with heap := s2.heap.push { cls := .type "dict", data := .dict #[] } } := ⟨_, rfl⟩
  obtain ⟨H3, hH3⟩ : ∃ H3, H3 = upd H2 D o0 := ⟨_, rfl⟩
  have I3 : Inv X pins σ H3 s3 := by
    rw [hs3, hH3]
    refine I2.laid (t' := s2.toks) (fun b o e => Heap.get?_push_of_some _ e) (Nat.le_of_eq hD.symm) ?_
    rw [hD]
    rcases b0 with e | e
    · rw [e]; exact dk_empty s2.heap I2.big
    · rw [e]; exact dt_empty s2.heap I2.big
  have f3 : ∀ b ∈ fp, FpOk X pins H3 b ∧ b < s3.heap.objs.size := fun b hb => by
    obtain ⟨o, e, _⟩ := T.obj _ _ st2 b hb
    have lt := Heap.lt_size e
    refine ⟨⟨?_, (f2 b hb).2⟩, by rw [hs3, Heap.size_push]; exact Nat.lt_succ_of_lt lt⟩
    rw [hH3, upd_ne (by rw [hD]; exact Nat.ne_of_lt lt)]
    exact (f2 b hb).1
  have I4 := block_start I3 ok hN f3
  rw [← hD, ← hs3]
  rw [← hH3] at w0
  obtain ⟨C, hC⟩ : ∃ C, C = s3.heap.objs.size := ⟨_, rfl⟩
  rw [← hC] at I4 ⊢
  obtain ⟨cl, hcl⟩ : ∃ cl, cl = cellsFrom (C + 1) scope.names (cloFrom X.env.cells scope.names []) := ⟨_, rfl⟩
  rw [← hcl] at I4 ⊢
  obtain ⟨s4, hs4⟩ : ∃ s4 : Shared, s4 = { s3 with heap := pushCells (s3.heap.push { cls := .type "dict", data := .dict #[] }) scope.names } := ⟨_, rfl⟩
  rw [← hs4] at I4 ⊢
  have st4 : tn 0 s4.heap := T.keep _ _ _ st2 fun b _ o e => by
    rw [hs4]
    refine pushCells_keeps _ _ _ _ (Heap.get?_push_of_some _ ?_)
    rw [hs3]
    exact Heap.get?_push_of_some _ e
  have fo : ∀ {σ' : L2.St} {H0 : Hp} {s' : Shared}, Inv (Blk X scope s3 H3 C cl fp) [] σ' H0 s' → ∀ H' : Hp, (∀ b ∈ fp, H' b = none) → ∀ b ∈ fp, FpOk (Blk X scope s3 H3 C cl fp) [] H' b := fun {σ' H0 s'} I' H' hn b hb =>
    ⟨hn b hb, (I'.ok.exf b hb).1, I'.ok.exfs b hb, .inl hb, fun x c e => (I'.ok.exf b hb).2 x c e, fun p hp => absurd (show p ∈ ([] : List (Addr × Obj)) ++ [] from hp) (by simp)⟩
  have loop : codeAny (model X.prog X.w) X.A (.compLoop (.DictComp kx vx [⟨tg, iter, ifs, 0⟩] scope pos) 0 (.ref it) (.ref D) (compEnvC scope cl C X.env)) (compPost (model X.prog X.w) X.A X.xe use Qf (.ref D) C) s4 := by
    refine compLoop_anyD (fun n s' => ∃ i H', Inv (Blk X scope s3 H3 C cl fp) [] (wipe σ (own.map (·.2))) H' s' ∧ tn i s'.heap ∧ (∀ b ∈ fp, H' b = none) ∧ W i n H') ?_ m0 ⟨0, H3, I4, st4, fun b hb => (f3 b hb).1.1, w0⟩
    rintro n s5 ⟨i, H5, I5, st5, n5, w5⟩
    rcases turn i n H5 w5 with ⟨stop, qq⟩ | ⟨go, Nx, hNx, step⟩
    · refine clause (Y := Blk X scope s3 H3 C cl fp) (Z := fun _ _ _ => False) rfl T hc (hg _ _ _ _ _) (ht _ _ _ _ _) I5 st5 (fo I5) n5 (.inl ⟨stop, fun s6 I6 => ?_⟩) (fun b σ2 H3 h7 s9 I' st' z => z.elim)
      have I7 : Inv X pins σ H5 s6 := I3.call' (ch := fp) I6.os I6.base I6.hok I6.bare fun b hb => ⟨(f3 b hb).1.2.2.2.1, (f3 b hb).1.2.1, (f3 b hb).1.2.2.2.2.1, (f3 b hb).1.2.2.2.2.2⟩
      obtain ⟨m, hn, _⟩ := I6.loc
      have nC : H5 C = none := I6.free
      exact out D C s6 m H5 I7 qq hn (I3.fpOk (Nat.le_of_eq hC.symm) nC)
    · refine clause (Y := Blk X scope s3 H3 C cl fp) rfl T hc (hg _ _ _ _ _) (ht _ _ _ _ _) I5 st5 (fo I5) n5 (.inr ⟨go, step⟩) fun b σ8 H9 h7 s9 I9 st7 z => ?_
      obtain ⟨hw, q9⟩ := z
      have fin : ∀ {s' : Shared} {H' : Hp}, Inv (Blk X scope s3 H3 C cl fp) ([] ++ pinsAt fp h7) σ8 H' s' → Nx H' → ∃ m, m < n ∧ ∃ i H', Inv (Blk X scope s3 H3 C cl fp) [] (wipe σ (own.map (·.2))) H' s' ∧ tn i s'.heap ∧ (∀ b ∈ fp, H' b = none) ∧ W i m H' := fun {s' H'} I' nx => by
        obtain ⟨m', hm, w'⟩ := hNx H' nx
        obtain ⟨I8, st8, n8⟩ := unpin (Y := Blk X scope s3 H3 C cl fp) T I' st7
        refine ⟨m', hm, i + 1, H', I8.weak (by rw [← hw, wipe_length]) (fun j v e => ?_), st8, n8, w'⟩
        rw [← hw] at e
        exact (wipe_some e).1
      cases b with
      | false =>
        simp only [Bool.false_eq_true, if_false] at q9 ⊢
        exact fin I9 q9
      | true =>
        simp only [if_true] at q9 ⊢
        refine thnF ((hk s3 H3 C cl fp).run _ s9 σ8 H9 _ I9 q9) fun z s10 ⟨y, H10, I10, r10, q10⟩ => thnF ((he s3 H3 C cl fp).run _ s10 σ8 H10 _ I10 q10) fun z2 s11 ⟨y2, H11, I11, r11, H12, dp, nx⟩ => ?_
        exact dput_ok (X := Blk X scope s3 H3 C cl fp) hu I11 dp r10 r11 fun s12 I12 => fin I12 nx
  exact codeAny_compStart_dict loop (T.self X.A 0 _ _ _ st4 loop)
theorem pe_dcP {kx vx tg iter : Expr} {ifs : List Expr} {scope : Scope} {own : List (PySem.Str × Nat)} {pos : Pos} {o0 : HO} {wi : TI} {g : TG} {tt : TT} {tk tv : TE} (b0 : Bare o0) (hu : X.A.units + 1 < cLine) (hc : X.calm = true) (hN : X.N.Nodup) (hi : PI X tg iter wi) (ok : BlkOk X.N X.env.scope scope own)
    (hg : ∀ s H C cl fp, PG (Blk X scope s H C cl fp) tg g) (ht : ∀ s H C cl fp, PTs (Blk X scope s H C cl fp) ifs tt) (hk : ∀ s H C cl fp, PE (Blk X scope s H C cl fp) kx tk) (he : ∀ s H C cl fp, PE (Blk X scope s H C cl fp) vx tv) (hs : ∀ x, foldedSetIterable iter X.env x = pure x := by intro _; rfl) :
    PE X (.DictComp kx vx [⟨tg, iter, ifs, 0⟩] scope pos) (tDcP o0 wi g tt tk tv (own.map (·.2))) := by
  refine ⟨fun pins s σ H Q I h => ?_⟩
  rw [arm_eval_DictComp]
  refine dcP_core b0 hu hc hN I hi ok hg ht hk he hs h fun D C s' m H' I' q hn f => ⟨m, hn, fun h'' sb => ?_⟩
  obtain ⟨f0, f1, f2, f3, f4, f5⟩ := f
  exact ⟨.ref D, H', I'.turned (t' := s'.toks) (fun b o hb e => (sb.2 b hb).trans e) f0 f1 f3 f4 f5, rfl, q⟩
end
end Sg
end
section
set_option maxRecDepth 100000
set_option maxHeartbeats 4000000
/-! A dict comprehension stored in a name. -/
namespace Sg
open PySem PySem.Spec PyProof.Rows L2 Evl
theorem swD {kx vx : Expr} {gs : List Comprehension} {scope : Scope} {pos py : Pos} {y : Str} {l : Nat} {env : Env} (hk : env.scope.kind = .function) (hy : env.scope.names.lookup y = some .local) (hl : (py.line == pos.line) = true)
    (ha : (scope.names.any fun (n, k) => n == y && (k == .local || k == .cell)) = false) : swapsWith (.DictComp kx vx gs scope pos) (some (.Name y py)) l env = pure true := by
  have ky : env.kindOf y = some .local := hy
  have hb : env.blockKind = .function := by
    unfold Env.blockKind
    rw [hk]
    rfl
  unfold swapsWith
  simp only [hb, ky, ha, Expr.pos, hl]
  rfl
section
variable {X : Cx}
theorem ps_setDcP {i : Nat} {y : Str} {py : Pos} {kx vx tg iter : Expr} {ifs : List Expr} {scope : Scope} {own : List (PySem.Str × Nat)} {pos spos : Pos} {o0 : HO} {wi : TI} {g : TG} {tt : TT} {tk tv : TE} (b0 : Bare o0) (hu : X.A.units + 1 < cLine) (hc : X.calm = true) (hN : X.N.Nodup) (hy : X.N[i]? = some y)
    (hyl : X.env.scope.names.lookup y = some .local) (hsw : swapsWith (.DictComp kx vx [⟨tg, iter, ifs, 0⟩] scope pos) (some (.Name y py)) spos.line X.env = pure true) (hi : PI X tg iter wi) (ok : BlkOk X.N X.env.scope scope own)
    (hg : ∀ s H C cl fp, PG (Blk X scope s H C cl fp) tg g) (ht : ∀ s H C cl fp, PTs (Blk X scope s H C cl fp) ifs tt) (hk : ∀ s H C cl fp, PE (Blk X scope s H C cl fp) kx tk) (he : ∀ s H C cl fp, PE (Blk X scope s H C cl fp) vx tv) (hs : ∀ x, foldedSetIterable iter X.env x = pure x := by intro _; rfl) :
    PS X (.Assign [.Name y py] (.DictComp kx vx [⟨tg, iter, ifs, 0⟩] scope pos) spos) (tAsg (tDcP o0 wi g tt tk tv (own.map (·.2))) (gName i)) := by
  refine ⟨fun pins s σ H D I h => ?_⟩
  rw [exec_Assign_Name_used _ _ _ _ hsw]
  refine wpAny_bind (wpAny_standAt (wpAny_bind ?_))
  show wpAny _ X.A (do let _ ← comprehension (.DictComp kx vx [⟨tg, iter, ifs, 0⟩] scope pos) scope X.env (firstIterPos [⟨tg, iter, ifs, 0⟩] pos) newDict false (eval iter X.env) (some (assign (.Name y py) X.env))) _ _ s
  have h : tDcP o0 wi g tt tk tv (own.map (·.2)) σ H (fun x H1 => gName i x σ H1 D.nx) := h
  refine wpAny_bind (thn (dcP_core (Qf := fun _ s' => SP X pins D .next s') b0 hu hc hN I hi ok hg ht hk he hs h fun L C s' m H' I' q hn f => ?_) fun _ s' hq => wpAny_pure (wpAny_pure hq))
  show wpAny _ _ (assign (.Name y py) X.env (.ref L)) _ _ _
  refine wpAny_assign_Name (store_ok2 (v := V.ref L) I' hN hy (.inl hyl) rfl (fun s2 I2 ⟨a, sb, ha⟩ => ?_) (.inr hyl))
  obtain ⟨f0, f1, f2, f3, f4, f5⟩ := f
  have ne : C ≠ a := ha.elim (fun z => by rw [z]; exact f1) fun z e => f4 y a z e.symm
  exact ⟨m, hn.sameBut sb ne, fun h3 sb3 => ⟨_, H', I2.turned (t' := s2.toks) (fun b o hb e => (sb3.2 b hb).trans e) f0 f1 f3 f4 f5, q⟩⟩
end
end Sg
end
section
set_option maxRecDepth 100000
set_option maxHeartbeats 4000000
/-! sorted(d), d a dict whose keys are tuples. -/
namespace Sg
open PySem PySem.Spec PyProof.Rows L2 Evl
/-- the keys, where they stand -/
abbrev ptr (x : List Key × Addr × Value) : Addr × List Key := (x.2.1, x.1)
theorem rows_keys {P : Program} {w : World} {es : Array DictEntry} {ks : List (List Key × Addr × Value)} {acc : Array Value} (he : es.toList = ks.map (entryOfKey (tupleKind (mixKind P w)))) (it : ItemsOf (fun i v => ∃ en : DictEntry, es[i]? = some en ∧ v = en.key) acc es.size) :
    acc.toList = (ks.map ptr).map fun q => Value.ref q.1 := by
  have l1 : es.size = ks.length := by rw [← Array.length_toList, he, List.length_map]
  rw [List.map_map]
  apply List.ext_getElem?
  intro j
  rw [List.getElem?_map]
  cases hj : acc.toList[j]? with
  | none =>
    have h1 := List.getElem?_eq_none_iff.mp hj
    rw [Array.length_toList, it.1, l1] at h1
    rw [List.getElem?_eq_none h1]
    rfl
  | some v =>
    obtain ⟨en, hen, hv⟩ := it.2 j v (by rw [← Array.getElem?_toList]; exact hj)
    rw [← Array.getElem?_toList, he, List.getElem?_map] at hen
    obtain ⟨b, hb, e2⟩ := Option.map_eq_some_iff.mp hen
    rw [hb, hv, ← e2]
    rfl
theorem kt_keys {H : Hp} {kvs : List (List Key × V)} {ks : List (List Key × Addr × Value)} (r : KT H kvs ks) : kvs.map (·.1) = (ks.map ptr).map (·.2) ∧ ∀ q ∈ ks.map ptr, H q.1 = some (.tup (q.2.map kV)) := by
  induction r with
  | nil => exact ⟨rfl, fun q h => nomatch h⟩
  | cons h _ ih =>
    obtain ⟨h1, h2, _⟩ := h
    refine ⟨by rw [List.map_cons, List.map_cons, List.map_cons, ih.1, h1], fun q hq => ?_⟩
    rcases List.mem_cons.mp hq with e | hq
    · rw [h1] at h2
      rw [e]
      exact h2
    · exact ih.2 q hq
def rSortDT : List V → Hp → VK → Prop := fun vs H Q => ∃ (d : Addr) (kvs : List (List Key × V)), vs = [.ref d] ∧ Rd H d (.dT kvs) ∧ PySem.W.AllAlike ((kvs.map (·.1)).map tD) ∧ (∀ p ∈ kvs, p.1 ≠ []) ∧
  ∀ (p : Addr) (M : List (Addr × List Key)), H p = none → M.map (·.2) = sortT (kvs.map (·.1)) → (∀ q ∈ M, H q.1 = some (.tup (q.2.map kV))) → Q (.ref p) (upd H p (.lst (M.map fun q => V.ref q.1)))
theorem cr_sortDT {X : Cx} (hc : X.calm = true) (hu : X.A.units + 70 < cLine) : CallR X (.builtin "sorted") rSortDT := by
  intro pins s σ H vs us Q I r h
  obtain ⟨d, kvs, rfl, hd, al, ne, q⟩ := h
  rw [Vals.ref1 r]
  obtain ⟨z, hs, ks, pr, o, es, ep, ho, hx, hdt, he, hn⟩ := (show ObjOk X.prog X.w H s.heap d (.dT kvs) from hd.ok I.hok)
  obtain ⟨k1, k2⟩ := kt_keys pr
  have l2 : kvs.length = ks.length := Paired.length pr
  have l1 : es.size = ks.length := size_of_entries he
  obtain ⟨L, hL⟩ : ∃ L, L = ks.map ptr := ⟨_, rfl⟩
  rw [← hL] at k1 k2
  have lL : L.length = ks.length := by rw [hL, List.length_map]
  refine Calls.call_function_entry kind_sorted plain_sorted entry_sorted (args_sorted1 _) ?_
  unfold Builtin.«sorted»
  refine wpAny_bind (m := checkCount "sorted" 1 1 _) (wpAny_pure ?_)
  refine wpAny_bind (PySem.W.kdu_collect (A := X.A.in1) (kdl_raw hs hx hdt) (I.ok.hd hc) ho (by omega) fun h' tk acc kp it => ?_)
  rw [rows_keys (P := X.prog) (w := X.w) (by simpa using he) it, ← hL]
  have hLz : L.length ≤ sizeLine := by omega
  refine wpAny_bind (wpAny_newList ?_ (by rw [List.length_map]; exact hLz))
  have hoL : (h'.push (seqObj "list" (L.map fun q => Value.ref q.1).toArray 0)).get? h'.objs.size = some (seqObj "list" (L.map fun q => Value.ref q.1).toArray 0) := Heap.get?_push_size _ rfl
  have ex1 : Ext s.heap (h'.push (seqObj "list" (L.map fun q => Value.ref q.1).toArray 0)) := fun b u e => Heap.get?_push_of_some _ (kp b u e)
  have e1 : ∀ {M : List (Addr × List Key)}, PySem.W.EachIs (fun v (q : Addr × List Key) => v = Value.ref q.1) (M.map fun q => Value.ref q.1) M := fun {M} => by
    induction M with
    | nil => exact .nil
    | cons q M ih => exact .cons rfl ih
  have e2 : ∀ {M : List (Addr × List Key)}, (∀ q ∈ M, q ∈ L) → PySem.W.EachIs (fun v (q : Addr × List Key) => ∃ as, Reads (h'.push (seqObj "list" (L.map fun q => Value.ref q.1).toArray 0)) v (tD q.2) as ∧ h'.objs.size ∉ as) (M.map fun q => Value.ref q.1) M := fun {M} => by
    induction M with
    | nil => exact fun _ => .nil
    | cons q M ih => exact fun hm => .cons ⟨[], tk_reads (tk_keep (key_of I.hok (k2 q (hm q List.mem_cons_self))) ex1), by simp⟩ (ih fun r hr => hm r (List.mem_cons_of_mem _ hr))
  have eE : L.map (fun q => tD q.2) = (kvs.map (·.1)).map tD := by
    rw [k1, List.map_map]
    rfl
  show wpAny _ _ _ _ _ { s with heap := h'.push (seqObj "list" (L.map fun q => Value.ref q.1).toArray 0), toks := tk }
  refine wpAny_bind (wpAny_holding (PySem.W.list_sort_data (s := { s with heap := h'.push (seqObj "list" (L.map fun q => Value.ref q.1).toArray 0), toks := tk }) (enc := fun q : Addr × List Key => tD q.2) hoL e1 (e2 fun q hq => hq) (by rw [eE]; exact al) (.inl fun x hx => ?_) hLz
    (fun q _ => ?_) fun out ho' eo => ?_))
  · rw [eE] at hx
    obtain ⟨k, hk, rfl⟩ := List.mem_map.mp hx
    obtain ⟨p, hp, rfl⟩ := List.mem_map.mp hk
    cases e : p.1 with
    | nil => exact absurd e (ne p hp)
    | cons x r => exact ⟨kD x, r.map kD, rfl⟩
  · have := tD_depth q.2
    show X.A.units + 1 + 1 + (tD q.2).depth < cLine
    omega
  · obtain ⟨c, hc'⟩ := sortedHeap_at (vs := L.map fun q => Value.ref q.1) (out := out.toArray) hoL
    have eq : ∀ {us : List Value} {N : List (Addr × List Key)}, PySem.W.EachIs (fun v (q : Addr × List Key) => v = Value.ref q.1) us N → us = N.map fun q => Value.ref q.1 := fun {us N} h => by
      induction h with
      | nil => rfl
      | cons h1 _ ih => rw [List.map_cons, h1, ih]
    obtain ⟨M, hM⟩ : ∃ M, M = L.mergeSort (PySem.W.dataLe false fun q : Addr × List Key => tD q.2) := ⟨_, rfl⟩
    have eo' := eq eo
    rw [← hM] at eo'
    have pM : M.Perm L := by rw [hM]; exact List.mergeSort_perm _ _
    have eM : M.map (·.2) = sortT (kvs.map (·.1)) := by
      rw [hM, List.map_mergeSort (s := PySem.W.dataLe false tD) (by intros; rfl), k1]
      rfl
    have I1 : Inv X pins σ H { s with heap := h', toks := tk } := I.kept (t' := tk) kp
    have kept : ∀ b u, h'.get? b = some u → (sortedHeap (h'.push (seqObj "list" (L.map fun q => Value.ref q.1).toArray 0)) h'.objs.size (L.map fun q => Value.ref q.1) out.toArray).get? b = some u := fun b u e => by
      have lt := Heap.lt_size e
      rw [sortedHeap_old (Nat.ne_of_lt lt) (by rw [size_push']; exact Nat.lt_succ_of_lt lt)]
      exact Heap.get?_push_of_some _ e
    have hn' : H h'.objs.size = none := I1.hok.fresh (Nat.le_refl _)
    have hlen : (M.map fun q => V.ref q.1).length ≤ sizeLine := by
      rw [List.length_map, pM.length_eq]
      exact hLz
    have hv : Vals (M.map fun q => V.ref q.1) out := by
      rw [eo']
      have z := are_refs M
      rwa [List.map_map] at z
    exact wpAny_pure ⟨_, rfl, .ref h'.objs.size, upd H h'.objs.size (.lst (M.map fun q => V.ref q.1)), I1.laid (t' := tk) kept (Nat.le_refl _) ⟨hlen, out, c, hv, hc'⟩, rfl, q _ M hn' eM fun x hx => k2 x (pM.mem_iff.mp hx)⟩
end Sg
end
section
set_option maxRecDepth 100000
set_option maxHeartbeats 4000000
/-! An exception that a suite hands out of itself: behind the suite its object is known by class and dict. -/
namespace Sg
open PySem PySem.Spec PyProof.Rows L2 Evl
/-- the object of an error: its class, its dict, data of fields -/
def errAt (a : Addr) (cls : Value) (d : Option Addr) : HO := .ext fun h => ∃ oe vs, h.get? a = some oe ∧ Zc cls d oe ∧ oe.data = .fields vs
theorem errAt_of {prog : Program} {w : World} {H : Hp} {h : Heap} {a : Addr} {cls : Value} {d : Option Addr} {oe : Obj} {vs : Array Value} (e : h.get? a = some oe) (z : Zc cls d oe) (hd : oe.data = .fields vs) : ObjOk prog w H h a (errAt a cls d) :=
  ⟨⟨oe, vs, e, z, hd⟩, ⟨oe, e⟩, fun h1 h2 ⟨o, v, e1, z1, d1⟩ k => ⟨o, v, k o e1, z1, d1⟩⟩
section
variable {X : Cx} {pins : List (Addr × Obj)} {σ : List (Option V)} {H : Hp} {s : Shared}
/-- what the abstract heap did not know of is known from here on -/
theorem Inv.known (I : Inv X pins σ H s) {a : Addr} {u : HO} (na : H a = none) (n0 : ∀ o, X.s_0.heap.get? a = some o → a ∈ X.ex) (nL : a ≠ X.env.locals) (nC : ∀ x c, X.env.cells.lookup x = some c → c ≠ a) (np : ∀ p ∈ X.pn ++ pins, p.1 ≠ a)
    (ok : ObjOk X.prog X.w H s.heap a u) (nu : ∀ xs, u ≠ .tup xs) : Inv X pins σ (upd H a u) s := by
  have ne : ∀ {b : Addr} {o : HO}, H b = some o → b ≠ a := fun {b o} e z => by rw [z, na] at e; cases e
  refine ⟨I.ok, I.os, I.bare, ⟨I.base.keep, I.base.slot, fun b o e n hx => ?_, I.base.there, fun b xs e => ?_, fun b o v e => ?_, fun b ps e => ?_⟩, I.loc, I.cell, ?_, fun x c e => ?_, fun p hp => ?_, fun b o e => ?_, I.len⟩
  · by_cases z : b = a
    · subst z; exact absurd (n0 _ e) hx
    · exact (upd_ne z).trans (I.base.free b o e n hx)
  · have q := I.base.tups b xs e
    exact (upd_ne (ne q)).trans q
  · have q := I.base.frzs b o v e
    exact (upd_ne (ne q)).trans q
  · obtain ⟨m, q⟩ := I.base.tbls b ps e
    exact ⟨m, (upd_ne (ne q)).trans q⟩
  · exact (upd_ne (Ne.symm nL)).trans I.free
  · exact (upd_ne (nC x c e)).trans (I.freeC x c e)
  · obtain ⟨e, n, r⟩ := I.pin p hp
    exact ⟨e, (upd_ne (np p hp)).trans n, r⟩
  · have mono : ∀ {b : Addr} {o : HO}, H b = some o → upd H a u b = some o := fun {b o} q => (upd_ne (ne q)).trans q
    by_cases z : b = a
    · subst z
      rw [upd_same] at e
      cases e
      exact ok.stay (fun _ _ _ q => q) (fun _ q => mono q) fun _ _ q => mono q
    · rw [upd_ne z] at e
      exact (I.hok b o e).stay (fun _ _ _ q => q) (fun _ q => mono q) fun _ _ q => mono q
end
/-- what 'except x as n: suite' wishes of an exception of the body, where the suite's end knows the error -/
def wKeep (K : PySem.W.Frag) (c : Value) (i : Nat) (ts : Addr → Value → Option Addr → TS) (Wout : WX) (D : Ends) : WX := fun cls d σ H =>
  ∃ b, PySem.W.exmOne K cls c = some b ∧ (b = true → ∀ a, H a = none → ts a cls d { nx := fun σ' H' => H' a = none → D.nx (σ'.set i none) (upd H' a (errAt a cls d)), rt := fun _ _ => False, bk := fun _ _ => False, ct := fun _ _ => False } (σ.set i (some (.ref a))) H) ∧
    (b = false → Wout cls d σ H)
section
variable {X : Cx} {x n : Str} {c : Value} {i : Nat} {body suite : List Stmt} {b₀ : Stmt} {np pos pos' : Pos} {tb : WX → TS} {ts : Addr → Value → Option Addr → TS} {Wout : WX}
theorem ps_try_keep (hs : X.stack = X.env :: X.outer) (hf : X.env.frame = some X.env.locals) (hN : X.N.Nodup) (hi : X.N[i]? = some n) (hln : X.env.kindOf n = some .local) (hc : Names X x c) (tk : Takes X Wout)
    (hb : ∀ (W : WX) (pn : List (Addr × Obj)) (xe : Value → Shared → Prop), Takes (X.tr pn xe) W → PassesOwn (model X.prog X.w) X.A X.env xe → PSs (X.tr pn xe) body (tb W))
    (hsu : ∀ (a : Addr) (oe : Obj) (cls : Value) (d : Option Addr) (pn : List (Addr × Obj)), Zc cls d oe → (∃ vs, oe.data = .fields vs) → PSs (X.suite a ((a, oe) :: pn)) (b₀ :: suite) (ts a cls d)) :
    PS X (.Try body [.ExceptHandler (some (.Name x np)) (some n) (b₀ :: suite) pos'] [] [] pos) (fun D σ H => tb (wKeep X.K c i ts Wout D) D σ H) := by
  refine ⟨fun pins s σ H D I h => ?_⟩
  have ok := I.ok
  have hfr : X.A.frames = some (X.env :: X.outer) := by rw [ok.frames, hs]
  have hloc : Loc X.env.scope n := .inl hln
  refine wpAny_Try_except ?_
  refine wpAny_mono ((hb (wKeep X.K c i ts Wout D) (X.pn ++ pins) (fun e s₁ => wpAny (model X.prog X.w) X.A (noteFrame e X.env) (fun _ s₂ => wpAny (model X.prog X.w) X.A (setFlight e none) (fun _ s₃ =>
    wpAny (model X.prog X.w) X.A (handleBy e X.env [.ExceptHandler (some (.Name x np)) (some n) (b₀ :: suite) pos']) (SP X pins D) X.xe s₃) X.xe s₂) X.xe s₁) (fun u s' xx => ?_) PassesOwn.looking).run [] s σ H D (I.toTry _) h) (fun f s1 hsp => ?_) (fun e s1 he => he)
  · obtain ⟨a, B, sI, pins', σ', H', cls, d, rfl, J', nb, up, sky, na, os, ag, b, hb1, hyes, hno⟩ := xx
    have J : Inv X pins σ' H' sI := J'.ofTry ok
    have sky' : Sky B (X.env :: X.outer) a (Zc cls d) X.env.locals s'.heap := by rw [← hs]; exact sky
    show wpAny (model X.prog X.w) X.A (noteFrame (.ref a) X.env) _ _ _
    refine Sky.land Zc.steady hfr hf sky' fun h3 fl3 up3 => ?_
    have J3 : Inv X pins σ' H' { s' with heap := h3 } := J.landed nb fl3.1 (up.trans up3) os ag
    obtain ⟨oe3, vs3, he3, hz3, hd3⟩ := fl3.there
    have notFr : ∀ {h : Heap} {o : Obj} {vs : Array Value}, h.FunFrames B (X.env :: X.outer) → h.get? a = some o → o.data = .fields vs → a ∉ frs (X.env :: X.outer) := fun {h o vs} ff e dd hm => by
      obtain ⟨_, o', e', hnf⟩ := ff.mem hm
      rw [e] at e'; cases e'
      exact hnf _ dd
    have nfr := notFr fl3.2.2.1 he3 hd3
    have nL : a ≠ X.env.locals := fun z => nfr (List.mem_filterMap.mpr ⟨X.env, List.mem_cons_self, by rw [hf, z]⟩)
    have nF : a ∉ X.fs := fun hm => by
      obtain ⟨e, he, q⟩ := List.mem_filterMap.mp hm
      exact nfr (List.mem_filterMap.mpr ⟨e, List.mem_cons_of_mem _ he, q⟩)
    have nI : sI.heap.get? a = none := by
      cases q : sI.heap.get? a with
      | none => rfl
      | some o =>
        have z := nb a o q (by rw [hs]; exact nfr)
        rw [fl3.2.1] at z; cases z
    have n0 : ∀ o, X.s_0.heap.get? a = some o → a ∈ X.ex := fun o e => Classical.byContradiction fun hx => by
      obtain ⟨o', q⟩ := J.base.there a o e hx
      rw [nI] at q; cases q
    have nC : ∀ y e, X.env.cells.lookup y = some e → e ≠ a := fun y e hl z => by
      obtain ⟨v, o, ho, _⟩ := J.cell y e hl
      rw [z, nI] at ho; cases ho
    have nP : ∀ p ∈ X.pn ++ pins, p.1 ≠ a := fun p hp z => by
      have q := (J.pin p hp).1
      rw [z, nI] at q; cases q
    have S3 := J3.suite he3 hd3 na nL nF
    refine wpAny_handleBy_cons (codeAny_handlers_test ?_) (by intro q; cases q)
    have LT : PySem.W.Looks (model X.prog X.w) h3 (typeOf (.ref a)) cls := fun A Q E s k q => wpAny_typeOf_ref (k _ _ he3) (by rw [hz3.1]; exact q)
    have LM := PySem.W.exm_one (M := model X.prog X.w) (J3.kIn) LT hb1
    have test : ∀ {Q : Value → Shared → Prop} {E : Value → Shared → Prop}, Q c { s' with heap := h3 } → wpAny (model X.prog X.w) (X.A.mark (some (.ref a))) (eval (.Name x np) X.env) Q E { s' with heap := h3 } := fun {Q E} q => by
      obtain ⟨hg, hdbg, hm | ⟨hm, hv, hnn⟩⟩ := hc
      · exact ld_glob (X := X.suite a ((a, oe3) :: (X.pn ++ pins))) S3 hg hm q hdbg
      · exact ld_blt (X := X.suite a ((a, oe3) :: (X.pn ++ pins))) S3 hg hm hv q hnn hdbg
    refine test (LM.here ?_)
    cases b with
    | true =>
      refine codeAny_handlers_suite_as ?_
      refine HandSPX.lands_againZ fl3 fun h4 fl4 up4 => ?_
      have J4 : Inv X pins σ' H' { s' with heap := h4 } := J.landed nb fl4.1 ((up.trans up3).trans up4) os ag
      obtain ⟨oe4, vs4, he4, hz4, hd4⟩ := fl4.there
      have S4 := J4.suite he4 hd4 na nL nF
      refine store_ok (X := X.suite a ((a, oe4) :: (X.pn ++ pins))) (v := .ref a) S4 hN hi hloc rfl (fun s5 S5 => ?_) (.inr hln)
      refine wpAny_mono ((hsu a oe4 cls d (X.pn ++ pins) hz4 ⟨_, hd4⟩).run [] s5 _ H' _ S5 (hyes rfl a na)) (fun f s6 hsp => ?_) (fun _ _ z => False.elim z)
      cases f with
      | next =>
        obtain ⟨σ6, H6, S6, q6⟩ := hsp
        refine gone_ok (X := X.suite a ((a, oe4) :: (X.pn ++ pins))) S6 hN hi hln fun s7 S7 => ?_
        obtain ⟨e7, n7, _⟩ := S7.pin (a, oe4) (List.mem_append_left _ List.mem_cons_self)
        have J7 : Inv X pins (σ6.set i none) H6 s7 := S7.unsuite ok
        exact ⟨_, _, Inv.known J7 n7 n0 nL nC nP (errAt_of e7 hz4 hd4) (fun _ z => by cases z), q6 n7⟩
      | brk =>
        obtain ⟨σ6, H6, S6, q6⟩ := hsp
        exact q6.elim
      | cont =>
        obtain ⟨σ6, H6, S6, q6⟩ := hsp
        exact q6.elim
      | ret u =>
        obtain ⟨v6, σ6, H6, S6, r6, q6⟩ := hsp
        exact q6.elim
    | false =>
      show wpAny _ X.A (handleBy (.ref a) X.env []) _ _ _
      refine wpAny_handleBy_nil ?_
      obtain ⟨k1, k2, k3, oe, vs, T, oT, ts', he, hz, hd, h1, hr⟩ := id fl3
      unfold PySem.passOn
      refine wpAny_bind (wpAny_field he hd h1 ?_)
      rw [if_neg (show ¬ ((Value.ref T == Value.none) = true) from by simp)]
      have fin : wpAny (model X.prog X.w) X.A (setFlight (.ref a) X.env.frame) (fun _ s4 => wpAny (model X.prog X.w) X.A (throw (.ref a) : Sem Flow) (SP X pins D) X.xe s4) X.xe { s' with heap := h3 } := by
        rw [hf]
        refine HandSPX.setFlight_upZ fl3 fun h4 hh4 up4 => wpAny_throw (tk _ _ ?_)
        exact ⟨a, B, sI, pins, σ', H', cls, d, rfl, J, nb, (up.trans up3).trans up4, .inr (.inr (by rw [hs]; exact hh4)), na, os, ag, hno rfl⟩
      first
        | exact wpAny_bind (wpAny_pure (wpAny_bind fin))
        | exact wpAny_bind fin
  · cases f with
    | next =>
      obtain ⟨σ', H', J', q⟩ := hsp
      exact wpAny_execs_nil ⟨σ', H', J'.ofTry ok, q⟩
    | brk =>
      obtain ⟨σ', H', J', q⟩ := hsp
      exact ⟨σ', H', J'.ofTry ok, q⟩
    | cont =>
      obtain ⟨σ', H', J', q⟩ := hsp
      exact ⟨σ', H', J'.ofTry ok, q⟩
    | ret u =>
      obtain ⟨v, σ', H', J', r, q⟩ := hsp
      exact ⟨v, σ', H', J'.ofTry ok, r, q⟩
end
end Sg
end
section
set_option maxRecDepth 100000
set_option maxHeartbeats 4000000
/-! Errors that are known behind their suite: isinstance, fields. -/
namespace PySem.W
open PySem PySem.Spec PySem.Calls PyProof.Rows
section
variable {prog : Program} {w : World} {A : Around} {E : Value → Shared → Prop} {s : Shared} {K : Frag} {x D : Addr} {ox : Obj} {od : Option Obj}
theorem sg_findObj {C : Addr} {name : Str} {a g : Value} (hc : (clsIn K C).isSome = true) (ha : findIn K (.ref C) name = some (some a)) (hg : specialIn K a "__get__" = some (some g)) (ht : takesIn K a = some true) : findObj K C od name = some (.bind g a) := by
  obtain ⟨cd, hc⟩ := Option.isSome_iff_exists.mp hc
  unfold findObj
  rw [hc, Option.bind_some, ha, Option.bind_some]
  simp [hg, ht]
theorem sg_kinE {Q : Option Value → Shared → Prop} (C : L2.ExcC K D)
    (X : K.In s.heap) (I : InstAt s.heap x ox D od) (h : Q (some (.ref D)) { s with toks := s.toks + 1 }) : wpAny (model prog w) A (getAttr? (.ref x) "__class__") Q E s := by
  obtain ⟨hga, hgt, hsub, hdct, ha, hn, htk, hm⟩ := C
  have hf : findObj K D od "__class__" = some (.bind (.builtin "getset_descriptor.__get__") (.builtin "object.__class__")) := sg_findObj (by obtain ⟨cd, hc, _⟩ := any_some hdct; rw [hc]; rfl) ha hn htk
  obtain ⟨hp, g, d, t, os⟩ := s
  have L0 := I.type (M := model prog w)
  have L1 := looks_findIn (M := model prog w) X hga
  have L2 := looks_findIn (M := model prog w) X hgt
  have L3 := looks_find (M := model prog w) X I hf
  have sub : Looks (model prog w) hp (isInstance (.ref x) (.type "BaseException")) true := L0.andThen (looks_subIn X hsub)
  have hx0 : (false && onTheHeap (Value.builtin "BaseException.__getattribute__")) = false := rfl
  have hx2 : (Value.builtin "BaseException.__getattribute__" == Value.builtin "object.__getattribute__") = false := by decide +kernel
  have hx1 : (onTheHeap (Value.ref D) && Value.builtin "BaseException.__getattribute__" == Value.builtin "object.__getattribute__") = false := by rw [hx2]; rfl
  unfold getAttr? getAttrBy? getAttrBy
  refine wpAny_bind (wpAny_mkText (wpAny_bind (wpAny_attempt (wpAny_holding (wpAny_bind (L0.at (wpAny_bind (L1.at ?_))))))))
  show wpAny _ _ (if (onTheHeap (Value.ref D) && Value.builtin "BaseException.__getattribute__" == Value.builtin "object.__getattribute__") = true then _ else _) _ _ _
  rw [hx1, if_neg Bool.false_ne_true]
  unfold getAttrByItsOwn hookBefore
  refine wpAny_bind ?_
  rw [if_pos (show onTheHeap (Value.ref D) = true from rfl)]
  refine L2.at ?_
  refine wpAny_bind (wpAny_attempt (wpAny_holding ?_))
  unfold callGetattribute
  rw [hx0, if_neg Bool.false_ne_true]
  unfold boundAndCalled
  rw [PySem.F.excAttr_ValueError.ga.bind (.ref x)]
  refine wpAny_bind (wpAny_pure ?_)
  show wpAny _ _ (call (.builtin "BaseException.__getattribute__") [.ref x, .str "__class__" t]) _ _ _
  refine wpAny_call (codeAny_call_builtin PySem.F.excAttr_ValueError.ga.plain PySem.F.entry_bexc_ga ?_)
  refine @check_slot (model prog w) _ _ ⟨hp, g, d, t + 1, os⟩ "BaseException.__getattribute__" "BaseException" "__getattribute__" (.ref x) [.str "__class__" t] [] _ (by decide +kernel) (by decide +kernel) sub (PySem.F.args_bexc_ga (.ref x) (.str "__class__" t)) ?_
  unfold Builtin.«object.__getattribute__»
  refine wpAny_bind (wpAny_of_eq (a := ((Value.ref x : Value), [Value.str "__class__" t])) (by first | rfl | (simp only [slotArgs]; rfl)) ?_)
  refine wpAny_bind (wpAny_pure (wpAny_bind (L0.at (wpAny_bind (L3.at ?_)))))
  show wpAny _ _ (holding [Value.builtin "object.__class__"] (call (.builtin "getset_descriptor.__get__") [.builtin "object.__class__", .ref x, .ref D]) >>= ret) _ _ _
  refine wpAny_bind (wpAny_holding (wpAny_call (class_get (s := ⟨hp, g, d, t + 1, os⟩) (ox := ox) (od := od) X I hm ?_)))
  refine wpAny_pure ?_
  show wpAny _ _ (handedOut (.ref D)) _ _ _
  rw [handedOut_of (v := .ref D) rfl]
  first
    | exact wpAny_pure (wpAny_pure h)
    | exact wpAny_pure h
    | exact wpAny_pure (wpAny_bind (wpAny_pure (wpAny_pure h)))
theorem sg_kitE (C : L2.ExcC K D) : KitX K (.ref x) (.ref D) (fun h => ∃ ox od, InstAt h x ox D od) where
  ty := fun _ _ _ ⟨_, _, I⟩ => I.type
  it := fun _ _ X _ => by
    obtain ⟨cdD, hcD, _⟩ := any_some C.hd
    unfold clsIn at hcD
    split at hcD
    · rename_i c' d' cd' sl' ho
      intro A' Q' E' s' k q
      unfold isType loadHead
      exact wpAny_bind (wpAny_loadPart (k _ _ (X _ _ ho)) (wpAny_pure q))
    · cases hcD
  ne := fun h tp dd its n sl X htp => by
    obtain ⟨cdD, hcD, _⟩ := any_some C.hd
    refine Bool.eq_false_iff.mpr fun q => ?_
    have e : D = tp := Value.ref.inj (beq_iff_eq.mp q)
    subst e
    unfold clsIn at hcD
    split at hcD
    · rename_i c' d' cd' sl' ho
      have z := (X _ _ ho).symm.trans htp
      cases z
    · cases hcD
  ca := fun X ⟨_, _, I⟩ k => sg_kinE C X I k
end
end PySem.W
namespace Sg
open PySem PySem.Spec PyProof.Rows L2 Evl
/-- an error at a that the abstract heap knows: of the class at D, with the fields fs -/
def IsErr (H : Hp) (a D : Addr) (fs : List (Str × V)) : Prop := ∃ dd, H a = some (errAt a (.ref D) (some dd)) ∧ H dd = some (.xd fs)
/-- .. without a dict -/
def IsErr0 (H : Hp) (a D : Addr) : Prop := H a = some (errAt a (.ref D) none)
theorem instAt_err {X : Cx} {pins : List (Addr × Obj)} {σ : L2.St} {H : Hp} {s : Shared} (I : L2.Inv X pins σ H s) {a D : Addr} (h : (∃ fs, IsErr H a D fs) ∨ IsErr0 H a D) : ∃ ox od, PySem.W.InstAt s.heap a ox D od := by
  rcases h with ⟨fs, dd, e1, e2⟩ | e1
  · obtain ⟨⟨oe, vs, he, hz, hd⟩, _⟩ := I.hok a _ e1
    have hx : ObjOk X.prog X.w H s.heap dd (.xd fs) := I.hok dd _ e2
    obtain ⟨mA, hns, hr⟩ := hx
    obtain ⟨od, ho, hl⟩ := lookIn_ns hns
    exact ⟨oe, some od, he, hz.1, by unfold PySem.W.notCls; rw [hd] <;> rfl, by rw [hz.2]; exact ho⟩
  · obtain ⟨⟨oe, vs, he, hz, hd⟩, _⟩ := I.hok a _ e1
    exact ⟨oe, none, he, hz.1, by unfold PySem.W.notCls; rw [hd] <;> rfl, by rw [hz.2]; trivial⟩
/-- isinstance(e, c), e a known error -/
def rIsT (K : PySem.W.Frag) : List V → Hp → VK → Prop := fun xs H Q => ∃ (a D : Addr) (c : V) (cv : Value) (b : Bool), xs = [.ref a, c] ∧ ((∃ fs, IsErr H a D fs) ∨ IsErr0 H a D) ∧ ExcC K D ∧ (∀ u, RelV c u → u = cv) ∧ PySem.W.kitOne K (.ref D) cv = some b ∧ Q (.bl b) H
theorem call_isT {X : Cx} : CallR X (.builtin "isinstance") (rIsT X.K) := by
  intro pins s σ H xs us Q I r h
  obtain ⟨a, D, c, cv, b, rfl, he, C, hcv, e, q⟩ := h
  cases r with
  | cons rx rr =>
    cases rr with
    | cons rt rr =>
      cases rr
      cases rx
      have ec := hcv _ rt
      subst ec
      exact PySem.W.kia_one (PySem.W.sg_kitE C) I.kIn (instAt_err I he) e (fun z => nomatch z) fun tk => ⟨.bl b, H, I.kept (t' := tk) fun _ _ z => z, rfl, q⟩
/-- e.f, e a known error -/
def tXfT (K : PySem.W.Frag) (f : Str) (te : TE) : TE := fun σ H Q => te σ H fun x H1 => ∃ (a C : Addr) (fs : List (Str × V)) (v : V), x = .ref a ∧ IsErr H1 a C fs ∧ XfC K C ∧ PySem.W.findIn K (.ref C) f = some none ∧ fs.lookup f = some v ∧ Q v H1
theorem pe_xfT {X : Cx} {e : Expr} {te : TE} {pos : Pos} {n : Str} (he : PE X e te) (hb : attributeBase e n X.env (eval e X.env) = eval e X.env := by rfl) :
    PE X (.Attribute e n pos) (tXfT X.K n te) := by
  refine ⟨fun pins s σ H Q I h => ?_⟩
  refine attr_of hb (thn (he.run pins s σ H _ I h) fun u s1 hh => ?_)
  obtain ⟨x, H1, I1, rx, a, C, fs, v, ex, ⟨dd, e1, e2⟩, T, hno, l, q⟩ := hh
  subst ex
  obtain rfl : u = Value.ref a := rx
  obtain ⟨⟨oe, vs, ha, hz, hd⟩, _⟩ := I1.hok a _ e1
  have hx : ObjOk X.prog X.w H1 s1.heap dd (.xd fs) := I1.hok dd _ e2
  obtain ⟨mA, hns, hr⟩ := hx
  obtain ⟨od, ho, hl⟩ := lookIn_ns hns
  obtain ⟨u, hu, ru⟩ := RelO.some_of (v := v) (o := mA n) (by rw [← l]; exact hr n)
  have J : PySem.W.InstAt s1.heap a oe C (some od) := ⟨ha, hz.1, by unfold PySem.W.notCls; rw [hd] <;> rfl, by rw [hz.2]; exact ho⟩
  exact HandSPX.exc_get I1.kIn J T.ga T.gg T.exC (PySem.W.findObj_own T.hdC hno rfl (by rw [hl, hu])) (handed_of ru) ⟨v, H1, I1.tok _, ru, q⟩
end Sg
end
section
set_option maxRecDepth 100000
set_option maxHeartbeats 4000000
/-! Calls that may raise, by a promise; errors made, with and without an __init__ of their own. -/
namespace Sg
open PySem PySem.Spec PyProof.Rows L2 Evl
section
variable {X : Cx} {CX : CXT} {k : Nat} {f C : Addr} {fd : FuncData} {ps : List Str} {sp : Sp} {dvs : List V} {ds : List Value} {E : L2.St → XK} {x m : Str} {p pos apos : Pos} {e o : Expr} {es : List Expr} {ta : TE} {t : TA}
theorem run_fnD {pins : List (Addr × Obj)} {σ : L2.St} {H : Hp} {s : Shared} {Q : VK} {us : List Value} {vs : List V} (F : FnOk X.prog X.w X.K X.mg X.base CX k f fd ps sp) (hr : Room k X.A) (hb : Binds X.K fd ps ds) (hd : Vals dvs ds) (hx : PassesAt CX X σ (E σ))
    (I : L2.Inv X pins σ H s) (r : Vals vs us) (h : sp (vs ++ dvs) H Q (E σ)) : wpAny (model X.prog X.w) X.A (call (.ref f) us) (EP X pins σ Q) X.xe s := by
  have r2 : Vals (vs ++ dvs) (us ++ ds) := r.append hd
  have hl : (us ++ ds).length = ps.length := by rw [← r2.length]; exact F.len _ _ _ _ h
  refine wpAny_call (codeAny_mono (F.run X.A X.stack s H ⟨us, []⟩ (us ++ ds) (vs ++ dvs) Q (E σ) hr I.env0 (hb s us I.kIn hl) r2 h) fun r s' hq => ?_)
  cases r with
  | error e => exact hx pins H s e s' I hq
  | ok fl =>
    cases fl with
    | ret u => exact I.after hq
    | next => exact False.elim hq
    | brk => exact False.elim hq
    | cont => exact False.elim hq
/-- a call that may raise: what it lets out is wished at the slots there -/
def tCallD (sp : Sp) (dvs : List V) (E : L2.St → XK) (t : TA) : TE := fun σ H Q => t σ H fun vs H1 => sp (vs ++ dvs) H1 Q (E σ)
def tMethD (C : Addr) (m : Str) (sp : Sp) (dvs : List V) (E : L2.St → XK) (to : TE) (ta : TA) : TE := fun σ H Q => to σ H fun x H1 => ∃ (a dx : Addr) (fs : List (Str × V)), x = .ref a ∧ H1 a = some (.ins C dx fs) ∧ fs.lookup m = none ∧ ta σ H1 fun vs H2 => sp (.ref a :: (vs ++ dvs)) H2 Q (E σ)
theorem pe_ownS (F : Okd X.prog X.w X.K X.mg X.base CX k x ps dvs sp) (hr : Room k X.A) (ha : PA X (e :: es) t) (hx : ∀ σ, PassesAt CX X σ (E σ)) (hg : Gl X x := by rfl) (hdb : (x == ("__debug__" : Str)) = false := by decide)
    (he : starEach (e :: es) X.env = (false, eval e X.env) :: starEach es X.env := by rfl) (hpl : (backTo pos (starEach es X.env)).any (·.1) = false := by rfl) :
    PE X (.Call (.Name x p) (e :: es) [] pos) (tCallD sp dvs E t) := by
  obtain ⟨f, fd, ds, a, b, c, d, g⟩ := F
  refine ⟨fun pins s σ H Q I h => ?_⟩
  refine wpAny_Call_Name_kw (ld_glob I hg a ?_ hdb)
  refine PySem.W.callWith_K (h₀ := X.base) I.ok.mod.kin b (thn (ha.run pos pins s σ H _ I h) fun us s1 ⟨vs, H1, I1, r, q⟩ => ⟨I1.kIn, ?_⟩) he hpl
  exact run_fnD g hr c d (hx σ) I1 r q
theorem pe_ownMS {pl : Sem Bool} (F : Okm X.prog X.w X.K X.mg X.base CX k C m ps dvs sp) (hr : Room k X.A) (he : PE X o ta) (ha : PA X (e :: es) t) (hx : ∀ σ, PassesAt CX X σ (E σ)) (hst : starEach (e :: es) X.env = (false, eval e X.env) :: starEach es X.env := by rfl)
    (hpl : (backTo pos (starEach es X.env)).any (·.1) = false := by rfl) (ht : eval (.Call (.Attribute o m apos) (e :: es) [] pos) X.env = (do
      let ov ← eval o X.env
      standAt apos.atName
      let (f, first) ← holding [ov] (getMethod ov m pl)
      callWith pos f first (backTo pos (starEach (e :: es) X.env)) (backToKw pos (keywordEach [] X.env))) := by rfl) : PE X (.Call (.Attribute o m apos) (e :: es) [] pos) (tMethD C m sp dvs E ta t) := by
  obtain ⟨f, fd, ds, c, hm, hb, hd, F⟩ := F
  refine ⟨fun pins s σ H Q I h => ?_⟩
  refine PySem.W.methodCall_KW (pl := pl) (thn (he.run pins s σ H _ I h) fun u s1 ⟨x, H1, I1, rx, a, dx, fs, ex, ea, l, q⟩ => ?_) ht
  subst ex
  obtain rfl : u = Value.ref a := rx
  refine getmeth_ok I1 ea c hm l ?_
  refine PySem.W.callWith_K (first := [.ref a]) (h₀ := X.base) I.ok.mod.kin hm.kp (thn (ha.run pos pins s1 σ H1 _ I1 q) fun us s2 ⟨vs, H2, I2, r, q2⟩ => ⟨I2.kIn, ?_⟩) hst hpl
  exact run_fnD (us := .ref a :: us) (vs := .ref a :: vs) F hr hb hd (hx σ) I2 (.cons rfl r) q2
theorem pe_ownMS0 {pl : Sem Bool} (F : Okm X.prog X.w X.K X.mg X.base CX k C m ps dvs sp) (hr : Room k X.A) (he : PE X o ta) (hx : ∀ σ, PassesAt CX X σ (E σ)) (ht : eval (.Call (.Attribute o m apos) [] [] pos) X.env = (do
      let ov ← eval o X.env
      standAt apos.atName
      let (f, first) ← holding [ov] (getMethod ov m pl)
      callWith pos f first (backTo pos (starEach [] X.env)) (backToKw pos (keywordEach [] X.env))) := by rfl) : PE X (.Call (.Attribute o m apos) [] [] pos) (tMethD C m sp dvs E ta tNil) := by
  obtain ⟨f, fd, ds, c, hm, hb, hd, F⟩ := F
  refine ⟨fun pins s σ H Q I h => ?_⟩
  refine PySem.W.methodCall_KW (pl := pl) (thn (he.run pins s σ H _ I h) fun u s1 ⟨x, H1, I1, rx, a, dx, fs, ex, ea, l, q⟩ => ?_) ht
  subst ex
  obtain rfl : u = Value.ref a := rx
  refine getmeth_ok I1 ea c hm l ?_
  exact PySem.W.callWith_K0 (first := [.ref a]) I1.kIn hm.kp (run_fnD (us := [.ref a]) (vs := [.ref a]) F hr hb hd (hx σ) I1 (.cons rfl .nil) q)
end
/-- an error's class without an __init__ of its own -/
def Err0 (K : PySem.W.Frag) (mg : Str → Option Value) (C : Addr) (x : Str) : Prop :=
  ∃ (bmB : List Value) (B newId initId : String), ExcBaseFacts B newId initId bmB ∧ PySem.W.excIn K C bmB newId = true ∧ mg x = some (.ref C) ∧ PySem.W.keepIn K (.ref C) = true ∧ PySem.W.subIn K (.ref C) (.type "BaseException") = some true ∧ PySem.W.typeIn K (.ref C) = some (.type "type")
/-- X() -/
theorem pmk_err0 {X : Cx} {C : Addr} {x : Str} {p pos : Pos} (F : Err0 X.K X.mg C x) (hg : Gl X x := by rfl) (hdb : (x == ("__debug__" : Str)) = false := by decide) :
    PMk X (.Call (.Name x p) [] [] pos) (fun _ H Q => Q (.ref C) none H) := by
  obtain ⟨bmB, B, newId, initId, F, q, gC, kC, r1, r2⟩ := F
  intro pins s σ H Q I h
  refine wpAny_Call_Name_kw (ld_glob I hg gC ?_ hdb)
  refine PySem.W.callWith_K0 I.kIn kC ?_
  obtain ⟨hp, g, d, t, os⟩ := s
  obtain ⟨bm, N, nm, qn, bs, hdct, sn, sub, ab, col, dd, k0, k1, k2, k3, k5, mN, hC, hN, hni, T⟩ := exc_obj I.kIn q
  refine wpAny_call_exc_subT F T hC hN hni (fun h' e hm => ?_) (by show 0 ≤ sizeLine; exact Nat.zero_le _)
  exact mk_of I hm (raises_own r1 r2) h (I.hok.gone hm.new)
/-- an error's class with an __init__ that keeps the promise sp -/
def Err1 (P : Program) (w : World) (K : PySem.W.Frag) (mg : Str → Option Value) (base : Heap) (k : Nat) (C : Addr) (x : Str) (ps : List Str) (dvs : List V) (sp : Sp) : Prop :=
  ∃ (fI : Addr) (fd : FuncData) (ds : List Value), OexC K C ∧ PySem.W.findIn K (.ref C) "__init__" = some (some (.ref fI)) ∧ PySem.W.typeIn K (.ref fI) = some (.type "function") ∧ mg x = some (.ref C) ∧ Binds K fd ps ds ∧ Vals dvs ds ∧ FnOk P w K mg base CX0 k fI fd ps sp
theorem pmk_err1 {X : Cx} {C : Addr} {x : Str} {p pos : Pos} {k : Nat} {ps : List Str} {dvs : List V} {sp : Sp} {e : Expr} {es : List Expr} {ta : TA} (F : Err1 X.prog X.w X.K X.mg X.base k C x ps dvs sp) (hr : Room (k + 1) X.A) (ha : PA X (e :: es) ta) (hg : Gl X x := by rfl)
    (hdb : (x == ("__debug__" : Str)) = false := by decide) (he : starEach (e :: es) X.env = (false, eval e X.env) :: starEach es X.env := by rfl) (hpl : (backTo pos (starEach es X.env)).any (·.1) = false := by rfl) :
    PMk X (.Call (.Name x p) (e :: es) [] pos) (tMkO C sp dvs ta) := by
  obtain ⟨fI, fd, ds, T, iC, tI, hm, hb, hd, F1⟩ := F
  exact pmk_oex T iC tI F1 hr hb hd (fun _ _ _ _ _ _ _ z => z.elim) hg hm ha hdb he hpl
end Sg
end
section
set_option maxRecDepth 100000
set_option maxHeartbeats 4000000
/-! An error's __init__ that keeps what it is handed in one field. -/
namespace Sg
open PySem PySem.Spec PyProof.Rows L2 Evl
/-- __init__(self, f): self.f = f -/
def spInit (K : PySem.W.Frag) (C : Addr) (f : Str) : Sp := fun vs H Q _ => ∃ (a : Addr) (v : V), vs = [.ref a, v] ∧ OexC K C ∧ PySem.W.findIn K (.ref C) f = some none ∧ H a = some (exo a C none) ∧
  ∀ dx, H dx = none → dx ≠ a → Q .non (upd (upd H dx (exd dx [(f, v)])) a (exo a C (some dx)))
theorem spInit_len {K : PySem.W.Frag} {C : Addr} {f : Str} : ∀ vs H Q E, spInit K C f vs H Q E → vs.length = 2 := fun vs H Q E h => by
  obtain ⟨a, v, rfl, _⟩ := h
  rfl
/-- what the making of such an error asks -/
theorem mkO_at {K : PySem.W.Frag} {C : Addr} {f : Str} {v : V} {vs : List V} {H1 : Hp} {Q : XK} (T : OexC K C) (hf : PySem.W.findIn K (.ref C) f = some none) (hv : vs = [v]) (k : ∀ d, H1 d = none → Q (.ref C) (some d) (upd H1 d (.xd [(f, v)]))) :
    vs.length ≤ 1000 ∧ ∀ a, H1 a = none → spInit K C f (.ref a :: (vs ++ [])) (upd H1 a (exo a C none))
      (fun v H2 => v = .non ∧ ∃ (d : Addr) (fs : List (Str × V)), H2 a = some (exo a C (some d)) ∧ H2 d = some (exd d fs) ∧ H1 d = none ∧ Q (.ref C) (some d) (upd (del H2 a) d (.xd fs))) (fun _ _ _ => False) := by
  subst hv
  refine ⟨by show 1 ≤ 1000; decide, fun a ha => ⟨a, v, rfl, T, hf, upd_same, fun dx hd hne => ⟨rfl, dx, [(f, v)], upd_same, ?_, ?_, ?_⟩⟩⟩
  · rw [upd_ne hne, upd_same]
  · rw [upd_ne hne] at hd
    exact hd
  · rw [upd_ne hne] at hd
    have e : upd (del (upd (upd (upd H1 a (exo a C none)) dx (exd dx [(f, v)])) a (exo a C (some dx))) a) dx (.xd [(f, v)]) = upd H1 dx (.xd [(f, v)]) := by
      funext b
      by_cases hb : b = dx
      · rw [hb, upd_same, upd_same]
      · rw [upd_ne hb, upd_ne hb]
        by_cases ha' : b = a
        · rw [ha', del_same, ha]
        · rw [del_ne ha', upd_ne ha', upd_ne hb, upd_ne ha']
    rw [e]
    exact k dx hd
theorem call_isTK {X : Cx} {K : PySem.W.Frag} (h : X.K = K := by rfl) : CallR X (.builtin "isinstance") (rIsT K) := by
  subst h
  exact call_isT
theorem pe_xfTK {X : Cx} {K : PySem.W.Frag} {e : Expr} {te : TE} {pos : Pos} {n : Str} (he : PE X e te) (hb : attributeBase e n X.env (eval e X.env) = eval e X.env := by rfl) (h : X.K = K := by rfl) :
    PE X (.Attribute e n pos) (tXfT K n te) := by
  subst h
  exact pe_xfT he hb
end Sg
end
section
set_option maxRecDepth 100000
set_option maxHeartbeats 4000000
/-! The forms of data: is_whole .. is_deed, each by what it tells. -/
namespace Sg
open PySem PySem.Spec PyProof.Rows L2 Evl
def topS (i : Nat) : Stmt := PySem.Challenge.pw_saidground_k23_doors_of_a_hand.main.body.getD i (.Pass ⟨0, 0, 0, 0⟩)
/-- what the forms ask of the module's names -/
structure Mg (mg : Str → Option Value) : Prop where
  m_isinstance : mg "isinstance" = none
  m_int : mg "int" = none
  m_bool : mg "bool" = none
  m_str : mg "str" = none
  m_tuple : mg "tuple" = none
  m_list : mg "list" = none
  m_len : mg "len" = none
  m_all : mg "all" = none
  m_any : mg "any" = none
  m_range : mg "range" = none
  m_enumerate : mg "enumerate" = none
  c_SIGNS : ∃ u, mg "SIGNS" = some u ∧ RelV (.str "abcdefghijklmnopqrstuvwxyz") u
  c_LONGEST : ∃ u, mg "LONGEST" = some u ∧ RelV (.int 8) u
  c_FEWEST_HANDS : ∃ u, mg "FEWEST_HANDS" = some u ∧ RelV (.int 2) u
  c_MOST_HANDS : ∃ u, mg "MOST_HANDS" = some u ∧ RelV (.int 5) u

def is_int : PyData → Bool
  | .int _ => true
  | .bool _ => true
  | _ => false
theorem kit_int : ∀ d, kitB (tyD d) "int" = some (is_int d)
  | .none => (by decide +kernel : kitB "NoneType" "int" = some false)
  | .bool _ => (by decide +kernel : kitB "bool" "int" = some true)
  | .int _ => (by decide +kernel : kitB "int" "int" = some true)
  | .str _ => (by decide +kernel : kitB "str" "int" = some false)
  | .list _ => (by decide +kernel : kitB "list" "int" = some false)
  | .tuple _ => (by decide +kernel : kitB "tuple" "int" = some false)
  | .dict _ => (by decide +kernel : kitB "dict" "int" = some false)
def is_bool : PyData → Bool
  | .bool _ => true
  | _ => false
theorem kit_bool : ∀ d, kitB (tyD d) "bool" = some (is_bool d)
  | .none => (by decide +kernel : kitB "NoneType" "bool" = some false)
  | .bool _ => (by decide +kernel : kitB "bool" "bool" = some true)
  | .int _ => (by decide +kernel : kitB "int" "bool" = some false)
  | .str _ => (by decide +kernel : kitB "str" "bool" = some false)
  | .list _ => (by decide +kernel : kitB "list" "bool" = some false)
  | .tuple _ => (by decide +kernel : kitB "tuple" "bool" = some false)
  | .dict _ => (by decide +kernel : kitB "dict" "bool" = some false)
def is_str : PyData → Bool
  | .str _ => true
  | _ => false
theorem kit_str : ∀ d, kitB (tyD d) "str" = some (is_str d)
  | .none => (by decide +kernel : kitB "NoneType" "str" = some false)
  | .bool _ => (by decide +kernel : kitB "bool" "str" = some false)
  | .int _ => (by decide +kernel : kitB "int" "str" = some false)
  | .str _ => (by decide +kernel : kitB "str" "str" = some true)
  | .list _ => (by decide +kernel : kitB "list" "str" = some false)
  | .tuple _ => (by decide +kernel : kitB "tuple" "str" = some false)
  | .dict _ => (by decide +kernel : kitB "dict" "str" = some false)
def is_tuple : PyData → Bool
  | .tuple _ => true
  | _ => false
theorem kit_tuple : ∀ d, kitB (tyD d) "tuple" = some (is_tuple d)
  | .none => (by decide +kernel : kitB "NoneType" "tuple" = some false)
  | .bool _ => (by decide +kernel : kitB "bool" "tuple" = some false)
  | .int _ => (by decide +kernel : kitB "int" "tuple" = some false)
  | .str _ => (by decide +kernel : kitB "str" "tuple" = some false)
  | .list _ => (by decide +kernel : kitB "list" "tuple" = some false)
  | .tuple _ => (by decide +kernel : kitB "tuple" "tuple" = some true)
  | .dict _ => (by decide +kernel : kitB "dict" "tuple" = some false)
def is_list : PyData → Bool
  | .list _ => true
  | _ => false
theorem kit_list : ∀ d, kitB (tyD d) "list" = some (is_list d)
  | .none => (by decide +kernel : kitB "NoneType" "list" = some false)
  | .bool _ => (by decide +kernel : kitB "bool" "list" = some false)
  | .int _ => (by decide +kernel : kitB "int" "list" = some false)
  | .str _ => (by decide +kernel : kitB "str" "list" = some false)
  | .list _ => (by decide +kernel : kitB "list" "list" = some true)
  | .tuple _ => (by decide +kernel : kitB "tuple" "list" = some false)
  | .dict _ => (by decide +kernel : kitB "dict" "list" = some false)

/-! ### data of a size that may be -/
mutual
def fitD : PyData → Bool
  | .str s => decide (s.length ≤ 30000)
  | .list ds => decide (ds.length ≤ 30000) && fitAll ds
  | .tuple ds => decide (ds.length ≤ 30000) && fitAll ds
  | .dict _ => false
  | _ => true
def fitAll : List PyData → Bool
  | [] => true
  | d :: ds => fitD d && fitAll ds
end
theorem fitAll_mem : ∀ {ds : List PyData} {d : PyData}, fitAll ds = true → d ∈ ds → fitD d = true
  | x :: r, d, h, hm => by
    have h' : fitD x = true ∧ fitAll r = true := by simpa [fitAll] using h
    rcases List.mem_cons.mp hm with rfl | hm
    · exact h'.1
    · exact fitAll_mem h'.2 hm
/-- data that may be handed in -/
def OkD (d : PyData) : Prop := fitD d = true ∧ SeqAt.shaped d = true
theorem OkD.mem {ds : List PyData} {d : PyData} (h : OkD (.tuple ds)) (hm : d ∈ ds) : OkD d := by
  obtain ⟨h1, h2⟩ := h
  have f1 : decide (ds.length ≤ 30000) = true ∧ fitAll ds = true := by simpa [fitD] using h1
  have c1 : PyData.canLayAll0 ds = true := SeqAt.canLay_of_shaped h2
  have p1 := SeqAt.depth_of_shaped h2
  have p2 : PyData.depthAll ds + 1 ≤ 64 := by simpa only [PyData.depth] using p1
  have p3 := PyData.depth_le_depthAll ds d hm
  refine ⟨fitAll_mem f1.2 hm, ?_⟩
  show (d.canLay0 && decide (d.depth ≤ 64)) = true
  rw [Bool.and_eq_true]
  exact ⟨PyData.canLay0_of_mem ds d c1 hm, decide_eq_true (by omega)⟩
theorem OkD.len {ds : List PyData} (h : OkD (.tuple ds)) : ds.length ≤ 30000 := by
  have f1 : decide (ds.length ≤ 30000) = true ∧ fitAll ds = true := by simpa [fitD] using h.1
  exact of_decide_eq_true f1.1
theorem OkD.slen {s : Str} (h : OkD (.str s)) : s.length ≤ 30000 := by
  have f1 : decide (s.length ≤ 30000) = true := by simpa [fitD] using h.1
  exact of_decide_eq_true f1

/-! ### what the forms tell -/
def isWhole : PyData → Int → Bool
  | .int i, n => decide (n ≤ i)
  | _, _ => false
def signs : Str := "abcdefghijklmnopqrstuvwxyz"
def lenWord : PyData → Bool
  | .str s => decide (1 ≤ s.length) && decide (s.length ≤ 8)
  | _ => false
def isWordS (s : Str) : Bool := (decide (1 ≤ s.length) && decide (s.length ≤ 8)) && s.cps.toList.all fun c => decide (c ∈ signs.cps.toList)
def isWord : PyData → Bool
  | .str s => isWordS s
  | _ => false
/-- each of a row and the next one -/
def pairsB {α : Type} (r : α → α → Bool) : List α → Bool
  | a :: b :: t => r a b && pairsB r (b :: t)
  | _ => true
abbrev ltD (d e : PyData) : Bool := PySem.W.dataLt d e
def isWords : PyData → Bool
  | .tuple l => l.all isWord && pairsB ltD l
  | _ => false
def areHands : PyData → Bool
  | .tuple l => isWords (.tuple l) && (decide (2 ≤ l.length) && decide (l.length ≤ 5))
  | _ => false
def isRow (d : PyData) (n : Int) : Bool := match d with
  | .tuple l => ((l.length : Int) == n)
  | _ => false
def isLine : PyData → Bool
  | .tuple [a, b] => isWhole a 0 && isWords b
  | _ => false
def isDeed (hands : List PyData) : PyData → Bool
  | .tuple [kind, hand, what, last] =>
    if inD hand hands = false then false
    else if inD kind [.str "see", .str "look"] then isWhole what 0 && isWords last
    else if PyData.eqv kind (.str "one") then isWhole what 0 && isWhole last 0
    else if (!(inD what hands) || PyData.eqv what hand) then false
    else if PyData.eqv kind (.str "write") then match last with
      | .tuple l => l.all isLine
      | _ => false
    else PyData.eqv kind (.str "read") && isWhole last 1
  | _ => false
/-- a pair test over the places of a row -/
def atB {α : Type} (r : α → α → Bool) (l : List α) (k : Nat) : Bool := match l[k]?, l[k + 1]? with
  | some a, some b => r a b
  | _, _ => true
theorem atB_eq {α : Type} {r : α → α → Bool} {l : List α} {k : Nat} {a b : α} (h : l[k]? = some a) (g : l[k + 1]? = some b) : atB r l k = r a b := by
  unfold atB
  rw [h, g]
theorem pairsB_at {α : Type} (r : α → α → Bool) : ∀ (l : List α), ((List.range (l.length - 1)).map (atB r l)).all id = pairsB r l
  | [] => rfl
  | [_] => rfl
  | a :: b :: t => by
    have ih := pairsB_at r (b :: t)
    show ((List.range (t.length + 1)).map _).all id = _
    rw [List.range_succ_eq_map, List.map_cons, List.all_cons, List.map_map]
    show (r a b && _) = (r a b && pairsB r (b :: t))
    rw [← ih]
    rfl

/-- the promises, by their names -/
abbrev spOf1 (K : PySem.W.Frag) (f : PyData → Bool) : Sp := spDD K 1 (fun ds => ∀ d ∈ ds, OkD d) fun ds => .bool (match ds with | [d] => f d | _ => false)
abbrev spOf2 (K : PySem.W.Frag) (f : PyData → PyData → Bool) : Sp := spDD K 2 (fun ds => ∀ d ∈ ds, OkD d) fun ds => .bool (match ds with | [d, e] => f d e | _ => false)
def asInt : PyData → Int
  | .int i => i
  | _ => 0
abbrev spWhole (K : PySem.W.Frag) : Sp := spDD K 2 (fun ds => ∃ d i, ds = [d, .int i]) fun ds => .bool (match ds with | [d, .int i] => isWhole d i | _ => false)
abbrev spRow (K : PySem.W.Frag) : Sp := spDD K 2 (fun ds => ∃ d i, ds = [d, .int i]) fun ds => .bool (match ds with | [d, .int i] => isRow d i | _ => false)
abbrev spRising (K : PySem.W.Frag) : Sp := spDD K 1 (fun ds => ∃ l, ds = [.tuple l] ∧ l.length ≤ 30000 ∧ (∀ x ∈ l, x ≠ .none ∧ x.depth ≤ 64) ∧ ∀ x ∈ l, ∀ y ∈ l, PySem.W.alike x y = true) fun ds => .bool (match ds with | [.tuple l] => pairsB ltD l | _ => false)
abbrev spDeed (K : PySem.W.Frag) : Sp := spDD K 2 (fun ds => ∃ d hs, ds = [d, .tuple hs] ∧ OkD d ∧ OkD (.tuple hs)) fun ds => .bool (match ds with | [d, .tuple hs] => isDeed hs d | _ => false)
section
variable {P : Program} {w : World} {K : PySem.W.Frag} {mg : Str → Option Value} {base : Heap}
abbrev Own (P : Program) (w : World) (K : PySem.W.Frag) (mg : Str → Option Value) (base : Heap) (k : Nat) (x : Str) (ps : List Str) (dvs : List V) (sp : Sp) : Prop := Okd P w K mg base CX0 k x ps dvs sp

abbrev s_is_whole : Stmt := topS 21
theorem sc_is_whole : FnScope ["thing", "least"] ["thing", "least"] (defScope s_is_whole) := ⟨rfl, rfl, rfl, by decide +kernel, rfl, by decide +kernel, by decide +kernel⟩

theorem ok_is_whole (M : Mg mg) {dvs : List V} {f : Addr} {fd : FuncData} (F : FunD K "is_whole" "is_whole" (defArgs s_is_whole) (defBody s_is_whole) (defScope s_is_whole) dvs [] f fd) : FnOk P w K mg base CX0 1 f fd ["thing", "least"] (spWhole K) := by
  refine F.ok sc_is_whole (fun vs H Q E h => spDD_len vs H Q E h) (fun cdv A outer s H1 vs Q E hr h => ?_)
  obtain ⟨H, ds, a, hd, hn, ok, q⟩ := h
  refine ⟨_, (pss_one (ps_ret (pe_and (pe_callB (call_isiK2 (K := K)) (by rfl) M.m_isinstance boot_isinstance (pa_cons (pv 0) (pa_cons (pe_bltn (v := .ty "int") (by rfl) M.m_int (by decide +kernel) rfl) pa_nil))) (pe_and (pe_not (pe_callB (call_isiK2 (K := K)) (by rfl) M.m_isinstance boot_isinstance (pa_cons (pv 0) (pa_cons (pe_bltn (v := .ty "bool") (by rfl) M.m_bool (by decide +kernel) rfl) pa_nil)))) (pe_one (pe_cmpR op_ge (pv 0) (pv 1) (nomark _))))))), ?_⟩
  obtain ⟨d, i, rfl⟩ := ok
  cases hd with
  | @cons v1 _ _ _ hd h2 =>
  cases h2 with
  | cons hi h3 =>
  cases h3
  cases hi
  have e : isWhole d i = (is_int d && (!is_bool d && isWhole d i)) := by cases d <;> rfl
  refine d_retB (b := isWhole d i) (ev_is (v := .bl (is_int d && (!is_bool d && isWhole d i))) (ev_andV (ev_isD (ed_var rfl hd) (kit_int d)) fun h1 => ev_andV (ev_notV (ev_isD (ed_var rfl hd) (kit_bool d))) fun h2 => ?_) (by rw [← e])) a q
  cases d with
  | int z =>
    cases hd
    exact ev_op (ev_var rfl) (ev_var rfl) rv_I0
  | bool b => cases h2
  | _ => cases h1

abbrev s_is_word : Stmt := topS 22
theorem sc_is_word : FnScope ["thing", "sign"] ["thing"] (defScope s_is_word) := ⟨rfl, rfl, rfl, by decide +kernel, rfl, by decide +kernel, by decide +kernel⟩

theorem ok_is_word (M : Mg mg)  {f : Addr} {fd : FuncData} (F : Fun K "is_word" "is_word" s_is_word f fd) : FnOk P w K mg base CX0 1 f fd ["thing"] (spOf1 K isWord) := by
  refine F.ok sc_is_word (fun vs H Q E h => spDD_len vs H Q E h) (fun cdv A outer s H1 vs Q E hr h => ?_)
  obtain ⟨H, ds, a, hd, hn, ok, q⟩ := h
  refine ⟨_, (pss_cons (ps_if (PW.pt (pw_or (pt_not (pt_val (pe_callB (call_isiK2 (K := K)) (by rfl) M.m_isinstance boot_isinstance (pa_cons (pv 0) (pa_cons (pe_bltn (v := .ty "str") (by rfl) M.m_str (by decide +kernel) rfl) pa_nil))))) (pw_or1 (pt_not (pt_chain op_le op_le pe_int (pe_callB (call_lenK (K := K)) (by rfl) M.m_len boot_len (pa_cons (pv 0) pa_nil)) (pe_cst M.c_LONGEST)))))) (pss_one (ps_ret pe_bl)) pss_nil)
      (pss_one (ps_ret (pe_callB (cr_allK (K := K) rfl) (by rfl) M.m_all boot_all (pa_cons (pe_lc (own := [("sign", 1)]) rfl sc_is_word.nd (pi_str (pv 0)) (blkOk_by (N := ["thing", "sign"]) (sc := defScope s_is_word) (by decide +kernel)) (fun _ _ _ _ _ => (pg_name (i := 1) sc_is_word.nd rfl (Or.inl rfl))) (fun _ _ _ _ _ => pts_nil) (fun _ _ _ _ _ => (pe_cmpR op_in_sign (pv 1) (pe_cst M.c_SIGNS) (by with_unfolding_all rfl)))) pa_nil))))), ?_⟩
  match ds, hn with
  | [d], _ =>
  have okd := ok d (by simp)
  cases hd with
  | cons hd h2 =>
  cases h2
  refine d_when (b := !(is_str d) || !(lenWord d)) (et_or (et_not (et_B (ev_isD (ed_var rfl hd) (kit_str d)))) fun h1 => et_not ?_) a (fun hb H2 e2 => ?_) (fun hb H2 e2 => ?_)
  · cases d with
    | str x =>
      exact et_is (et_chain (y := .int (x.length : Int)) (b := decide ((1 : Int) ≤ x.length)) (c := decide ((x.length : Int) ≤ 8)) ev_c (ev_lenS (ed_var rfl hd) (Nat.le_trans okd.slen (by decide))) rv_I0 (fun _ => ev_c) (fun _ => rv_I0)) (by
        show (decide ((1 : Int) ≤ x.length) && decide ((x.length : Int) ≤ 8)) = (decide (1 ≤ x.length) && decide (x.length ≤ 8))
        congr 1 <;> exact decide_eq_decide.mpr (by omega))
    | _ => cases h1
  · have e : isWord d = false := by
      cases d with
      | str x =>
        have hb : (!true || !(decide (1 ≤ x.length) && decide (x.length ≤ 8))) = true := hb
        have e3 : (decide (1 ≤ x.length) && decide (x.length ≤ 8)) = false := by
          rw [Bool.not_true, Bool.false_or] at hb
          exact Bool.not_eq_true' _ |>.mp hb
        show ((decide (1 ≤ x.length) && decide (x.length ≤ 8)) && _) = false
        rw [e3, Bool.false_and]
      | _ => rfl
    refine d_retB (b := isWord d) (by rw [e]; exact ev_c) (a.trans e2) fun v N H3 g hv => q v N H3 (g.ahead e2) hv
  · cases d with
    | str x =>
      have hb : (!true || !(decide (1 ≤ x.length) && decide (x.length ≤ 8))) = false := hb
      have e3 : (decide (1 ≤ x.length) && decide (x.length ≤ 8)) = true := by simpa using hb
      have e : isWord (.str x) = ((x.cps.toList.map fun c => decide (c ∈ signs.cps.toList)).all id) := by
        show ((decide (1 ≤ x.length) && decide (x.length ≤ 8)) && _) = _
        rw [e3, Bool.true_and, List.all_map]
        rfl
      have el : x.cps.toList.length = x.cps.size := Array.length_toList
      cases hd
      refine d_retB (b := isWord (.str x)) ?_ (a.trans e2) fun v N H3 g hv => q v N H3 (g.ahead e2) hv
      rw [e]
      refine ev_allD ?_
      rw [List.map_map]
      refine ed_mapN x.cps.toList _ (by rw [el]; exact Nat.le_trans okd.slen (by decide)) (wd_str (ev_var rfl)) (fun _ => rfl) fun i y c N e2 hc hy => ?_
      obtain ⟨c', hc', rfl⟩ := hy
      cases hc.symm.trans hc'
      exact ed_of (ev_op (ev_var rfl) ev_c (rv_val fun H3 e3 Q q => ⟨c, signs, rfl, rfl, q⟩)) (.bl _)
    | _ => cases hb

/-- what calls of such defs give -/
theorem ev_own1 {σ : L2.St} {H : Hp} {ta : TA} {E : XK} {f : PyData → Bool} {d : PyData} (h : EvDs K ta σ H [d]) (hd : OkD d) : Ev (tCall (spOf1 K f) [] E ta) σ H (.bl (f d)) :=
  EvD.bl (ed_call0 (n := 1) (ok := fun ds => ∀ d ∈ ds, OkD d) (f := fun ds => .bool (match ds with | [d] => f d | _ => false)) h rfl fun x hx => by
    rcases List.mem_cons.mp hx with rfl | hx
    · exact hd
    · cases hx)
theorem ev_own2 {σ : L2.St} {H : Hp} {ta : TA} {E : XK} {f : PyData → PyData → Bool} {d e : PyData} (h : EvDs K ta σ H [d, e]) (hd : OkD d) (he : OkD e) : Ev (tCall (spOf2 K f) [] E ta) σ H (.bl (f d e)) :=
  EvD.bl (ed_call0 (n := 2) (ok := fun ds => ∀ d ∈ ds, OkD d) (f := fun ds => .bool (match ds with | [d, e] => f d e | _ => false)) h rfl fun x hx => by
    rcases List.mem_cons.mp hx with rfl | hx
    · exact hd
    · rcases List.mem_cons.mp hx with rfl | hx
      · exact he
      · cases hx)
theorem ev_row {σ : L2.St} {H : Hp} {ta : TA} {E : XK} {d : PyData} {i : Int} (h : EvDs K ta σ H [d, .int i]) : Ev (tCall (spRow K) [] E ta) σ H (.bl (isRow d i)) :=
  EvD.bl (ed_call0 (n := 2) (ok := fun ds => ∃ d i, ds = [d, .int i]) (f := fun ds => .bool (match ds with | [d, .int i] => isRow d i | _ => false)) h rfl ⟨d, i, rfl⟩)
theorem ev_whole {σ : L2.St} {H : Hp} {ta : TA} {E : XK} {d : PyData} {i : Int} (h : EvDs K ta σ H [d, .int i]) : Ev (tCall (spWhole K) [] E ta) σ H (.bl (isWhole d i)) :=
  EvD.bl (ed_call0 (n := 2) (ok := fun ds => ∃ d i, ds = [d, .int i]) (f := fun ds => .bool (match ds with | [d, .int i] => isWhole d i | _ => false)) h rfl ⟨d, i, rfl⟩)
/-- .. the least one left out: nought -/
theorem ev_whole1 {σ : L2.St} {H : Hp} {ta : TA} {E : XK} {d : PyData} (h : EvDs K ta σ H [d]) : Ev (tCall (spWhole K) [.int 0] E ta) σ H (.bl (isWhole d 0)) :=
  EvD.bl (ed_call (n := 2) (ok := fun ds => ∃ d i, ds = [d, .int i]) (f := fun ds => .bool (match ds with | [d, .int i] => isWhole d i | _ => false)) (des := [.int 0]) h (.cons (.int 0) .nil) rfl ⟨d, 0, rfl⟩)
theorem ev_rising {σ : L2.St} {H : Hp} {ta : TA} {E : XK} {l : List PyData} (h : EvDs K ta σ H [.tuple l]) (hl : l.length ≤ 30000) (hs : ∀ x ∈ l, x ≠ .none ∧ x.depth ≤ 64) (ha : ∀ x ∈ l, ∀ y ∈ l, PySem.W.alike x y = true) : Ev (tCall (spRising K) [] E ta) σ H (.bl (pairsB ltD l)) :=
  EvD.bl (ed_call0 (n := 1) (ok := fun ds => ∃ l, ds = [.tuple l] ∧ l.length ≤ 30000 ∧ (∀ x ∈ l, x ≠ .none ∧ x.depth ≤ 64) ∧ ∀ x ∈ l, ∀ y ∈ l, PySem.W.alike x y = true) (f := fun ds => .bool (match ds with | [.tuple l] => pairsB ltD l | _ => false)) h rfl ⟨l, rfl, hl, hs, ha⟩)
theorem isWord_str {d : PyData} (h : isWord d = true) : ∃ s, d = .str s := by
  cases d with
  | str s => exact ⟨s, rfl⟩
  | _ => cases h
/-- one argument, two -/
theorem eds1 {σ : L2.St} {H : Hp} {te : TE} {d : PyData} (h : EvD K te σ H d) : EvDs K (tCons te tNil) σ H [d] := eds_cons h fun _ _ => eds_nil
theorem eds2 {σ : L2.St} {H : Hp} {te tf : TE} {d e : PyData} (h : EvD K te σ H d) (g : ∀ N, Ex H N → EvD K tf σ N e) : EvDs K (tCons te (tCons tf tNil)) σ H [d, e] := eds_cons h fun N a => eds1 (g N a)

abbrev s_is_rising : Stmt := topS 23
theorem sc_is_rising : FnScope ["row", "k"] ["row"] (defScope s_is_rising) := ⟨rfl, rfl, rfl, by decide +kernel, rfl, by decide +kernel, by decide +kernel⟩

theorem ok_is_rising (M : Mg mg)  {f : Addr} {fd : FuncData} (F : Fun K "is_rising" "is_rising" s_is_rising f fd) : FnOk P w K mg base CX0 1 f fd ["row"] (spRising K) := by
  refine F.ok sc_is_rising (fun vs H Q E h => spDD_len vs H Q E h) (fun cdv A outer s H1 vs Q E hr h => ?_)
  obtain ⟨H, ds, a, hd, hn, ok, q⟩ := h
  refine ⟨_, (pss_one (ps_ret (pe_callB (cr_allK (K := K) rfl) (by rfl) M.m_all boot_all (pa_cons (pe_lc (own := [("k", 1)]) rfl sc_is_rising.nd (pi_range1 (by rfl) M.m_range (pa_cons (pe_op op_sub (pe_callB (call_lenK (K := K)) (by rfl) M.m_len boot_len (pa_cons (pv 0) pa_nil)) pe_int) pa_nil)) (blkOk_by (N := ["row", "k"]) (sc := defScope s_is_rising) (by decide +kernel)) (fun _ _ _ _ _ => (pg_name (i := 1) sc_is_rising.nd rfl (Or.inl rfl))) (fun _ _ _ _ _ => pts_nil) (fun _ _ _ _ _ => (pe_cmpR (op_ltDK (K := K) hr.units) (pe_ix (ix_tupK (K := K)) (pv 0) (pv 1) (fun _ _ => rfl)) (pe_ix (ix_tupK (K := K)) (pv 0) (pe_op op_add (pv 1) pe_int) (fun _ _ => rfl)) (nomark _)))) pa_nil)))), ?_⟩
  obtain ⟨l, rfl, hz, hs, ha⟩ := ok
  cases hd with
  | cons hd h2 =>
  cases h2
  refine d_retB (b := pairsB ltD l) ?_ a q
  rw [← pairsB_at ltD l]
  refine ev_allD ?_
  rw [List.map_map]
  have en : (List.range (l.length - 1)).length = ((l.length : Int) - 1).toNat := by
    rw [List.length_range]
    omega
  refine ed_mapN (P := fun _ i x => x = .int (i : Int)) (List.range (l.length - 1)) _ (by rw [List.length_range]; omega) (by rw [en]; exact wd_rng (ea_cons (ev_op (ev_lenT (ed_var rfl hd)) ev_c rv_I0) ea_nil) (by omega)) (fun _ => rfl) fun i x y N e hy hx => ?_
  subst hx
  obtain ⟨hi, rfl⟩ := List.getElem?_eq_some_iff.mp hy
  rw [List.length_range] at hi
  rw [List.getElem_range]
  have h0 : i < l.length := by omega
  have h1 : i + 1 < l.length := by omega
  have g1 : l[i]? = some l[i] := List.getElem?_eq_getElem h0
  have g2 : l[i + 1]? = some l[i + 1] := List.getElem?_eq_getElem h1
  refine ed_is (d := .bool (ltD l[i] l[i + 1])) ?_ (congrArg PyData.bool (atB_eq (r := ltD) g1 g2).symm)
  exact ed_of (ev_ltD (ed_ixT (j := i) (ed_var rfl (hd.ex e)) (fun _ _ => ev_var rfl) rfl g1) (fun N2 e2 => ed_ixT (j := i + 1) (ed_var rfl (hd.ex (e.trans e2))) (fun _ _ => ev_op (ev_var rfl) ev_c rv_I0) (by omega) g2) (ha _ (List.getElem_mem h0) _ (List.getElem_mem h1)) (hs _ (List.getElem_mem h0)).1 (hs _ (List.getElem_mem h0)).2) (.bl _)

abbrev s_is_words : Stmt := topS 24
theorem sc_is_words : FnScope ["thing", "word"] ["thing"] (defScope s_is_words) := ⟨rfl, rfl, rfl, by decide +kernel, rfl, by decide +kernel, by decide +kernel⟩

theorem ok_is_words (M : Mg mg) (G_is_word : Own P w K mg base 1 "is_word" ["thing"] [] (spOf1 K isWord)) (G_is_rising : Own P w K mg base 1 "is_rising" ["row"] [] (spRising K)) {f : Addr} {fd : FuncData} (F : Fun K "is_words" "is_words" s_is_words f fd) : FnOk P w K mg base CX0 2 f fd ["thing"] (spOf1 K isWords) := by
  refine F.ok sc_is_words (fun vs H Q E h => spDD_len vs H Q E h) (fun cdv A outer s H1 vs Q E hr h => ?_)
  obtain ⟨H, ds, a, hd, hn, ok, q⟩ := h
  refine ⟨_, (pss_one (ps_ret (pe_and (pe_callB (call_isiK2 (K := K)) (by rfl) M.m_isinstance boot_isinstance (pa_cons (pv 0) (pa_cons (pe_bltn (v := .ty "tuple") (by rfl) M.m_tuple (by decide +kernel) rfl) pa_nil))) (pe_and (pe_callB (cr_allK (K := K) rfl) (by rfl) M.m_all boot_all (pa_cons (pe_lc (own := [("word", 1)]) rfl sc_is_words.nd (pi_tupK (K := K) (pv 0)) (blkOk_by (N := ["thing", "word"]) (sc := defScope s_is_words) (by decide +kernel)) (fun _ _ _ _ _ => (pg_name (i := 1) sc_is_words.nd rfl (Or.inl rfl))) (fun _ _ _ _ _ => pts_nil) (fun _ _ _ _ _ => (pe_own G_is_word (hr.mono (by decide)) (pa_cons (pv 1) pa_nil) pass0))) pa_nil)) (pe_one (pe_own G_is_rising (hr.mono (by decide)) (pa_cons (pv 0) pa_nil) pass0)))))), ?_⟩
  match ds, hn with
  | [d], _ =>
  have okd := ok d (by simp)
  cases hd with
  | cons hd h2 =>
  cases h2
  cases d with
  | tuple l =>
    refine d_retB (b := isWords (.tuple l)) ?_ a q
    refine ev_is (v := .bl (true && (l.all isWord && pairsB ltD l))) (ev_andV (ev_isD (ed_var rfl hd) (kit_tuple _)) fun _ => ev_andV ?_ fun h2 => ?_) rfl
    · have e : l.all isWord = (l.map isWord).all id := by rw [List.all_map]; rfl
      rw [e]
      refine ev_allD ?_
      rw [List.map_map]
      refine ed_mapN l _ (Nat.le_trans okd.len (by decide)) (wd_tup (ed_var rfl hd)) (fun _ => rfl) fun i x y N e1 hy hx => ?_
      obtain ⟨y', hy', hx⟩ := hx
      cases hy.symm.trans hy'
      exact ed_of (ev_own1 (eds1 (ed_var rfl hx)) (okd.mem (List.mem_of_getElem? hy))) (.bl _)
    · refine ev_rising (eds1 (ed_var rfl hd)) okd.len (fun x hx => ?_) fun x hx y hy => ?_
      · obtain ⟨s, rfl⟩ := isWord_str (List.all_eq_true.mp h2 x hx)
        exact ⟨(fun z => by cases z), Nat.zero_le _⟩
      · obtain ⟨s, rfl⟩ := isWord_str (List.all_eq_true.mp h2 x hx)
        obtain ⟨t, rfl⟩ := isWord_str (List.all_eq_true.mp h2 y hy)
        rfl
  | _ => exact d_retB (b := false) (ev_is (v := .bl (false && false)) (ev_andV (ev_isD (ed_var rfl hd) (kit_tuple _)) fun h => by cases h) rfl) a q

abbrev s_are_hands : Stmt := topS 25
theorem sc_are_hands : FnScope ["thing"] ["thing"] (defScope s_are_hands) := ⟨rfl, rfl, rfl, by decide +kernel, rfl, by decide +kernel, by decide +kernel⟩

theorem ok_are_hands (M : Mg mg) (G_is_words : Own P w K mg base 2 "is_words" ["thing"] [] (spOf1 K isWords)) {f : Addr} {fd : FuncData} (F : Fun K "are_hands" "are_hands" s_are_hands f fd) : FnOk P w K mg base CX0 3 f fd ["thing"] (spOf1 K areHands) := by
  refine F.ok sc_are_hands (fun vs H Q E h => spDD_len vs H Q E h) (fun cdv A outer s H1 vs Q E hr h => ?_)
  obtain ⟨H, ds, a, hd, hn, ok, q⟩ := h
  refine ⟨_, (pss_one (ps_ret (pe_and (pe_own G_is_words (hr.mono (by decide)) (pa_cons (pv 0) pa_nil) pass0) (pe_one (pe_chain op_le op_le (pe_cst M.c_FEWEST_HANDS) (pe_callB (call_lenK (K := K)) (by rfl) M.m_len boot_len (pa_cons (pv 0) pa_nil)) (pe_cst M.c_MOST_HANDS)))))), ?_⟩
  match ds, hn with
  | [d], _ =>
  have okd := ok d (by simp)
  cases hd with
  | cons hd h2 =>
  cases h2
  cases d with
  | tuple l =>
    refine d_retB (b := areHands (.tuple l)) ?_ a q
    refine ev_andV (ev_own1 (eds1 (ed_var rfl hd)) okd) fun _ => ?_
    refine ev_is (ev_chain (y := .int (l.length : Int)) (b := decide ((2 : Int) ≤ l.length)) (c := decide ((l.length : Int) ≤ 5)) ev_c (ev_lenT (ed_var rfl hd)) rv_I0 (fun _ => ev_c) (fun _ => rv_I0)) ?_
    congr 2 <;> exact decide_eq_decide.mpr (by omega)
  | _ => exact d_retB (b := false) (ev_is (v := .bl (false && false)) (ev_andV (ev_own1 (eds1 (ed_var rfl hd)) okd) fun h => by cases h) rfl) a q

abbrev s_is_row : Stmt := topS 26
theorem sc_is_row : FnScope ["thing", "many"] ["thing", "many"] (defScope s_is_row) := ⟨rfl, rfl, rfl, by decide +kernel, rfl, by decide +kernel, by decide +kernel⟩

theorem ok_is_row (M : Mg mg)  {f : Addr} {fd : FuncData} (F : Fun K "is_row" "is_row" s_is_row f fd) : FnOk P w K mg base CX0 1 f fd ["thing", "many"] (spRow K) := by
  refine F.ok sc_is_row (fun vs H Q E h => spDD_len vs H Q E h) (fun cdv A outer s H1 vs Q E hr h => ?_)
  obtain ⟨H, ds, a, hd, hn, ok, q⟩ := h
  refine ⟨_, (pss_one (ps_ret (pe_and (pe_callB (call_isiK2 (K := K)) (by rfl) M.m_isinstance boot_isinstance (pa_cons (pv 0) (pa_cons (pe_bltn (v := .ty "tuple") (by rfl) M.m_tuple (by decide +kernel) rfl) pa_nil))) (pe_one (pe_cmpR (op_eqDK (K := K) hr.units) (pe_callB (call_lenK (K := K)) (by rfl) M.m_len boot_len (pa_cons (pv 0) pa_nil)) (pv 1) (nomark _)))))), ?_⟩
  obtain ⟨d, i, rfl⟩ := ok
  cases hd with
  | @cons v1 _ _ _ hd h2 =>
  cases h2 with
  | cons hi h3 =>
  cases h3
  cases hi
  cases d with
  | tuple l =>
    refine d_retB (b := isRow (.tuple l) i) ?_ a q
    refine ev_is (v := .bl (true && isRow (.tuple l) i)) (ev_andV (ev_isD (ed_var rfl hd) (kit_tuple _)) fun _ => ?_) rfl
    exact ev_eqD (d := .int (l.length : Int)) (e := .int i) (ed_of (ev_lenT (ed_var rfl hd)) (.int _)) (fun N e => ed_var rfl (.int i)) rfl rfl
  | _ => exact d_retB (b := false) (ev_is (v := .bl (false && false)) (ev_andV (ev_isD (ed_var rfl hd) (kit_tuple _)) fun h => by cases h) rfl) a q

/-- a row of two, of four -/
theorem row2 {d : PyData} (h : isRow d 2 = true) : ∃ x y, d = .tuple [x, y] := by
  cases d with
  | tuple l =>
    have h : ((l.length : Int) == 2) = true := h
    have e : (l.length : Int) = 2 := by simpa using h
    match l, e with
    | [x, y], _ => exact ⟨x, y, rfl⟩
    | [], e => simp at e
    | [_], e => simp at e
    | _ :: _ :: _ :: r, e =>
      simp at e
      omega
  | _ => cases h
theorem row4 {d : PyData} (h : isRow d 4 = true) : ∃ x y z t, d = .tuple [x, y, z, t] := by
  cases d with
  | tuple l =>
    have h : ((l.length : Int) == 4) = true := h
    have e : (l.length : Int) = 4 := by simpa using h
    match l, e with
    | [x, y, z, t], _ => exact ⟨x, y, z, t, rfl⟩
    | [], e => simp at e
    | [_], e => simp at e
    | [_, _], e => simp at e
    | [_, _, _], e => simp at e
    | _ :: _ :: _ :: _ :: _ :: r, e =>
      simp at e
      omega
  | _ => cases h
theorem isLine_no {d : PyData} (h : isRow d 2 = false) : isLine d = false := by
  cases d with
  | tuple l =>
    match l with
    | [x, y] => cases h
    | [] => rfl
    | [_] => rfl
    | _ :: _ :: _ :: r => rfl
  | _ => rfl
theorem isDeed_eq (hs : List PyData) (kind hand what last : PyData) : isDeed hs (.tuple [kind, hand, what, last]) =
    if inD hand hs = false then false
    else if inD kind [.str "see", .str "look"] then isWhole what 0 && isWords last
    else if PyData.eqv kind (.str "one") then isWhole what 0 && isWhole last 0
    else if (!(inD what hs) || PyData.eqv what hand) then false
    else if PyData.eqv kind (.str "write") then match last with
      | .tuple l => l.all isLine
      | _ => false
    else PyData.eqv kind (.str "read") && isWhole last 1 := rfl
theorem isDeed_no {hs : List PyData} {d : PyData} (h : isRow d 4 = false) : isDeed hs d = false := by
  cases d with
  | tuple l =>
    match l with
    | [x, y, z, t] => cases h
    | [] => rfl
    | [_] => rfl
    | [_, _] => rfl
    | [_, _, _] => rfl
    | _ :: _ :: _ :: _ :: _ :: r => rfl
  | _ => rfl

abbrev s_is_line : Stmt := topS 27
theorem sc_is_line : FnScope ["thing"] ["thing"] (defScope s_is_line) := ⟨rfl, rfl, rfl, by decide +kernel, rfl, by decide +kernel, by decide +kernel⟩

theorem ok_is_line (M : Mg mg) (G_is_row : Own P w K mg base 1 "is_row" ["thing", "many"] [] (spRow K)) (G_is_whole1 : Own P w K mg base 1 "is_whole" ["thing", "least"] [.int 0] (spWhole K)) (G_is_words : Own P w K mg base 2 "is_words" ["thing"] [] (spOf1 K isWords)) {f : Addr} {fd : FuncData} (F : Fun K "is_line" "is_line" s_is_line f fd) : FnOk P w K mg base CX0 3 f fd ["thing"] (spOf1 K isLine) := by
  refine F.ok sc_is_line (fun vs H Q E h => spDD_len vs H Q E h) (fun cdv A outer s H1 vs Q E hr h => ?_)
  obtain ⟨H, ds, a, hd, hn, ok, q⟩ := h
  refine ⟨_, (pss_one (ps_ret (pe_and (pe_own G_is_row (hr.mono (by decide)) (pa_cons (pv 0) (pa_cons pe_int pa_nil)) pass0) (pe_and (pe_own G_is_whole1 (hr.mono (by decide)) (pa_cons (pe_ix (ix_tupK (K := K)) (pv 0) pe_int (fun _ _ => rfl)) pa_nil) pass0) (pe_one (pe_own G_is_words (hr.mono (by decide)) (pa_cons (pe_ix (ix_tupK (K := K)) (pv 0) pe_int (fun _ _ => rfl)) pa_nil) pass0)))))), ?_⟩
  match ds, hn with
  | [d], _ =>
  have okd := ok d (by simp)
  cases hd with
  | cons hd h2 =>
  cases h2
  cases hrow : isRow d 2 with
  | false =>
    exact d_retB (b := isLine d) (ev_is (v := .bl (isRow d 2 && false)) (ev_andV (ev_row (eds2 (ed_var rfl hd) fun _ _ => ed_int)) fun h => by
      rw [hrow] at h
      cases h) (by rw [isLine_no hrow, Bool.and_false])) a q
  | true =>
    obtain ⟨x, y, rfl⟩ := row2 hrow
    have okx := okd.mem (d := x) (by simp)
    have oky := okd.mem (d := y) (by simp)
    refine d_retB (b := isLine (.tuple [x, y])) ?_ a q
    refine ev_is (v := .bl (isRow (.tuple [x, y]) 2 && (isWhole x 0 && isWords y))) (ev_andV (ev_row (eds2 (ed_var rfl hd) fun _ _ => ed_int)) fun _ => ev_andV (ev_whole1 (eds1 (ed_ixT (j := 0) (ed_var rfl hd) (fun _ _ => ev_c) rfl rfl))) fun _ => ev_own1 (eds1 (ed_ixT (j := 1) (ed_var rfl hd) (fun _ _ => ev_c) rfl rfl)) oky) ?_
    rw [hrow, Bool.true_and]
    rfl

def areLines : PyData → Bool
  | .tuple l => l.all isLine
  | _ => false
abbrev s_are_lines : Stmt := topS 28
theorem sc_are_lines : FnScope ["thing", "line"] ["thing"] (defScope s_are_lines) := ⟨rfl, rfl, rfl, by decide +kernel, rfl, by decide +kernel, by decide +kernel⟩

theorem ok_are_lines (M : Mg mg) (G_is_line : Own P w K mg base 3 "is_line" ["thing"] [] (spOf1 K isLine)) {f : Addr} {fd : FuncData} (F : Fun K "are_lines" "are_lines" s_are_lines f fd) : FnOk P w K mg base CX0 4 f fd ["thing"] (spOf1 K areLines) := by
  refine F.ok sc_are_lines (fun vs H Q E h => spDD_len vs H Q E h) (fun cdv A outer s H1 vs Q E hr h => ?_)
  obtain ⟨H, ds, a, hd, hn, ok, q⟩ := h
  refine ⟨_, (pss_one (ps_ret (pe_and (pe_callB (call_isiK2 (K := K)) (by rfl) M.m_isinstance boot_isinstance (pa_cons (pv 0) (pa_cons (pe_bltn (v := .ty "tuple") (by rfl) M.m_tuple (by decide +kernel) rfl) pa_nil))) (pe_one (pe_callB (cr_allK (K := K) rfl) (by rfl) M.m_all boot_all (pa_cons (pe_lc (own := [("line", 1)]) rfl sc_are_lines.nd (pi_tupK (K := K) (pv 0)) (blkOk_by (N := ["thing", "line"]) (sc := defScope s_are_lines) (by decide +kernel)) (fun _ _ _ _ _ => (pg_name (i := 1) sc_are_lines.nd rfl (by first | exact Or.inl rfl | exact Or.inr rfl))) (fun _ _ _ _ _ => pts_nil) (fun _ _ _ _ _ => (pe_own G_is_line (hr.mono (by decide)) (pa_cons (pv 1) pa_nil) pass0))) pa_nil)))))), ?_⟩
  match ds, hn with
  | [d], _ =>
  have okd := ok d (by simp)
  cases hd with
  | cons hd h2 =>
  cases h2
  cases d with
  | tuple l =>
    refine d_retB (b := areLines (.tuple l)) ?_ a q
    refine ev_is (v := .bl (true && l.all isLine)) (ev_andV (ev_isD (ed_var rfl hd) (kit_tuple _)) fun _ => ?_) rfl
    have e : l.all isLine = (l.map isLine).all id := by rw [List.all_map]; rfl
    rw [e]
    refine ev_allD ?_
    rw [List.map_map]
    refine ed_mapN l _ (Nat.le_trans okd.len (by decide)) (wd_tup (ed_var rfl hd)) (fun _ => rfl) fun i x y N e1 hy hx => ?_
    obtain ⟨y', hy', hx⟩ := hx
    cases hy.symm.trans hy'
    exact ed_of (ev_own1 (eds1 (ed_var rfl hx)) (okd.mem (List.mem_of_getElem? hy))) (.bl _)
  | _ => exact d_retB (b := false) (ev_is (v := .bl (false && false)) (ev_andV (ev_isD (ed_var rfl hd) (kit_tuple _)) fun h => by cases h) rfl) a q

end
end Sg
end
section
set_option maxRecDepth 100000
set_option maxHeartbeats 4000000
set_option exponentiation.threshold 1000
/-! Draws out of a purse: three numbers in a list, of which some number below a given one is drawn. -/
namespace Sg
open PySem PySem.Spec PyProof.Rows L2 Evl
structure MgW (mg : Str → Option Value) : Prop where
  m_len : mg "len" = none
  m_range : mg "range" = none
  m_max : mg "max" = none
section
variable {X : Cx}
/-- a ** b, whose answer has at most 2 ^ 27 bits -/
def CPowB (i j : Int) : Prop := 0 ≤ j ∧ (Builtin.Int.intBits i : Int) * j ≤ 2 ^ 27
theorem op_powB : OpR X (binaryOp .Pow) (rI CPowB fun i j => .int (i ^ j.toNat)) := opI fun _ _ _ _ _ _ _ hc q => pow_int hc.1 hc.2 q
end
abbrev big : Int := 10 ^ 600
/-- a purse: what is drawn from, a seed, a count of at most N -/
def PurseAt (p : Addr) (N : Int) (H : Hp) : Prop := ∃ a b c : Int, H p = some (.lst [.int a, .int b, .int c]) ∧ (0 ≤ a ∧ a < big) ∧ (0 ≤ b ∧ b < 2147483647) ∧ 0 ≤ c ∧ c ≤ N
/-- all but p as it was -/
def But (p : Addr) (H H' : Hp) : Prop := ∀ b o, b ≠ p → H b = some o → H' b = some o
def spMixed : Sp := fun vs H Q _ => ∃ a k : Int, vs = [.int a, .int k] ∧ (0 ≤ a ∧ a < 2147483647) ∧ (0 ≤ k ∧ k < 1000000000000) ∧ ∀ r : Int, 0 ≤ r → r < 2147483587 → Q (.int r) H
def spDraw : Sp := fun vs H Q _ => ∃ (p : Addr) (n N : Int), vs = [.ref p, .int n] ∧ (1 ≤ n ∧ n < 500000000) ∧ PurseAt p N H ∧ N < 999999999999 ∧ ∀ (r : Int) (H2 : Hp), 0 ≤ r → r < n → PurseAt p (N + 1) H2 → But p H H2 → (∀ b, H b = none → H2 b = none) → Q (.int r) H2
section
variable {P : Program} {w : World} {K : PySem.W.Frag} {mg : Str → Option Value} {base : Heap}

abbrev s__law_mixed : Stmt := topS 49
theorem sc__law_mixed : FnScope ["cell", "k", "number"] ["cell", "k"] (defScope s__law_mixed) := ⟨rfl, rfl, rfl, by decide +kernel, rfl, by decide +kernel, by decide +kernel⟩

theorem ok__law_mixed {f : Addr} {fd : FuncData} (F : Fun K "_law_mixed" "_law_mixed" s__law_mixed f fd) : FnOk P w K mg base CX0 1 f fd ["cell", "k"] spMixed := by
  refine F.ok sc__law_mixed (fun vs H Q E h => ?_) (fun cdv A outer s H vs Q E hr h => ?_)
  · obtain ⟨a, k, rfl, _⟩ := h
    rfl
  · obtain ⟨a, k, rfl, ha, hk, q⟩ := h
    refine ⟨_, (pss_cons (ps_set (i := 2) sc__law_mixed.nd rfl (Or.inl rfl) (pe_op op_mod (pe_op op_add (pe_op op_add (pe_op op_add (pe_op op_mul (pv 0) pe_int) (pe_op op_mul (pe_op op_mul pe_int (pv 1)) (pv 1))) (pv 1)) pe_int) pe_int))
      (pss_cons (ps_set (i := 2) sc__law_mixed.nd rfl (Or.inl rfl) (pe_op op_mod (pe_op op_add (pe_op op_mul (pv 2) (pv 2)) pe_int) pe_int))
      (pss_one (ps_ret (pe_op op_mod (pe_op op_mul (pv 2) pe_int) pe_int))))), ?_⟩
    refine ⟨_, rfl, _, _, rfl, rfl, .inl ⟨by omega, by omega⟩, _, rfl, _, _, rfl, rfl, .inl ⟨by omega, by omega⟩, _, rfl, _, _, rfl, rfl, .inl ⟨by omega, by omega⟩, _, _, rfl, rfl, _, rfl, _, _, rfl, rfl, _, _, rfl, rfl, _, _, rfl, rfl, (by show (0 : Int) < 2147483647; decide), ?_⟩
    generalize hm : (a * 1103515245 + 7919 * k * k + k + 1) % 2147483647 = m
    have m0 : 0 ≤ m := by rw [← hm]; exact Int.emod_nonneg _ (by decide)
    have m1 : m < 2147483647 := by rw [← hm]; exact Int.emod_lt_of_pos _ (by decide)
    refine ⟨_, rfl, _, rfl, _, _, rfl, rfl, .inl ⟨by omega, by omega⟩, _, _, rfl, rfl, _, _, rfl, rfl, (by show (0 : Int) < 2147483629; decide), ?_⟩
    generalize hn : (m * m + 69621) % 2147483629 = n
    have n0 : 0 ≤ n := by rw [← hn]; exact Int.emod_nonneg _ (by decide)
    have n1 : n < 2147483629 := by rw [← hn]; exact Int.emod_lt_of_pos _ (by decide)
    refine ⟨_, rfl, _, _, rfl, rfl, .inl ⟨by omega, by omega⟩, _, _, rfl, rfl, (by show (0 : Int) < 2147483587; decide), ?_⟩
    exact q _ (Int.emod_nonneg _ (by decide)) (Int.emod_lt_of_pos _ (by decide))

abbrev s__law_draw : Stmt := topS 51
theorem sc__law_draw : FnScope ["purse", "out_of", "number", "k", "drawn"] ["purse", "out_of"] (defScope s__law_draw) := ⟨rfl, rfl, rfl, by decide +kernel, rfl, by decide +kernel, by decide +kernel⟩

theorem ok__law_draw (M : MgW mg) {f : Addr} {fd : FuncData} (F : Fun K "_law_draw" "_law_draw" s__law_draw f fd) (G__law_mixed : Own P w K mg base 1 "_law_mixed" ["cell", "k"] [] spMixed) : FnOk P w K mg base CX0 2 f fd ["purse", "out_of"] spDraw := by
  refine F.ok sc__law_draw (fun vs H Q E h => ?_) (fun cdv A outer s H vs Q E hr h => ?_)
  · obtain ⟨p, n, N, rfl, _⟩ := h
    rfl
  · obtain ⟨p, n, N, rfl, hn, ⟨a, b, c, hp, ha, hb, hc⟩, hN, q⟩ := h
    refine ⟨_, (pss_cons (ps_if (pt_cmpR op_gt (pe_ix (ix_listK (K := K)) (pv 0) pe_int (fun _ _ => rfl)) pe_int (nomark _)) (pss_cons (ps_set (i := 4) sc__law_draw.nd rfl (Or.inl rfl) (pe_op op_mod (pe_ix (ix_listK (K := K)) (pv 0) pe_int (fun _ _ => rfl)) (pv 1)))
      (pss_cons (ps_asg (pe_op op_fdiv (pe_ix (ix_listK (K := K)) (pv 0) pe_int (fun _ _ => rfl)) (pv 1)) (pg_sub (pv 0) pe_int set_list))
      (pss_one (ps_ret (pv 4))))) pss_nil)
      (pss_cons (ps_set (i := 2) sc__law_draw.nd rfl (Or.inl rfl) pe_int)
      (pss_cons (ps_for PassesOwn.never rfl (pi_range1 (by rfl) M.m_range (pa_cons (pe_op op_add pe_int (pe_op op_fdiv (pe_bits (pv 1)) pe_int)) pa_nil)) (pg_name (i := 3) sc__law_draw.nd rfl (Or.inl rfl)) (pss_cons (ps_asg (pe_op op_add (pe_ix (ix_listK (K := K)) (pv 0) pe_int (fun _ _ => rfl)) pe_int) (pg_sub (pv 0) pe_int set_list))
      (pss_one (ps_set (i := 2) sc__law_draw.nd rfl (Or.inl rfl) (pe_op op_add (pe_op op_mul (pv 2) pe_int) (pe_own G__law_mixed (hr.mono (by decide)) (pa_cons (pe_ix (ix_listK (K := K)) (pv 0) pe_int (fun _ _ => rfl)) (pa_cons (pe_ix (ix_listK (K := K)) (pv 0) pe_int (fun _ _ => rfl)) pa_nil)) pass0))))))
      (pss_one (ps_ret (pe_op op_mod (pv 2) (pv 1))))))), ?_⟩
    have a0 : atI [V.int a, .int b, .int c] 0 = some (.int a) := atI_nat (j := 0) rfl
    have a1 : atI [V.int a, .int b, .int c] 1 = some (.int b) := atI_nat (j := 1) rfl
    have a2 : atI [V.int a, .int b, .int c] 2 = some (.int c) := atI_nat (j := 2) rfl
    -- if purse[0] > 0
    refine ⟨_, rfl, p, _, 0, _, rfl, rfl, SqL.of hp, a0, _, _, rfl, rfl, _, rfl, ite2 (fun h1 => ?_) (fun h1 => ?_)⟩
    · have h1 : (0 : Int) < a := of_decide_eq_true h1
      -- drawn = purse[0] % out_of
      refine ⟨_, rfl, p, _, 0, _, rfl, rfl, SqL.of hp, a0, _, rfl, _, _, rfl, rfl, (by show (0 : Int) < n; omega), ?_⟩
      -- purse[0] = purse[0] // out_of
      refine ⟨_, rfl, p, _, 0, _, rfl, rfl, SqL.of hp, a0, _, rfl, _, _, rfl, rfl, ⟨by omega, by omega⟩, _, rfl, p, _, _, 0, rfl, rfl, hp, rfl, ?_⟩
      refine ⟨_, rfl, q _ _ (Int.emod_nonneg _ (by omega)) (Int.emod_lt_of_pos _ (by omega)) ⟨a / n, b, c, upd_same, ⟨Int.ediv_nonneg (by omega) (by omega), Int.lt_of_le_of_lt (Int.ediv_le_self _ (by omega)) ha.2⟩, hb, hc.1, by omega⟩ (fun x o hx e => ?_) fun x hx => ?_⟩
      · rw [upd_ne hx]
        exact e
      · have hxp : x ≠ p := fun z => by rw [z, hp] at hx; cases hx
        rw [upd_ne hxp]
        exact hx
    · -- number = 0; one turn
      have hb9 : Builtin.Int.intBits n ≤ 29 := PyProof.Rows.intBits_le (by omega)
      have e1 : (1 + ((Builtin.Int.intBits n : Nat) : Int) / 30).toNat = 1 := by omega
      refine ⟨_, rfl, n, rfl, _, _, rfl, rfl, ⟨by decide, by decide⟩, _, _, rfl, rfl, _, rfl, by omega, by omega, ?_⟩
      rw [e1]
      refine for_range (lo := 0) (n := 1) (fun i σ H' => (i = 0 ∧ σ = [some (.ref p), some (.int n), some (.int 0), none, none] ∧ H' = H) ∨ (i = 1 ∧ ∃ (r : Int) (k : Option V), σ = [some (.ref p), some (.int n), some (.int r), k, none] ∧ H' = upd H p (.lst [.int a, .int b, .int (c + 1)]))) (.inl ⟨rfl, rfl, rfl⟩) (fun i σ H' hi hp' => ?_) (fun σ H' hp' => ?_)
      · rcases hp' with ⟨_, rfl, rfl⟩ | ⟨h9, _⟩
        · have hq : (upd H' p (HO.lst [V.int a, .int b, .int (c + 1)])) p = some (.lst [.int a, .int b, .int (c + 1)]) := upd_same
          refine ⟨_, rfl, p, _, 2, _, rfl, rfl, SqL.of hp, a2, _, _, rfl, rfl, _, rfl, p, _, _, 2, rfl, rfl, hp, rfl, ?_⟩
          refine ⟨_, rfl, _, _, rfl, rfl, .inl ⟨by decide, by decide⟩, _, rfl, p, _, 1, _, rfl, rfl, SqL.of hq, atI_nat (j := 1) rfl, _, rfl, p, _, 2, _, rfl, rfl, SqL.of hq, atI_nat (j := 2) rfl, b, c + 1, rfl, ⟨by omega, by omega⟩, ⟨by omega, by omega⟩, fun r h0 h1 => ?_⟩
          refine ⟨_, _, rfl, rfl, .inr ⟨by omega, _, _, rfl, rfl⟩⟩
        · omega
      · rcases hp' with ⟨h9, _⟩ | ⟨_, r, k, rfl, rfl⟩
        · omega
        · refine ⟨_, rfl, _, rfl, _, _, rfl, rfl, (by show (0 : Int) < n; omega), ?_⟩
          refine q _ _ (Int.emod_nonneg _ (by omega)) (Int.emod_lt_of_pos _ (by omega)) ⟨a, b, c + 1, upd_same, ha, hb, by omega, by omega⟩ (fun x o hx e => ?_) fun x hx => ?_
          · rw [upd_ne hx]
            exact e
          · have hxp : x ≠ p := fun z => by rw [z, hp] at hx; cases hx
            rw [upd_ne hxp]
            exact hx

/-- a script: a list of whole numbers -/
def ScriptAt (K : PySem.W.Frag) (a : Addr) (ns : List Int) (H : Hp) : Prop := SqL K H a (ns.map V.int) ∧ ns.length ≤ 63
def spAt (K : PySem.W.Frag) : Sp := fun vs H Q _ => ∃ (a : Addr) (ns : List Int) (k : Int), vs = [.ref a, .int k] ∧ ScriptAt K a ns H ∧ 0 ≤ k ∧ ∀ r : Int, Q (.int r) H
def spPurse (K : PySem.W.Frag) : Sp := fun vs H Q _ => ∃ (a : Addr) (ns : List Int) (k : Int), vs = [.ref a, .int k] ∧ ScriptAt K a ns H ∧ (0 ≤ k ∧ k ≤ 1000) ∧ ∀ (p : Addr) (H2 : Hp), H p = none → PurseAt p (1000 * k) H2 → But p H H2 → (∀ b, b ≠ p → H b = none → H2 b = none) → Q (.ref p) H2

abbrev s__law_at : Stmt := topS 48
theorem sc__law_at : FnScope ["script", "k"] ["script", "k"] (defScope s__law_at) := ⟨rfl, rfl, rfl, by decide +kernel, rfl, by decide +kernel, by decide +kernel⟩

theorem ok__law_at (M : MgW mg) {f : Addr} {fd : FuncData} (F : Fun K "_law_at" "_law_at" s__law_at f fd) : FnOk P w K mg base CX0 1 f fd ["script", "k"] (spAt K) := by
  refine F.ok sc__law_at (fun vs H Q E h => ?_) (fun cdv A outer s H vs Q E hr h => ?_)
  · obtain ⟨a, ns, k, rfl, _⟩ := h
    rfl
  · obtain ⟨a, ns, k, rfl, ⟨hS, hl⟩, hk, q⟩ := h
    refine ⟨_, (pss_cons (ps_if (pt_cmpR op_lt (pv 1) (pe_callB (call_lenK (K := K)) (by rfl) M.m_len boot_len (pa_cons (pv 0) pa_nil)) (nomark _)) (pss_one (ps_ret (pe_ix (ix_listK (K := K)) (pv 0) (pv 1) (fun _ _ => rfl)))) pss_nil)
      (pss_one (ps_ret pe_int))), ?_⟩
    refine ⟨_, rfl, _, rfl, _, ns.length, rfl, Or.inl ⟨_, hS, (List.length_map ..).symm⟩, _, _, rfl, rfl, _, rfl, ite2 (fun h1 => ?_) (fun h1 => ?_)⟩
    · have h1 : k < (ns.length : Int) := of_decide_eq_true h1
      have h2 : k.toNat < ns.length := by omega
      have g1 : (ns.map V.int)[k.toNat]? = some (.int ns[k.toNat]) := by
        rw [List.getElem?_map, List.getElem?_eq_getElem h2]
        rfl
      exact ⟨_, rfl, _, rfl, a, _, k, _, rfl, rfl, hS, at_of (j := k.toNat) (by omega) g1, q _⟩
    · exact q 0

abbrev s__law_purse : Stmt := topS 50
theorem sc__law_purse : FnScope ["script", "at", "cell"] ["script", "at"] (defScope s__law_purse) := ⟨rfl, rfl, rfl, by decide +kernel, rfl, by decide +kernel, by decide +kernel⟩

theorem ok__law_purse (M : MgW mg) {f : Addr} {fd : FuncData} (F : Fun K "_law_purse" "_law_purse" s__law_purse f fd) (G__law_at : Own P w K mg base 1 "_law_at" ["script", "k"] [] (spAt K)) : FnOk P w K mg base CX0 2 f fd ["script", "at"] (spPurse K) := by
  refine F.ok sc__law_purse (fun vs H Q E h => ?_) (fun cdv A outer s H vs Q E hr h => ?_)
  · obtain ⟨a, ns, k, rfl, _⟩ := h
    rfl
  · obtain ⟨a, ns, k, rfl, hS, hk, q⟩ := h
    refine ⟨_, (pss_cons (ps_set (i := 2) sc__law_purse.nd rfl (Or.inl rfl) (pe_own G__law_at (hr.mono (by decide)) (pa_cons (pv 0) (pa_cons (pv 1) pa_nil)) pass0))
      (pss_one (ps_ret (pe_lst (pa_cons (pe_op op_mod (pe_callB (call_max2 rfl) (by rfl) M.m_max (by decide +kernel) (pa_cons (pe_op op_sub (pv 2) (pe_op op_powB pe_int pe_int)) (pa_cons pe_int pa_nil))) (pe_op op_powB (pe_op op_powB pe_int pe_int) pe_int)) (pa_cons (pe_op op_mod (pv 2) pe_int) (pa_cons (pe_op op_mul pe_int (pv 1)) pa_nil))))))), ?_⟩
    refine ⟨_, rfl, _, rfl, a, ns, k, rfl, hS, hk.1, fun r => ?_⟩
    refine ⟨_, rfl, _, _, rfl, rfl, ⟨by decide, by decide +kernel⟩, _, _, rfl, rfl, _, _, rfl, _, _, rfl, rfl, ⟨by decide, by decide +kernel⟩, _, _, rfl, rfl, ⟨by decide, by decide +kernel⟩, _, _, rfl, rfl, ?_, ?_⟩
    · show (0 : Int) < (10 ^ (60 : Int).toNat) ^ (10 : Int).toNat
      decide +kernel
    · refine ⟨_, rfl, _, _, rfl, rfl, (by show (0 : Int) < 2147483647; decide), _, rfl, _, _, rfl, rfl, .inl ⟨by decide, by decide⟩, (by show 3 ≤ sizeLine; decide), fun p hp => ?_⟩
      have eb : ((10 : Int) ^ (60 : Int).toNat) ^ (10 : Int).toNat = big := by decide +kernel
      refine q p _ hp ⟨_, _, _, upd_same, ⟨Int.emod_nonneg _ (by rw [eb]; decide), ?_⟩, ⟨Int.emod_nonneg _ (by decide), Int.emod_lt_of_pos _ (by decide)⟩, by omega, Int.le_refl _⟩ (fun b o hb e => ?_) fun b hb e => ?_
      · rw [eb]
        exact Int.emod_lt_of_pos _ (by decide +kernel)
      · rw [upd_ne hb]
        exact e
      · rw [upd_ne hb]
        exact e
end
end Sg
end
section
set_option maxRecDepth 100000
set_option maxHeartbeats 4000000
/-! Lots: what its methods that only read tell. -/
namespace Sg
open PySem PySem.Spec PyProof.Rows L2 Evl
theorem units1 {k : Nat} {A : Around} (hr : L2.Room k A) : A.units + 1 < cLine := by
  have := hr.un
  omega
theorem room75 {k : Nat} {A : Around} (hr : L2.Room k A) : A.units + 70 < cLine := by
  have := hr.un
  omega
theorem pg_tupK {X : Cx} {K : PySem.W.Frag} {es : List Expr} {k : Nat} {t : TGs} {n : Nat} {pos : Pos} (hc : X.calm = true) (h : PGs X es t) (hK : X.K = K := by rfl) (hn : (assignEach es X.env).length = n := by rfl)
    (hst : (assignEach es X.env).findIdx? (·.1) = none := by rfl) : PG X (.Tuple es k pos) (gTup K n t) := by subst hK; exact pg_tup hc h hn hst
theorem pe_fldK {X : Cx} {K : PySem.W.Frag} {e : Expr} {f : Str} {pos : Pos} {ta : TE} (he : PE X e ta) (hb : attributeBase e f X.env (eval e X.env) = eval e X.env) (h : X.K = K := by rfl) : PE X (.Attribute e f pos) (tFld K ta f) := by subst h; exact pe_fld he hb
/-- code that is never come to -/
theorem pe_never {X : Cx} {e : Expr} : PE X e (fun _ _ _ => False) := ⟨fun _ _ _ _ _ _ h => h.elim⟩
section
variable {K : PySem.W.Frag} {σ : L2.St} {H : Hp} {ta tb td ty te : TE} {t : TA} {a C dx : Addr} {fs : List (Str × V)} {f m : Str} {v y z : V} {d : PyData}
theorem ev_fld (h : Ev te σ H (.ref a)) (ha : H a = some (.ins C dx fs)) (c : Cls K C) (n : NoAttr K C f) (l : fs.lookup f = some v) : Ev (tFld K te f) σ H v := fun H1 e Q q =>
  h H1 e _ fun H2 e2 => ⟨a, C, dx, fs, v, rfl, (e.trans e2) _ _ ha, c, n, l, q H2 e2⟩
theorem ev_dget {kvs : List (Key × V)} {k : Key} (h : Ev td σ H (.ref a)) (g : Ev ty σ H (kV k)) (ha : H a = some (.dK kvs)) (l : valV kvs k = some v) : Ev (tDGet td ty) σ H v := fun H1 e Q q =>
  h H1 e _ fun H2 e2 => g H2 (e.trans e2) _ fun H3 e3 => ⟨a, v, rfl, l ▸ DGet.k (k := k) (((e.trans e2).trans e3) _ _ ha), q H3 (e2.trans e3)⟩
theorem ev_dnotin {kvs : List (Key × V)} {k : Key} (g : Ev ty σ H (kV k)) (h : Ev td σ H (.ref a)) (ha : H a = some (.dK kvs)) : Ev (tDNotIn ty td) σ H (.bl (!(valV kvs k).isSome)) := fun H1 e Q q =>
  g H1 e _ fun H2 e2 => h H2 (e.trans e2) _ fun H3 e3 => ⟨a, _, rfl, DGet.k (k := k) (((e.trans e2).trans e3) _ _ ha), q H3 (e2.trans e3)⟩
/-- a method that reads alone: its value known -/
theorem ev_meth {sp : Sp} {dvs vs : List V} {E : XK} (h : Ev ta σ H (.ref a)) (ha : H a = some (.ins C dx fs)) (l : fs.lookup m = none) (g : EvA t σ H vs)
    (k : ∀ H2, Ex H H2 → ∀ Q : VK, (∀ H3, Ex H2 H3 → Q z H3) → sp (.ref a :: (vs ++ dvs)) H2 Q E) : Ev (tMeth C m sp dvs E ta t) σ H z := fun H1 e Q q =>
  h H1 e _ fun H2 e2 => ⟨a, dx, fs, rfl, (e.trans e2) _ _ ha, l, g H2 (e.trans e2) _ fun H3 e3 => k H3 ((e.trans e2).trans e3) Q fun H4 e4 => q H4 ((e2.trans e3).trans e4)⟩
/-- .. its arguments data, its value data -/
theorem ed_meth {sp : Sp} {dvs : List V} {E : XK} {ds : List PyData} (h : Ev ta σ H (.ref a)) (ha : H a = some (.ins C dx fs)) (l : fs.lookup m = none) (g : EvDs K t σ H ds)
    (k : ∀ vs N H2, Ex H N → Ex N H2 → DaAll K N vs ds → ∀ Q : VK, (∀ v N' H3, Gr N H2 N' H3 → Da K N' v d → Q v H3) → sp (.ref a :: (vs ++ dvs)) H2 Q E) : EvD K (tMeth C m sp dvs E ta t) σ H d := fun H1 e Q q =>
  h H1 e _ fun H2 e2 => ⟨a, dx, fs, rfl, (e.trans e2) _ _ ha, l, g H2 (e.trans e2) _ fun vs N H3 b hv => k vs N H3 b.bas b.sub hv Q fun v N' H4 b' hv' => q v N' H4 ((b.trans b').ahead e2) hv'⟩
end
theorem ed_mapA {K : PySem.W.Frag} {σ : L2.St} {H : Hp} {te : TE} {β : Type} {wi : TI} {g : TG} {vs : List Nat} {P : Hp → Nat → V → Prop} (ys : List β) (gf : β → PyData) (hz : ys.length ≤ 40000) (hwi : WiD wi σ H ys.length P)
    (hg : ∀ (i : Nat) (x : V) (y : β) N, Ex H N → ys[i]? = some y → P N i x → ∃ σ2 : L2.St, wipe σ2 vs = wipe σ vs ∧ (∀ H2, Ex N H2 → ∀ R : L2.St → Hp → Prop, R σ2 H2 → g x (wipe σ vs) H2 R) ∧ EvD K te σ2 N (gf y)) : EvD K (tLc wi g tYes te vs) σ H (.list (ys.map gf)) := by
  have h := ed_map (K := K) (t := tYes) (te := te) (g := g) ys (fun _ => true) gf hz hwi fun i x y N e hy px => by
    obtain ⟨σ2, a, b, c⟩ := hg i x y N e hy px
    exact ⟨σ2, a, b, et_yes, fun _ => c⟩
  rw [List.filter_eq_self.mpr fun _ _ => rfl] at h
  exact h
theorem wd_tupM {K : PySem.W.Frag} {σ : L2.St} {H : Hp} {tl : TE} {β : Type} {f : β → PyData} {ys : List β} (h : EvD K tl σ H (.tuple (ys.map f))) : WiD (iTup K tl) σ H ys.length (PD K (ys.map f)) := by
  have e : (ys.map f).length = ys.length := List.length_map _
  rw [← e]
  exact wd_tup h
/-! ### any(list of data) -/
def rAnyD (K : PySem.W.Frag) : List V → Hp → VK → Prop := fun vs H Q => ∃ (v : V) (ds : List PyData), vs = [v] ∧ Dp K H v (.list ds) ∧ PyData.plainAll ds = true ∧ (∀ x ∈ ds, x.fits63) ∧ Q (.bl (ds.any PyData.truthy)) H
theorem cr_anyD {X : Cx} {K : PySem.W.Frag} (hc : X.calm = true) (h : X.K = K := by rfl) : CallR X (.builtin "any") (rAnyD K) := by
  subst h
  intro pins s σ H vs us Q I r h
  obtain ⟨v, ds, rfl, hd, hp, hf, q⟩ := h
  cases r with
  | cons rv rr =>
    cases rr
    obtain ⟨as, r1⟩ := Dp.reads I (.list ds) _ _ hd rv
    cases r1 with
    | list h1 h2 h3 h4 =>
      exact PySem.W.any_list_data (I.ok.hd hc) ⟨_, h1, h2, _, h3⟩ h4 hp hf fun h' tk k => ⟨.bl _, H, I.kept (t' := tk) k, rfl, q⟩
theorem ev_anyTD {K : PySem.W.Frag} {σ : L2.St} {H : Hp} {te : TE} {ds : List PyData} (h : EvD K te σ H (.list ds)) (hp : PyData.plainAll ds = true) (hf : ∀ x ∈ ds, x.fits63) : Ev (tCB (rAnyD K) (tCons te tNil)) σ H (.bl (ds.any PyData.truthy)) := fun H1 a Q q =>
  h H1 a _ fun v N H2 b hv => ⟨v, ds, rfl, (hv.ex b.sub).dp, hp, hf, q H2 b.act⟩
/-! ### Lots -/
def lotF (h m w : Addr) : List (Str × V) := [("heads", .ref h), ("members", .ref m), ("words", .ref w)]
theorem lotF_h {h m w : Addr} : (lotF h m w).lookup ("heads" : Str) = some (.ref h) := rfl
theorem lotF_m {h m w : Addr} : (lotF h m w).lookup ("members" : Str) = some (.ref m) := rfl
theorem lotF_w {h m w : Addr} : (lotF h m w).lookup ("words" : Str) = some (.ref w) := rfl
/-- what the text says of the class Lots -/
structure TLots (K : PySem.W.Frag) (C : Addr) : Prop where
  cl : Cls K C
  nh : NoAttr K C "heads"
  nm : NoAttr K C "members"
  nw : NoAttr K C "words"
structure MgO (mg : Str → Option Value) : Prop where
  m_len : mg "len" = none
  m_min : mg "min" = none
  m_max : mg "max" = none
  m_tuple : mg "tuple" = none
  m_list : mg "list" = none
  m_range : mg "range" = none
  m_enumerate : mg "enumerate" = none
  m_set : mg "set" = none
  m_all : mg "all" = none
  m_any : mg "any" = none
  m_sorted : mg "sorted" = none
/-- a Lots object with its list of heads -/
structure LotO (C : Addr) (L : Hp) (a h m w : Addr) (xs : List V) : Prop where
  ob : ∃ dx, L a = some (.ins C dx (lotF h m w))
  hd : L h = some (.lst xs)
theorem LotO.ex {C : Addr} {L L' : Hp} {a h m w : Addr} {xs : List V} (o : LotO C L a h m w xs) (e : Ex L L') : LotO C L' a h m w xs := by
  obtain ⟨⟨dx, h1⟩, h2⟩ := o
  exact ⟨⟨dx, e _ _ h1⟩, e _ _ h2⟩
/-- a value's text keys: which words are there -/
def hasW (kv : List (Key × V)) (s : Str) : Bool := (valV kv (.inr s)).isSome
/-- the place's lot has these words -/
def LotW (L : Hp) (w : Addr) (xs : List V) (i : Int) (kv : List (Key × V)) : Prop := ∃ j kvs p, atI xs i = some (.int j) ∧ L w = some (.dK kvs) ∧ valV kvs (.inl j) = some (.ref p) ∧ L p = some (.dK kv)
def wordsD (ws : List Str) : PyData := .tuple (ws.map .str)
def spHas (C : Addr) : Sp := fun vs H1 Q _ => ∃ L a h m w xs i, vs = [.ref a, .int i] ∧ Ex L H1 ∧ LotO C L a h m w xs ∧ xs.length ≤ 1000 ∧ ∀ H2, Ex H1 H2 → Q (.bl (decide (i < (xs.length : Int)))) H2
def spHead (C : Addr) : Sp := fun vs H1 Q _ => ∃ L a h m w xs i v, vs = [.ref a, .int i] ∧ Ex L H1 ∧ LotO C L a h m w xs ∧ atI xs i = some v ∧ ∀ H2, Ex H1 H2 → Q v H2
def spUnk (K : PySem.W.Frag) (C : Addr) : Sp := fun vs H1 Q _ => ∃ L a h m w xs i kv v ws, vs = [.ref a, .int i, v] ∧ Ex L H1 ∧ LotO C L a h m w xs ∧ LotW L w xs i kv ∧ Da K L v (wordsD ws) ∧ ws.length ≤ 30000 ∧ ∀ v N H2, Gr L H1 N H2 → Da K N v (wordsD (ws.filter fun s => !hasW kv s)) → Q v H2
section
variable {P : Program} {w : World} {K : PySem.W.Frag} {mg : Str → Option Value} {base : Heap} {C : Addr}
abbrev OwnM (P : Program) (w : World) (K : PySem.W.Frag) (mg : Str → Option Value) (base : Heap) (k : Nat) (C : Addr) (m : Str) (ps : List Str) (sp : Sp) : Prop := Okm P w K mg base CX0 k C m ps [] sp
abbrev s_Lots_has : Stmt := inClass (topS 37) 2
theorem sc_Lots_has : FnScope ["self", "place"] ["self", "place"] (defScope s_Lots_has) := ⟨rfl, rfl, rfl, by decide +kernel, rfl, by decide +kernel, by decide +kernel⟩
theorem ok_Lots_has (M : MgO mg) (T : TLots K C) {f : Addr} {fd : FuncData} (F : Fun K "has" "Lots.has" s_Lots_has f fd) : FnOk P w K mg base CX0 1 f fd ["self", "place"] (spHas C) := by
  refine F.ok sc_Lots_has (fun vs H Q E h => ?_) (fun cdv A outer s H1 vs Q E hr h => ?_)
  · obtain ⟨L, a, h, m, w, xs, i, rfl, _⟩ := h
    rfl
  obtain ⟨L, a, h, m, w, xs, i, rfl, e, o, hx, q⟩ := h
  obtain ⟨⟨dx, ob⟩, hd⟩ := id o
  refine ⟨_, (pss_one (ps_ret (pe_cmpR op_lt (pv 1) (pe_callB (call_lenK (K := K)) (by rfl) M.m_len boot_len (pa_cons (pe_fldK (K := K) (pv 0) rfl) pa_nil)) (nomark _)))), ?_⟩
  exact ev_op (H := L) (z := .bl (decide (i < (xs.length : Int)))) (ev_var rfl) (ev_lenG (n := xs.length) (ev_fld (ev_var rfl) ob T.cl T.nh lotF_h) fun H2 e2 => Or.inl ⟨_, sq_of (e2 _ _ hd), rfl⟩) rv_I0 H1 e _ q
abbrev s_Lots_head : Stmt := inClass (topS 37) 5
theorem sc_Lots_head : FnScope ["self", "place"] ["self", "place"] (defScope s_Lots_head) := ⟨rfl, rfl, rfl, by decide +kernel, rfl, by decide +kernel, by decide +kernel⟩
theorem ok_Lots_head (T : TLots K C) {f : Addr} {fd : FuncData} (F : Fun K "head" "Lots.head" s_Lots_head f fd) : FnOk P w K mg base CX0 1 f fd ["self", "place"] (spHead C) := by
  refine F.ok sc_Lots_head (fun vs H Q E h => ?_) (fun cdv A outer s H1 vs Q E hr h => ?_)
  · obtain ⟨L, a, h, m, w, xs, i, v, rfl, _⟩ := h
    rfl
  obtain ⟨L, a, h, m, w, xs, i, v, rfl, e, o, hx, q⟩ := h
  obtain ⟨⟨dx, ob⟩, hd⟩ := id o
  refine ⟨_, (pss_one (ps_ret (pe_ix (ix_listK (K := K)) (pe_fldK (K := K) (pv 0) rfl) (pv 1) (fun _ _ => rfl)))), ?_⟩
  exact ev_op (H := L) (z := v) (ev_fld (ev_var rfl) ob T.cl T.nh lotF_h) (ev_var rfl) (rv_val fun H2 e2 Q q => ⟨h, xs, i, v, rfl, rfl, sq_of (e2 _ _ hd), hx, q⟩) H1 e _ q
abbrev s_Lots_unknown : Stmt := inClass (topS 37) 8
theorem sc_Lots_unknown : FnScope ["self", "place", "words", "known", "word"] ["self", "place", "words"] (defScope s_Lots_unknown) := ⟨rfl, rfl, rfl, by decide +kernel, rfl, by decide +kernel, by decide +kernel⟩
theorem ok_Lots_unknown (M : MgO mg) (T : TLots K C) {f : Addr} {fd : FuncData} (F : Fun K "unknown" "Lots.unknown" s_Lots_unknown f fd) : FnOk P w K mg base CX0 1 f fd ["self", "place", "words"] (spUnk K C) := by
  refine F.ok sc_Lots_unknown (fun vs H Q E h => ?_) (fun cdv A outer s H1 vs Q E hr h => ?_)
  · obtain ⟨L, a, h, m, w, xs, i, kv, v, ws, rfl, _⟩ := h
    rfl
  obtain ⟨L, a, h, m, w, xs, i, kv, v, ws, rfl, e, o, ⟨j, kvs, p, h1, h2, h3, h4⟩, hv, hw, q⟩ := h
  obtain ⟨⟨dx, ob⟩, hd⟩ := id o
  refine ⟨_, (pss_cons (ps_set (i := 3) sc_Lots_unknown.nd rfl (by first | exact Or.inl rfl | exact Or.inr rfl) (pe_dget (units1 hr) (pe_fldK (K := K) (pv 0) rfl) (pe_ix (ix_listK (K := K)) (pe_fldK (K := K) (pv 0) rfl) (pv 1) (fun _ _ => rfl)) (fun _ _ => rfl)))
      (pss_one (ps_ret (pe_callTy (cr_tupOf (K := K)) (by rfl) M.m_tuple (by decide +kernel) (pa_cons (pe_lc (own := [("word", 4)]) rfl sc_Lots_unknown.nd (pi_seq (K := K) (pv 2)) (blkOk_by (N := ["self", "place", "words", "known", "word"]) (sc := defScope s_Lots_unknown) (by decide +kernel)) (fun _ _ _ _ _ => (pg_name (i := 4) sc_Lots_unknown.nd rfl (by first | exact Or.inl rfl | exact Or.inr rfl))) (fun _ _ _ _ _ => pts_one (pt_cmp (pc_dnotin (units1 hr) (pv 4) (pv 3)))) (fun _ _ _ _ _ => (pv 4))) pa_nil))))), ?_⟩
  refine d_asgV (H := L) (v := .ref p) (ev_dget (k := .inl j) (ev_fld (ev_var rfl) ob T.cl T.nw lotF_w) (ev_op (ev_fld (ev_var rfl) ob T.cl T.nh lotF_h) (ev_var rfl) (rv_val fun H2 e2 Q q => ⟨h, xs, i, _, rfl, rfl, sq_of (e2 _ _ hd), h1, q⟩)) h2 h3) e fun H2 e2 => ?_
  refine d_ret (H := L) (ed_tupL (ds := (ws.filter fun s => !hasW kv s).map .str) ?_) (e.trans e2) fun v N H3 g hv' => q v N H3 (g.ahead e2) hv'
  refine ed_is (ed_mapF (β := Str) (P := fun N i x => ∃ y, (ws.map PyData.str)[i]? = some y ∧ Da K N x y) ws (fun s => !hasW kv s) .str (Nat.le_trans hw (by decide)) ?_ (fun _ => rfl) (fun i x y N e1 hy hx => ?_) fun i x y N e1 hy hx _ => ?_) rfl
  · have h0 := wd_seqT (K := K) (H := L) (σ := [some (.ref a), some (.int i), some v, some (.ref p), none]) (tl := tVar 2) (ds := ws.map .str) (ed_var rfl hv)
    rw [List.length_map] at h0
    exact h0
  · obtain ⟨y', hy', hx⟩ := hx
    rw [List.getElem?_map, hy] at hy'
    cases hy'
    cases hx
    exact et_B (ev_dnotin (k := .inr y) (ev_var rfl) (ev_var rfl) (e1 _ _ h4))
  · obtain ⟨y', hy', hx⟩ := hx
    rw [List.getElem?_map, hy] at hy'
    cases hy'
    exact ed_var rfl hx
/-! ### lines -/
theorem nub_inl (xs : List Int) : nub (xs.map fun i => (Sum.inl i : Key)) = (nub xs).map fun i => (Sum.inl i : Key) := by
  induction xs with
  | nil => rfl
  | cons x xs ih =>
    show nub ((Sum.inl x : Key) :: xs.map fun i => (Sum.inl i : Key)) = _
    simp only [nub, List.mem_map, Sum.inl.injEq, exists_eq_right, ih]
    split <;> rfl
theorem plain_words : ∀ (wss : List (List Str)), PyData.plainAll (wss.map wordsD) = true
  | [] => rfl
  | ws :: wss => by
    have h1 : ∀ (ws : List Str), PyData.plainAll (ws.map PyData.str) = true := fun ws => by
      induction ws with
      | nil => rfl
      | cons s ws ih => simpa [PyData.plainAll, PyData.plain] using ih
    have h2 := plain_words wss
    simp only [List.map_cons, PyData.plainAll, Bool.and_eq_true]
    exact ⟨h1 ws, h2⟩

def lineD (l : Int × List Str) : PyData := .tuple [.int l.1, wordsD l.2]
def linesD (ls : List (Int × List Str)) : PyData := .tuple (ls.map lineD)
/-- a tuple's items, put into slots -/
theorem tg_row {N : Hp} {x : V} {ds : List PyData} {n : Nat} (hv : Da K N x (.tuple ds)) (hn : ds.length = n) : ∃ vs, DaAll K N vs ds ∧ ∀ H2, Ex N H2 → ∀ (is : List Nat), n = is.length → ∀ (σ : L2.St) (R : L2.St → Hp → Prop), R (setAll σ is vs) H2 → gTup K n (gs is) x σ H2 R := by
  cases hv with
  | tup h1 h2 => exact ⟨_, h2, fun H2 e is hi σ R r => ⟨_, _, rfl, ex_t e h1, by rw [h2.len, hn], gs_all is _ σ H2 _ (by rw [h2.len, hn, hi]) r⟩⟩
theorem pd_map {β : Type} {N : Hp} {f : β → PyData} {ys : List β} {i : Nat} {x : V} {y : β} (hy : ys[i]? = some y) (h : PD K (ys.map f) N i x) : Da K N x (f y) := by
  obtain ⟨d, e, hd⟩ := h
  rw [List.getElem?_map, hy] at e
  cases e
  exact hd
theorem tg_line {N : Hp} {x : V} {y : Int × List Str} (hv : Da K N x (lineD y)) : ∃ z, Da K N z (wordsD y.2) ∧ ∀ H2, Ex N H2 → ∀ (i j : Nat) (σ : L2.St) (R : L2.St → Hp → Prop), R ((σ.set i (some (.int y.1))).set j (some z)) H2 → gTup K 2 (gs [i, j]) x σ H2 R := by
  obtain ⟨us, hu, k⟩ := tg_row (n := 2) (ds := [.int y.1, wordsD y.2]) hv rfl
  cases hu with
  | cons u1 u2 =>
  cases u2 with
  | cons u2 u3 =>
  cases u3
  cases u1
  exact ⟨_, u2, fun H2 e2 i j σ R r => k H2 e2 [i, j] rfl σ R r⟩
def spHasAll (K : PySem.W.Frag) (C : Addr) : Sp := fun vs H1 Q _ => ∃ L a h m w xs v ls, vs = [.ref a, v] ∧ Ex L H1 ∧ LotO C L a h m w xs ∧ xs.length ≤ 1000 ∧ Da K L v (linesD ls) ∧ ls.length ≤ 30000 ∧ ∀ H2, Ex H1 H2 → Q (.bl (ls.all fun l => decide (l.1 < (xs.length : Int)))) H2
/-- whether lines may stand: hf the heads of the places, kn the words of their lots -/
def mayB (hf : Int → Int) (kn : Int → List (Key × V)) (ls : List (Int × List Str)) : Bool :=
  if (nub (ls.map fun l => hf l.1)).length < ls.length then false else !(ls.any fun l => !(l.2.filter fun s => !hasW (kn l.1) s).isEmpty)
def spMay (K : PySem.W.Frag) (C : Addr) : Sp := fun vs H1 Q _ => ∃ L a h m w xs v ls hf kn, vs = [.ref a, v] ∧ Ex L H1 ∧ LotO C L a h m w xs ∧ Da K L v (linesD ls) ∧ ls.length ≤ 1000 ∧ (∀ l ∈ ls, l.2.length ≤ 30000 ∧ atI xs l.1 = some (.int (hf l.1)) ∧ LotW L w xs l.1 (kn l.1)) ∧ ∀ N H2, Gr L H1 N H2 → Q (.bl (mayB hf kn ls)) H2
abbrev s_Lots_has_all : Stmt := inClass (topS 37) 3
theorem sc_Lots_has_all : FnScope ["self", "lines", "place", "words"] ["self", "lines"] (defScope s_Lots_has_all) := ⟨rfl, rfl, rfl, by decide +kernel, rfl, by decide +kernel, by decide +kernel⟩
theorem ok_Lots_has_all (M : MgO mg) (T : TLots K C) (G_Lots_has : OwnM P w K mg base 1 C "has" ["self", "place"] (spHas C)) {f : Addr} {fd : FuncData} (F : Fun K "has_all" "Lots.has_all" s_Lots_has_all f fd) : FnOk P w K mg base CX0 2 f fd ["self", "lines"] (spHasAll K C) := by
  refine F.ok sc_Lots_has_all (fun vs H Q E h => ?_) (fun cdv A outer s H1 vs Q E hr h => ?_)
  · obtain ⟨L, a, h, m, w, xs, v, ls, rfl, _⟩ := h
    rfl
  obtain ⟨L, a, h, m, w, xs, v, ls, rfl, e, o, hl, hv, hz, q⟩ := h
  obtain ⟨⟨dx, ob⟩, hd⟩ := id o
  refine ⟨_, (pss_one (ps_ret (pe_callB (cr_allK (K := K) rfl) (by rfl) M.m_all boot_all (pa_cons (pe_lc (own := [("place", 2), ("words", 3)]) rfl sc_Lots_has_all.nd (pi_tupK (K := K) (pv 1)) (blkOk_by (N := ["self", "lines", "place", "words"]) (sc := defScope s_Lots_has_all) (by decide +kernel)) (fun _ _ _ _ _ => (pg_tupK (K := K) (n := 2) rfl (pgs_cons (pg_name (i := 2) sc_Lots_has_all.nd rfl (by first | exact Or.inl rfl | exact Or.inr rfl)) (pgs_cons (pg_name (i := 3) sc_Lots_has_all.nd rfl (by first | exact Or.inl rfl | exact Or.inr rfl)) pgs_nil)))) (fun _ _ _ _ _ => pts_nil) (fun _ _ _ _ _ => (pe_ownM G_Lots_has (hr.mono (by decide)) (pv 0) (pa_cons (pv 2) pa_nil) pass0))) pa_nil)))), ?_⟩
  have eb : (ls.all fun l => decide (l.1 < (xs.length : Int))) = ((ls.map fun l => decide (l.1 < (xs.length : Int))).all id) := by rw [List.all_map]; rfl
  rw [eb] at q
  refine (ev_allD (H := L) (K := K) ?_) H1 e _ q
  rw [List.map_map]
  have hz' : (ls.map lineD).length = ls.length := List.length_map _
  refine ed_mapA ls _ (Nat.le_trans hz (by decide)) (wd_tupM (f := lineD) (ed_var rfl hv)) fun i x y N e1 hy hx => ?_
  have hxl : Da K N x (lineD y) := pd_map hy hx
  obtain ⟨z, hz2, k⟩ := tg_line hxl
  refine ⟨[some (.ref a), some v, some (.int y.1), some z], rfl, fun H2 e2 R r => k H2 e2 2 3 _ R r, ?_⟩
  refine ed_of (ev_meth (z := .bl (decide (y.1 < (xs.length : Int)))) (ev_var rfl) (e1 _ _ ob) rfl (ea_cons (ev_var rfl) ea_nil) fun H2 e2 Q q => ?_) (.bl _)
  exact ⟨L, a, h, m, w, xs, y.1, rfl, e1.trans e2, o, hl, q⟩
abbrev s_Lots_may_stand : Stmt := inClass (topS 37) 4
theorem sc_Lots_may_stand : FnScope ["self", "lines", "heads", "place", "words"] ["self", "lines"] (defScope s_Lots_may_stand) := ⟨rfl, rfl, rfl, by decide +kernel, rfl, by decide +kernel, by decide +kernel⟩
theorem ok_Lots_may_stand (M : MgO mg) (T : TLots K C) (G_Lots_unknown : OwnM P w K mg base 1 C "unknown" ["self", "place", "words"] (spUnk K C)) {f : Addr} {fd : FuncData} (F : Fun K "may_stand" "Lots.may_stand" s_Lots_may_stand f fd) : FnOk P w K mg base CX0 2 f fd ["self", "lines"] (spMay K C) := by
  refine F.ok sc_Lots_may_stand (fun vs H Q E h => ?_) (fun cdv A outer s H1 vs Q E hr h => ?_)
  · obtain ⟨L, a, h, m, w, xs, v, ls, hf, kn, rfl, _⟩ := h
    rfl
  obtain ⟨L, a, h, m, w, xs, v, ls, hf, kn, rfl, e, o, hv, hz, hl, q⟩ := h
  obtain ⟨⟨dx, ob⟩, hd⟩ := id o
  refine ⟨_, (pss_cons (ps_setLc (i := 2) (own := [("place", 3), ("words", 4)]) rfl sc_Lots_may_stand.nd rfl rfl (sw_true rfl rfl rfl (by decide +kernel)) (pi_tupK (K := K) (pv 1)) (blkOk_by (N := ["self", "lines", "heads", "place", "words"]) (sc := defScope s_Lots_may_stand) (by decide +kernel)) (fun _ _ _ _ _ => (pg_tupK (K := K) (n := 2) rfl (pgs_cons (pg_name (i := 3) sc_Lots_may_stand.nd rfl (by first | exact Or.inl rfl | exact Or.inr rfl)) (pgs_cons (pg_name (i := 4) sc_Lots_may_stand.nd rfl (by first | exact Or.inl rfl | exact Or.inr rfl)) pgs_nil)))) (fun _ _ _ _ _ => pts_nil) (fun _ _ _ _ _ => (pe_ix (ix_listK (K := K)) (pe_fldK (K := K) (pv 0) rfl) (pv 3) (fun _ _ => rfl))))
      (pss_cons (ps_if (pt_cmpR op_lt (pe_callB cr_lenK (by rfl) M.m_len boot_len (pa_cons (pe_callTy (cr_setOf (K := K) rfl) (by rfl) M.m_set (by decide +kernel) (pa_cons (pv 2) pa_nil)) pa_nil)) (pe_callB (call_lenK (K := K)) (by rfl) M.m_len boot_len (pa_cons (pv 2) pa_nil)) (nomark _)) (pss_one (ps_ret pe_bl)) pss_nil)
      (pss_one (ps_ret (pe_not (pe_callB (cr_anyD (K := K) rfl) (by rfl) M.m_any boot_any (pa_cons (pe_lc (own := [("place", 3), ("words", 4)]) rfl sc_Lots_may_stand.nd (pi_tupK (K := K) (pv 1)) (blkOk_by (N := ["self", "lines", "heads", "place", "words"]) (sc := defScope s_Lots_may_stand) (by decide +kernel)) (fun _ _ _ _ _ => (pg_tupK (K := K) (n := 2) rfl (pgs_cons (pg_name (i := 3) sc_Lots_may_stand.nd rfl (by first | exact Or.inl rfl | exact Or.inr rfl)) (pgs_cons (pg_name (i := 4) sc_Lots_may_stand.nd rfl (by first | exact Or.inl rfl | exact Or.inr rfl)) pgs_nil)))) (fun _ _ _ _ _ => pts_nil) (fun _ _ _ _ _ => (pe_ownM G_Lots_unknown (hr.mono (by decide)) (pv 0) (pa_cons (pv 3) (pa_cons (pv 4) pa_nil)) pass0))) pa_nil))))))), ?_⟩
  have hz' : (ls.map lineD).length = ls.length := List.length_map _
  -- heads = [self.heads[place] for place, words in lines]
  refine d_asg (K := K) (H := L) (d := .list (ls.map fun l => .int (hf l.1))) (ed_mapA ls _ (Nat.le_trans hz (by decide)) (wd_tupM (f := lineD) (ed_var rfl hv)) fun i x y N e1 hy hx => ?_) e fun v2 N2 H2 g2 hv2 => ?_
  · have hxl : Da K N x (lineD y) := pd_map hy hx
    obtain ⟨z, hz2, k⟩ := tg_line hxl
    refine ⟨[some (.ref a), some v, none, some (.int y.1), some z], rfl, fun H2 e2 R r => k H2 e2 3 4 _ R r, ?_⟩
    refine ed_of (ev_op (z := .int (hf y.1)) (ev_fld (ev_var rfl) (e1 _ _ ob) T.cl T.nh lotF_h) (ev_var rfl) (rv_val fun H2 e2 Q q => ⟨h, xs, y.1, _, rfl, rfl, sq_of (e2 _ _ (e1 _ _ hd)), (hl y (List.mem_of_getElem? hy)).2.1, q⟩)) (.int _)
  -- if len(set(heads)) < len(heads)
  have eK : (ls.map fun l => PyData.int (hf l.1)) = (ls.map fun l => (Sum.inl (hf l.1) : Key)).map kD := by rw [List.map_map]; rfl
  have al : PySem.W.AllAlike ((ls.map fun l => (Sum.inl (hf l.1) : Key)).map kD) := alike_keys (c := true) fun k hk => by
    obtain ⟨l, _, rfl⟩ := List.mem_map.mp hk
    rfl
  rw [eK] at hv2
  have el : (nub (ls.map fun l => (Sum.inl (hf l.1) : Key))).length = (nub (ls.map fun l => hf l.1)).length := by
    have e9 := nub_inl (ls.map fun l => hf l.1)
    rw [List.map_map] at e9
    show (nub (ls.map ((fun i => (Sum.inl i : Key)) ∘ fun l => hf l.1))).length = _
    rw [e9, List.length_map]
  refine d_when (H := N2) (b := decide (((nub (ls.map fun l => (Sum.inl (hf l.1) : Key))).length : Int) < (ls.length : Int))) (et_test (ev_op (ev_lenSet (P := P) (ks := ls.map fun l => (Sum.inl (hf l.1) : Key)) (.inl (ed_var rfl hv2)) (by rw [List.length_map]; omega)) (ev_is (ev_lenL (ed_var rfl hv2)) (by rw [List.length_map, List.length_map])) rv_I0)) g2.sub (fun hb H3 e3 => ?_) fun hb H3 e3 => ?_
  · have em : mayB hf kn ls = false := by
      have hb := of_decide_eq_true hb
      unfold mayB
      rw [if_pos (by omega)]
    rw [em] at q
    exact d_retB (K := K) (H := N2) ev_c (g2.sub.trans e3) fun v N H4 g hv' => by
      cases hv'
      exact q N H4 (g2.trans (g.ahead e3))
  · have em : mayB hf kn ls = !(ls.any fun l => !(l.2.filter fun s => !hasW (kn l.1) s).isEmpty) := by
      have hb := of_decide_eq_false hb
      unfold mayB
      rw [if_neg (by omega)]
    rw [em] at q
    refine d_retB (K := K) (H := N2) (b := !((ls.map fun l => wordsD (l.2.filter fun s => !hasW (kn l.1) s)).any PyData.truthy)) (ev_notV (ev_anyTD (ed_mapA ls _ (Nat.le_trans hz (by decide)) (wd_tupM (f := lineD) (ed_var rfl (hv.ex g2.bas))) fun i x y N e1 hy hx => ?_) ?_ ?_)) (g2.sub.trans e3) fun v N H4 g hv' => ?_
    · have hxl : Da K N x (lineD y) := pd_map hy hx
      obtain ⟨z, hz2, k⟩ := tg_line hxl
      refine ⟨[some (.ref a), some v, some v2, some (.int y.1), some z], rfl, fun H2 e2 R r => k H2 e2 3 4 _ R r, ?_⟩
      have hly := hl y (List.mem_of_getElem? hy)
      obtain ⟨j, kvs, p, k1, k2, k3, k4⟩ := hly.2.2
      refine ed_meth (ev_var rfl) (e1 _ _ (g2.bas _ _ ob)) rfl (eds_cons (ed_var rfl (.int y.1)) fun N3 a3 => eds_cons (ed_var rfl (hz2.ex a3)) fun N4 a4 => eds_nil) fun vs N3 H5 a3 b3 hvs Q q' => ?_
      cases hvs with
      | cons u1 u2 =>
      cases u2 with
      | cons u2 u3 =>
      cases u3
      cases u1
      have eL : Ex L N3 := (g2.bas.trans e1).trans a3
      exact ⟨N3, a, h, m, w, xs, y.1, kn y.1, _, y.2, rfl, b3, o.ex eL, ⟨j, kvs, p, k1, eL _ _ k2, k3, eL _ _ k4⟩, u2, hly.1, q'⟩
    · have e9 := plain_words (ls.map fun l => l.2.filter fun s => !hasW (kn l.1) s)
      rw [List.map_map] at e9
      exact e9
    · intro x hx
      obtain ⟨l, hl', rfl⟩ := List.mem_map.mp hx
      have z1 := (hl l hl').1
      have z2 := List.length_filter_le (fun s => !hasW (kn l.1) s) l.2
      show ((((l.2.filter fun s => !hasW (kn l.1) s).map PyData.str).length : Nat) : Int) < 2 ^ 63
      rw [List.length_map]
      omega
    · cases hv'
      have e9 : ((ls.map fun l => wordsD (l.2.filter fun s => !hasW (kn l.1) s)).any PyData.truthy) = ls.any fun l => !(l.2.filter fun s => !hasW (kn l.1) s).isEmpty := by
        rw [List.any_map]
        congr 1
        funext l
        show (!((l.2.filter fun s => !hasW (kn l.1) s).map PyData.str).isEmpty) = _
        rw [List.isEmpty_map]
      rw [e9]
      exact q N H4 (g2.trans (g.ahead e3))
end
end Sg
end
section
set_option maxRecDepth 100000
set_option maxHeartbeats 4000000
/-! Lots: what its methods change. -/
namespace Sg
open PySem PySem.Spec PyProof.Rows L2 Evl
theorem upd_none {H : Hp} {p b : Addr} {o : HO} (h : upd H p o b = none) : b ≠ p ∧ H b = none := by
  by_cases e : b = p
  · subst e
    rw [upd_same] at h
    cases h
  · rw [upd_ne e] at h
    exact ⟨e, h⟩
theorem Ex.put {L H : Hp} {p : Addr} {o : HO} (e : Ex L H) (h : L p = none) : Ex L (upd H p o) := fun b u hb => by
  have : b ≠ p := fun z => by rw [z, h] at hb; cases hb
  rw [upd_ne this]
  exact e b u hb
theorem Mv.got {L H H2 : Hp} {p : Addr} {o : HO} (e : Ex L H) (a : Ex H H2) (hp : H p = none) (h : H2 p = some o) : Mv L H (upd L p o) H2 := ⟨fun b u hb => by
  by_cases eb : b = p
  · subst eb
    rw [upd_same] at hb
    rw [h]
    exact hb
  · rw [upd_ne eb] at hb
    exact a b u (e b u hb), fun b h1 h2 => by
  have eb : b ≠ p := fun z => h2 (z ▸ hp)
  refine ⟨?_, by rw [upd_ne eb]; exact h1⟩
  cases e3 : H b with
  | none => exact absurd e3 h2
  | some u => exact a b u e3⟩
/-- a new dict, fresh -/
def EvCn (te : TE) (σ : L2.St) (H : Hp) (o : HO) : Prop := ∀ H1, Ex H H1 → ∀ Q : VK, (∀ p N H2, H1 p = none → Gr H H1 N H2 → N p = some o → Q (.ref p) H2) → te σ H1 Q
theorem ed_dcn {K : PySem.W.Frag} {σ : L2.St} {H : Hp} {tk tv : TE} {β : Type} {wi : TI} {g : TG} {vs : List Nat} {Pw : Hp → Nat → V → Prop} (ys : List β) (kf : β → Key) (vf : β → V) (hz : ys.length ≤ 30000) (hwi : WiD wi σ H ys.length Pw)
    (hg : ∀ (i : Nat) (x : V) (y : β) N, Ex H N → ys[i]? = some y → Pw N i x → ∃ σ2 : L2.St, wipe σ2 vs = wipe σ vs ∧ (∀ H2, Ex N H2 → ∀ R : L2.St → Hp → Prop, R σ2 H2 → g x (wipe σ vs) H2 R) ∧ EvD K tk σ2 N (kD (kf y)) ∧ ∀ N', Ex N N' → Ev tv σ2 N' (vf y)) :
    EvCn (tDc wi g tYes tk tv vs) σ H (.dK (puts kf vf ys)) := fun H0 e Q q => hwi H0 e _ fun J N1 H1 G F D hD => by
  have nD : N1 D = none := fresh_back G.sub hD
  refine ⟨fun i m H' => m = ys.length - i ∧ i ≤ ys.length ∧ HoldO N1 H1 D (.dK (puts kf vf (ys.take i))) H', ⟨ys.length, by simp, Nat.zero_le _, N1, .old G.sub (Ex.new hD), nD, upd_same⟩, ?_⟩
  rintro i m H' ⟨rfl, hi, hold⟩
  by_cases lt : i < ys.length
  · obtain ⟨B, c1, c2, c3⟩ := hold
    refine .inr ⟨F.go H' (c1.bas.trans c1.sub) i lt, fun H2 => HoldO N1 H1 D (.dK (puts kf vf (ys.take (i + 1)))) H2, fun H2 z => ⟨ys.length - (i + 1), by omega, rfl, lt, z⟩, fun x H2 y => ?_⟩
    obtain ⟨B2, f, px⟩ := F.yld B H' i x H2 c1.bas c1.sub lt y
    obtain ⟨d1, d2, d3⟩ := HoldO.on c1 c2 c3 f
    have ey : ys[i]? = some ys[i] := List.getElem?_eq_getElem lt
    have tk' : ys.take (i + 1) = ys.take i ++ [ys[i]] := by rw [List.take_succ, ey]; rfl
    obtain ⟨σ2, w2, gg, hk, hv⟩ := hg i x ys[i] B2 (G.bas.trans d1.bas) ey px
    refine gg _ d1.sub _ ⟨w2, ?_⟩
    refine hk H2 d1.sub _ fun v N4 H4 g4 hd => ?_
    obtain ⟨f1, f2, f3⟩ := HoldO.on d1 d2 d3 g4
    refine hv N4 g4.bas H4 f1.sub _ fun H5 e5 => ?_
    obtain ⟨h1, h2, h3⟩ := HoldO.on f1 f2 f3 (.old f1.sub e5)
    refine ⟨_, kf ys[i], key_da hd, h3, ?_, N4, ?_, h2, ?_⟩
    · have l1 := puts_len kf vf (ys.take i)
      rw [List.length_take] at l1
      rw [sizeLine_eq]
      omega
    · exact Gr.put h1 hD h2
    · rw [upd_same, tk', puts_snoc]
  · obtain rfl : i = ys.length := by omega
    rw [List.take_length] at hold
    obtain ⟨B, c1, _, _⟩ := id hold
    obtain ⟨N, gN, hN⟩ := hold.known hD
    exact .inl ⟨F.stop H' (c1.bas.trans c1.sub), q D N H' (fresh_back G.act hD) (G.trans gN) hN⟩
theorem d_dputC {td ty tv : TE} {tz : TS} {D : Ends} {σ : L2.St} {B H1 : Hp} {o : HO} (h : EvCn tv σ B o) (a : Ex B H1)
    (k : ∀ p N H2, H1 p = none → Gr B H1 N H2 → N p = some o → td σ H2 fun x H3 => ty σ H3 fun y H4 => ∃ c H5, x = .ref c ∧ DPut H4 c y (.ref p) H5 ∧ tz D σ H5) : tSeq (sDPut td ty tv) tz D σ H1 := h H1 a _ k
/-- a loop over known data, whose turns change what is not known -/
theorem d_forM {K : PySem.W.Frag} {wi : TI} {g : TG} {tu : TS} {D : Ends} {σ : L2.St} {B0 H1 : Hp} {n : Nat} {P : Hp → Nat → V → Prop} (hwi : WiD wi σ B0 n P) (a : Ex B0 H1) (Inv : Hp → Nat → L2.St → Hp → Prop)
    (h0 : ∀ N H2, Gr B0 H1 N H2 → Inv N 0 σ H2)
    (hs : ∀ (N H2 : Hp) (i : Nat) (x : V) (σ' : L2.St) (B H' H3 : Hp), Gr B0 H1 N H2 → i < n → Ex N H' → Inv N i σ' H' → Gr N H' B H3 → P B i x → ∀ Nx : L2.St → Hp → Prop, (∀ σ4 H4, Ex N H4 → Inv N (i + 1) σ4 H4 → Nx σ4 H4) → g x σ' H3 fun σ2 H4 => tu { D with nx := Nx, ct := Nx, bk := D.nx } σ2 H4)
    (hd : ∀ N H2 σ' H', Gr B0 H1 N H2 → Ex N H' → Inv N n σ' H' → D.nx σ' H') : tFor wi g tu D σ H1 :=
  hwi H1 a _ fun J N1 H2 G F => by
    refine ⟨fun i m σ' H' => m = n - i ∧ i ≤ n ∧ Ex N1 H' ∧ Inv N1 i σ' H', ⟨n, by simp, Nat.zero_le _, G.sub, h0 N1 H2 G⟩, ?_⟩
    rintro i m σ' H' ⟨rfl, hi, b1, b2⟩
    by_cases hlt : i < n
    · refine .inr ⟨F.go H' b1 i hlt, fun σ3 H3 => Ex N1 H3 ∧ Inv N1 (i + 1) σ3 H3, fun σ3 H3 p' => ⟨n - (i + 1), by omega, rfl, hlt, p'⟩, fun x H3 y => ?_⟩
      obtain ⟨B2, g2, px⟩ := F.yld N1 H' i x H3 (Ex.refl _) b1 hlt y
      exact hs N1 H2 i x σ' B2 H' H3 G hlt b1 b2 g2 px _ fun σ4 H4 e4 i4 => ⟨e4, i4⟩
    · have ei : i = n := by omega
      subst ei
      exact .inl ⟨F.stop H' b1, hd N1 H2 σ' H' G b1 b2⟩
/-! ### Lots of lots that are one place each -/
def headsV (n : Nat) : List V := (List.range n).map fun (i : Nat) => V.int (i : Int)
def placeV (n : Nat) (f : Nat → Addr) : List (Key × V) := (List.range n).map fun (i : Nat) => ((Sum.inl (i : Int) : Key), V.ref (f i))
def setN {α : Type} (f : Nat → α) (n : Nat) (x : α) : Nat → α := fun i => if i = n then x else f i
theorem setN_same {α : Type} {f : Nat → α} {n : Nat} {x : α} : setN f n x n = x := if_pos rfl
theorem setN_ne {α : Type} {f : Nat → α} {n i : Nat} {x : α} (h : i ≠ n) : setN f n x i = f i := if_neg h
theorem headsV_succ (n : Nat) : headsV (n + 1) = headsV n ++ [.int (n : Int)] := by
  unfold headsV
  rw [List.range_succ, List.map_append]
  rfl
theorem headsV_len (n : Nat) : (headsV n).length = n := by
  unfold headsV
  rw [List.length_map, List.length_range]
theorem headsV_at {n i : Nat} (h : i < n) : (headsV n)[i]? = some (.int (i : Int)) := by
  unfold headsV
  rw [List.getElem?_map, List.getElem?_range h]
  rfl
theorem placeV_len (n : Nat) (f : Nat → Addr) : (placeV n f).length = n := by
  unfold placeV
  rw [List.length_map, List.length_range]
theorem placeV_succ (n : Nat) (f : Nat → Addr) (p : Addr) : placeV (n + 1) (setN f n p) = placeV n f ++ [((Sum.inl (n : Int) : Key), V.ref p)] := by
  unfold placeV
  rw [List.range_succ, List.map_append]
  congr 1
  · refine List.map_congr_left fun i hi => ?_
    rw [setN_ne (Nat.ne_of_lt (List.mem_range.mp hi))]
  · simp [setN]
theorem valV_place {f : Nat → Addr} : ∀ {n : Nat} {k : Int}, valV (placeV n f) (.inl k) = if 0 ≤ k ∧ k < (n : Int) then some (.ref (f k.toNat)) else none := by
  intro n
  induction n with
  | zero =>
    intro k
    rw [if_neg (by omega)]
    rfl
  | succ n ih =>
    intro k
    have e : placeV (n + 1) f = placeV n f ++ [((Sum.inl (n : Int) : Key), V.ref (f n))] := by
      have := placeV_succ n f (f n)
      rw [← this]
      congr 1
      funext i
      unfold setN
      split
      · rename_i h; rw [h]
      · rfl
    have hn : valV (placeV n f) (Sum.inl (n : Int)) = none := by
      rw [ih, if_neg (by omega)]
    rw [e, ← putK_new (V.ref (f n)) hn, valV_put]
    by_cases h : (Sum.inl k : Key) = Sum.inl (n : Int)
    · cases h
      rw [if_pos rfl, if_pos ⟨by omega, by omega⟩, Int.toNat_natCast]
    · have hk : k ≠ (n : Int) := fun z => h (by rw [z])
      rw [if_neg h, ih]
      by_cases h2 : 0 ≤ k ∧ k < (n : Int)
      · rw [if_pos h2, if_pos ⟨h2.1, by omega⟩]
      · rw [if_neg h2, if_neg (by omega)]
structure LotsIn (C : Addr) (L : Hp) (a h m w : Addr) (ma wa : Nat → Addr) (n : Nat) (wk : Nat → List (Key × V)) : Prop where
  ob : ∃ dx, L a = some (.ins C dx (lotF h m w))
  hd : L h = some (.lst (headsV n))
  mb : L m = some (.dK (placeV n ma))
  wd : L w = some (.dK (placeV n wa))
  ml : ∀ i, i < n → L (ma i) = some (.lst [.int (i : Int)])
  wl : ∀ i, i < n → L (wa i) = some (.dK (wk i))
  inj : ∀ i j, i < n → j < n → wa i = wa j → i = j
  mh : ∀ i, i < n → ma i ≠ h
  mw : m ≠ w
  wm : ∀ i, i < n → wa i ≠ m ∧ wa i ≠ w
def LotsAt (C : Addr) (L : Hp) (a : Addr) (n : Nat) (wk : Nat → List (Key × V)) : Prop := ∃ h m w ma wa, LotsIn C L a h m w ma wa n wk
theorem LotsIn.ex {C : Addr} {L L' : Hp} {a h m w : Addr} {ma wa : Nat → Addr} {n : Nat} {wk : Nat → List (Key × V)} (o : LotsIn C L a h m w ma wa n wk) (e : Ex L L') : LotsIn C L' a h m w ma wa n wk := by
  obtain ⟨⟨dx, h1⟩, h2, h3, h4, h5, h6, h7, h8, h9, h10⟩ := o
  exact ⟨⟨dx, e _ _ h1⟩, e _ _ h2, e _ _ h3, e _ _ h4, fun i hi => e _ _ (h5 i hi), fun i hi => e _ _ (h6 i hi), h7, h8, h9, h10⟩
theorem LotsIn.lotO {C : Addr} {L : Hp} {a h m w : Addr} {ma wa : Nat → Addr} {n : Nat} {wk : Nat → List (Key × V)} (o : LotsIn C L a h m w ma wa n wk) : LotO C L a h m w (headsV n) := ⟨o.ob, o.hd⟩
def noneH : Hp := fun _ => none
def spLotsInit (C : Addr) : Sp := fun vs H Q _ => ∃ H0 a dx, vs = [.ref a] ∧ H0 a = none ∧ H0 dx = none ∧ dx ≠ a ∧ H = upd (upd H0 dx (.own a)) a (.ins C dx []) ∧ ∀ L H', Mv noneH H0 L H' → LotsAt C L a 0 (fun _ => []) → Q .non H'
def spNew (K : PySem.W.Frag) (C : Addr) : Sp := fun vs H Q _ => ∃ D L a n wk v ws, vs = [.ref a, v] ∧ Ex D H ∧ Ex L H ∧ Dj D L ∧ LotsAt C L a n wk ∧ n ≤ 1000 ∧ Da K D v (wordsD ws) ∧ ws.length ≤ 1000 ∧ ∀ L' H', Mv L H L' H' → LotsAt C L' a (n + 1) (setN wk n (puts (fun s => .inr s) (fun _ => .bl true) ws)) → Q (.int (n : Int)) H'
section
variable {P : Program} {w : World} {K : PySem.W.Frag} {mg : Str → Option Value} {base : Heap} {C : Addr}
abbrev s_Lots___init__ : Stmt := inClass (topS 37) 0
theorem sc_Lots___init__ : FnScope ["self"] ["self"] (defScope s_Lots___init__) := ⟨rfl, rfl, rfl, by decide +kernel, rfl, by decide +kernel, by decide +kernel⟩
theorem ok_Lots___init__ (T : TLots K C) {f : Addr} {fd : FuncData} (F : Fun K "__init__" "Lots.__init__" s_Lots___init__ f fd) : FnOk P w K mg base CX0 1 f fd ["self"] (spLotsInit C) := by
  refine F.ok sc_Lots___init__ (fun vs H Q E h => ?_) (fun cdv A outer s H vs Q E hr h => ?_)
  · obtain ⟨H0, a, dx, rfl, _⟩ := h
    rfl
  obtain ⟨H0, a, dx, rfl, a0, d0, da, rfl, q⟩ := h
  refine ⟨_, (pss_cons (ps_fld (pv 0) (pe_lst pa_nil) rfl)
      (pss_cons (ps_fld (pv 0) pe_dnewK rfl)
      (pss_one (ps_fld (pv 0) pe_dnewK rfl)))), ?_⟩
  refine ⟨Nat.zero_le _, fun h hh => ?_⟩
  obtain ⟨ha, hh⟩ := upd_none hh
  obtain ⟨hx, h0⟩ := upd_none hh
  refine ⟨_, rfl, a, C, dx, [], rfl, (by rw [upd_ne ha.symm]; exact upd_same), T.cl, T.nh, (by show 0 < 1000; decide), ?_⟩
  intro m hm
  obtain ⟨ma, hm⟩ := upd_none hm
  obtain ⟨mh, hm⟩ := upd_none hm
  obtain ⟨_, hm⟩ := upd_none hm
  obtain ⟨mx, m0⟩ := upd_none hm
  refine ⟨_, rfl, a, C, dx, _, rfl, (by rw [upd_ne ma.symm]; exact upd_same), T.cl, T.nm, (by show 1 < 1000; decide), ?_⟩
  intro w hw
  obtain ⟨wa, hw⟩ := upd_none hw
  obtain ⟨wm, hw⟩ := upd_none hw
  obtain ⟨_, hw⟩ := upd_none hw
  obtain ⟨wh, hw⟩ := upd_none hw
  obtain ⟨_, hw⟩ := upd_none hw
  obtain ⟨wx, w0⟩ := upd_none hw
  refine ⟨_, rfl, a, C, dx, _, rfl, (by rw [upd_ne wa.symm]; exact upd_same), T.cl, T.nw, (by show 2 < 1000; decide), ?_⟩
  refine q (upd (upd (upd (upd noneH a (.ins C dx (lotF h m w))) h (.lst [])) m (.dK [])) w (.dK [])) _ ⟨?_, ?_⟩ ⟨h, m, w, fun _ => 0, fun _ => 0, ⟨dx, ?_⟩, ?_, ?_, ?_, ?_, ?_, ?_, ?_, ?_, ?_⟩
  · have ef : putF "words" (V.ref w) (putF "members" (V.ref m) (putF "heads" (V.ref h) [])) = lotF h m w := rfl
    intro b o hb
    rw [ef]
    by_cases b1 : b = a
    · subst b1
      simp only [upd, ha.symm, ma.symm, wa.symm, if_false, if_true] at hb ⊢
      exact hb
    by_cases b2 : b = w
    · subst b2
      simp only [upd, b1, if_false, if_true] at hb ⊢
      exact hb
    by_cases b3 : b = m
    · subst b3
      simp only [upd, b1, b2, if_false, if_true] at hb ⊢
      exact hb
    by_cases b4 : b = h
    · subst b4
      simp only [upd, b1, b2, b3, if_false, if_true] at hb ⊢
      exact hb
    simp only [upd, b1, b2, b3, b4, if_false, noneH] at hb
    cases hb
  · intro b _ hb
    have n1 : b ≠ a := fun z => hb (z ▸ a0)
    have n2 : b ≠ dx := fun z => hb (z ▸ d0)
    have n3 : b ≠ h := fun z => hb (z ▸ h0)
    have n4 : b ≠ m := fun z => hb (z ▸ m0)
    have n5 : b ≠ w := fun z => hb (z ▸ w0)
    constructor
    · simp only [upd, n1, n2, n3, n4, n5, if_false]
    · simp only [upd, n1, n2, n3, n4, n5, if_false, noneH]
  · simp only [upd, wa.symm, ma.symm, ha.symm, if_false, if_true]
  · simp only [upd, wh.symm, mh.symm, if_false, if_true]
    rfl
  · simp only [upd, wm.symm, if_false, if_true]
    rfl
  · simp only [upd, if_true]
    rfl
  · exact fun i hi => absurd hi (Nat.not_lt_zero i)
  · exact fun i hi => absurd hi (Nat.not_lt_zero i)
  · exact fun i j hi => absurd hi (Nat.not_lt_zero i)
  · exact fun i hi => absurd hi (Nat.not_lt_zero i)
  · exact wm.symm
  · exact fun i hi => absurd hi (Nat.not_lt_zero i)
abbrev s_Lots_new : Stmt := inClass (topS 37) 1
theorem sc_Lots_new : FnScope ["self", "words", "place", "word"] ["self", "words"] (defScope s_Lots_new) := ⟨rfl, rfl, rfl, by decide +kernel, rfl, by decide +kernel, by decide +kernel⟩
theorem ok_Lots_new (M : MgO mg) (T : TLots K C) {f : Addr} {fd : FuncData} (F : Fun K "new" "Lots.new" s_Lots_new f fd) : FnOk P w K mg base CX0 1 f fd ["self", "words"] (spNew K C) := by
  refine F.ok sc_Lots_new (fun vs H Q E h => ?_) (fun cdv A outer s H vs Q E hr h => ?_)
  · obtain ⟨D, L, a, n, wk, v, ws, rfl, _⟩ := h
    rfl
  obtain ⟨D, L, a, n, wk, v, ws, rfl, eD, eL, dj, ⟨h, m, w, ma, wa, o⟩, hn, hv, hz, q⟩ := h
  obtain ⟨dx, ob⟩ := o.ob
  refine ⟨_, (pss_cons (ps_set (i := 2) sc_Lots_new.nd rfl (by first | exact Or.inl rfl | exact Or.inr rfl) (pe_callB (call_lenK (K := K)) (by rfl) M.m_len boot_len (pa_cons (pe_fldK (K := K) (pv 0) rfl) pa_nil)))
      (pss_cons (ps_expr (pe_bm PySem.F.plainAttrs_list PySem.F.slot_list_append PySem.F.type_list_append mt_append (pe_fldK (K := K) (pv 0) rfl) (pa_cons (pv 2) pa_nil)))
      (pss_cons (ps_dput (units1 hr) (pe_fldK (K := K) (pv 0) rfl) (pv 2) (pe_lst (pa_cons (pv 2) pa_nil)) rfl)
      (pss_cons (ps_dput (units1 hr) (pe_fldK (K := K) (pv 0) rfl) (pv 2) (pe_dc (own := [("word", 3)]) rfl sc_Lots_new.nd (pi_seq (K := K) (pv 1)) (blkOk_by (N := ["self", "words", "place", "word"]) (sc := defScope s_Lots_new) (by decide +kernel)) (fun _ _ _ _ _ => (pg_name (i := 3) sc_Lots_new.nd rfl (by first | exact Or.inl rfl | exact Or.inr rfl))) (fun _ _ _ _ _ => pts_nil) (fun _ _ _ _ _ => (pv 3)) (fun _ _ _ _ _ => pe_bl)) rfl)
      (pss_one (ps_ret (pv 2))))))), ?_⟩
  refine d_asgV (H := L) (v := .int (n : Int)) (ev_is (ev_lenG (n := n) (ev_fld (ev_var rfl) ob T.cl T.nh lotF_h) fun H2 e2 => Or.inl ⟨_, sq_of (e2 _ _ o.hd), (headsV_len n).symm⟩) rfl) eL fun H2 e2 => ?_
  have eL2 : Ex L H2 := eL.trans e2
  -- self.heads.append(place)
  refine ⟨_, rfl, a, C, dx, _, _, rfl, eL2 _ _ ob, T.cl, T.nh, lotF_h, .inl ⟨rfl, _, SqL.of (eL2 _ _ o.hd)⟩, _, rfl, h, _, _, rfl, rfl, eL2 _ _ o.hd, (by rw [headsV_len]; exact sz_lt (by omega)), ?_⟩
  have nah : a ≠ h := ne_of ob o.hd (by intro z; cases z)
  have nmh : m ≠ h := ne_of o.mb o.hd (by intro z; cases z)
  have nwh : w ≠ h := ne_of o.wd o.hd (by intro z; cases z)
  -- self.members[place] = [place]
  refine ⟨_, rfl, (by show 1 ≤ sizeLine; decide), fun p1 hp1 => ?_⟩
  obtain ⟨p1h, hp1⟩ := upd_none hp1
  have Lp1 : L p1 = none := fresh_back eL2 hp1
  have np1 : ∀ {x o}, L x = some o → x ≠ p1 := fun hx => ne_of_none hx Lp1
  refine ⟨_, rfl, a, C, dx, _, _, rfl, (by rw [upd_ne (np1 ob), upd_ne nah]; exact eL2 _ _ ob), T.cl, T.nm, lotF_m, _, rfl, m, _, rfl,
    DPut.k (k := .inl (n : Int)) (by rw [upd_ne (np1 o.mb), upd_ne nmh]; exact eL2 _ _ o.mb) (by rw [placeV_len]; exact sz_lt (by omega)), ?_⟩
  -- self.words[place] = {word: True for word in words}
  have eD2 : Ex D H2 := eD.trans e2
  have Dn : ∀ {x o}, L x = some o → D x = none := fun {x o} hx => (dj x).resolve_right (by rw [hx]; simp)
  have hw0 := wd_seqT (K := K) (H := D) (σ := [some (.ref a), some v, some (.int (n : Int)), none]) (tl := tVar 1) (ds := ws.map .str) (ed_var rfl hv)
  rw [List.length_map] at hw0
  refine d_dputC (B := D) (ed_dcn (K := K) (H := D) (Pw := PD K (ws.map .str)) ws (fun s => .inr s) (fun _ => .bl true) (by omega) hw0 fun i x y N e1 hy hx => ?_) (Ex.put (Ex.put (Ex.put eD2 (Dn o.hd)) (fresh_back eD2 hp1)) (Dn o.mb)) fun p2 N H6 hp2 g2 hN => ?_
  · have hx := pd_map hy hx
    cases hx
    exact ⟨[some (.ref a), some v, some (.int (n : Int)), some (.str y)], rfl, fun _ _ _ r => r, ed_var rfl (.str y), fun _ _ => ev_c⟩
  obtain ⟨p2m, hp2'⟩ := upd_none hp2
  obtain ⟨p2p, hp2'⟩ := upd_none hp2'
  obtain ⟨p2h, hp2'⟩ := upd_none hp2'
  have Lp2 : L p2 = none := fresh_back eL2 hp2'
  have np2 : ∀ {x o}, L x = some o → x ≠ p2 := fun hx => ne_of_none hx Lp2
  have nam : a ≠ m := ne_of ob o.mb (by intro z; cases z)
  have naw : a ≠ w := ne_of ob o.wd (by intro z; cases z)
  refine ⟨_, rfl, a, C, dx, _, _, rfl, g2.act _ _ (by rw [upd_ne nam, upd_ne (np1 ob), upd_ne nah]; exact eL2 _ _ ob), T.cl, T.nw, lotF_w, _, rfl, w, _, rfl,
    DPut.k (k := .inl (n : Int)) (g2.act _ _ (by rw [upd_ne o.mw.symm, upd_ne (np1 o.wd), upd_ne nwh]; exact eL2 _ _ o.wd)) (by rw [placeV_len]; exact sz_lt (by omega)), ?_⟩
  have emb : putK (placeV n ma) (.inl (n : Int)) (.ref p1) = placeV (n + 1) (setN ma n p1) := by
    rw [putK_new _ (by rw [valV_place, if_neg (by omega)]), placeV_succ]
  have ewd : putK (placeV n wa) (.inl (n : Int)) (.ref p2) = placeV (n + 1) (setN wa n p2) := by
    rw [putK_new _ (by rw [valV_place, if_neg (by omega)]), placeV_succ]
  have m1 := (Mv.old eL e2).trans (Mv.put (o := .lst (headsV n ++ [.int (n : Int)])) eL2 o.hd)
  have m2 := m1.trans (Mv.new (p := p1) (o := .lst [.int (n : Int)]) m1.sub (by rw [upd_ne p1h]; exact hp1))
  have m3 := m2.trans (Mv.put (p := m) (o := .dK (putK (placeV n ma) (.inl (n : Int)) (.ref p1))) m2.sub (by rw [upd_ne (np1 o.mb), upd_ne nmh]; exact o.mb))
  have m4 := m3.trans (Mv.got (p := p2) m3.sub g2.act hp2 (g2.sub _ _ hN))
  have m5 := m4.trans (Mv.put (p := w) (o := .dK (putK (placeV n wa) (.inl (n : Int)) (.ref p2))) m4.sub (by rw [upd_ne (np2 o.wd), upd_ne o.mw.symm, upd_ne (np1 o.wd), upd_ne nwh]; exact o.wd))
  refine ⟨_, rfl, q _ _ m5 ⟨h, m, w, setN ma n p1, setN wa n p2, ?_⟩⟩
  have keep : ∀ {x u}, L x = some u → x ≠ h → x ≠ m → x ≠ w → (upd (upd (upd (upd (upd L h (.lst (headsV n ++ [.int (n : Int)]))) p1 (.lst [.int (n : Int)])) m (.dK (putK (placeV n ma) (.inl (n : Int)) (.ref p1)))) p2 (.dK (puts (fun s => .inr s) (fun _ => .bl true) ws))) w (.dK (putK (placeV n wa) (.inl (n : Int)) (.ref p2)))) x = some u := fun hx h1 h2 h3 => by
    rw [upd_ne h3, upd_ne (np2 hx), upd_ne h2, upd_ne (np1 hx), upd_ne h1]
    exact hx
  have nhw : h ≠ w := nwh.symm
  have nhm : h ≠ m := nmh.symm
  have p2w : p2 ≠ w := (np2 o.wd).symm
  have p1m : p1 ≠ m := (np1 o.mb).symm
  have p1w : p1 ≠ w := (np1 o.wd).symm
  have mlh : ∀ i, i < n → ma i ≠ m ∧ ma i ≠ w := fun i hi => ⟨ne_of (o.ml i hi) o.mb (by intro z; cases z), ne_of (o.ml i hi) o.wd (by intro z; cases z)⟩
  have wlh : ∀ i, i < n → wa i ≠ h := fun i hi => ne_of (o.wl i hi) o.hd (by intro z; cases z)
  refine ⟨⟨dx, keep ob nah nam naw⟩, ?_, ?_, ?_, fun i hi => ?_, fun i hi => ?_, fun i j hi hj e => ?_, fun i hi => ?_, o.mw, fun i hi => ?_⟩
  · rw [upd_ne nhw, upd_ne p2h.symm, upd_ne nhm, upd_ne p1h.symm, upd_same, headsV_succ]
  · rw [upd_ne o.mw, upd_ne p2m.symm, upd_same, emb]
  · rw [upd_same, ewd]
  · by_cases e : i = n
    · subst e
      rw [setN_same, upd_ne p1w, upd_ne p2p.symm, upd_ne p1m, upd_same]
    · have hi' : i < n := by omega
      rw [setN_ne e]
      exact keep (o.ml i hi') (o.mh i hi') (mlh i hi').1 (mlh i hi').2
  · by_cases e : i = n
    · subst e
      rw [setN_same, setN_same, upd_ne p2w, upd_same]
    · have hi' : i < n := by omega
      rw [setN_ne e, setN_ne e]
      exact keep (o.wl i hi') (wlh i hi') (o.wm i hi').1 (o.wm i hi').2
  · by_cases ei : i = n
    · by_cases ej : j = n
      · rw [ei, ej]
      · subst ei
        rw [setN_same, setN_ne ej] at e
        exact absurd e.symm (np2 (o.wl j (by omega)))
    · by_cases ej : j = n
      · subst ej
        rw [setN_same, setN_ne ei] at e
        exact absurd e (np2 (o.wl i (by omega)))
      · rw [setN_ne ei, setN_ne ej] at e
        exact o.inj i j (by omega) (by omega) e
  · by_cases e : i = n
    · subst e
      rw [setN_same]
      exact p1h
    · rw [setN_ne e]
      exact o.mh i (by omega)
  · by_cases e : i = n
    · subst e
      rw [setN_same]
      exact ⟨p2m, p2w⟩
    · rw [setN_ne e]
      exact o.wm i (by omega)
end
end Sg
end
section
set_option maxRecDepth 100000
set_option maxHeartbeats 4000000
/-! Lots: learn, unite, listed. -/
namespace Sg
open PySem PySem.Spec PyProof.Rows L2 Evl
/-- words put into a dict -/
def putW (kv : List (Key × V)) (ws : List Str) : List (Key × V) := ws.foldl (fun kvs s => putK kvs (.inr s) (.bl true)) kv
theorem putW_snoc (kv : List (Key × V)) (ws : List Str) (s : Str) : putW kv (ws ++ [s]) = putK (putW kv ws) (.inr s) (.bl true) := by
  unfold putW
  rw [List.foldl_append]
  rfl
theorem putW_len : ∀ (ws : List Str) (kv : List (Key × V)), (putW kv ws).length ≤ kv.length + ws.length
  | [], kv => Nat.le_refl _
  | s :: ws, kv => by
    have h1 := putW_len ws (putK kv (.inr s) (.bl true))
    have h2 := length_putK kv (.inr s) (.bl true)
    show (putW (putK kv (.inr s) (.bl true)) ws).length ≤ _
    rw [List.length_cons]
    omega
theorem hasW_putK (kv : List (Key × V)) (s t : Str) : hasW (putK kv (.inr t) (.bl true)) s = (decide (s = t) || hasW kv s) := by
  unfold hasW
  rw [valV_put]
  by_cases h : s = t
  · subst h
    simp
  · have : ¬ ((.inr s : Key) = .inr t) := fun z => h (by cases z; rfl)
    rw [if_neg this]
    simp [h]
theorem hasW_putW : ∀ (ws : List Str) (kv : List (Key × V)) (s : Str), hasW (putW kv ws) s = (decide (s ∈ ws) || hasW kv s)
  | [], kv, s => by simp [putW]
  | t :: ws, kv, s => by
    show hasW (putW (putK kv (.inr t) (.bl true)) ws) s = _
    rw [hasW_putW ws, hasW_putK]
    by_cases h1 : s = t <;> by_cases h2 : s ∈ ws <;> simp [h1, h2]
theorem valV_drop {kvs : List (Key × V)} {k j : Key} (h : j ≠ k) : valV (dropK kvs k) j = valV kvs j := by
  induction kvs with
  | nil => rfl
  | cons p r ih =>
    unfold dropK at ih ⊢
    by_cases e : p.1 = k
    · have e1 : List.filter (fun kv : Key × V => decide (kv.1 ≠ k)) (p :: r) = List.filter (fun kv : Key × V => decide (kv.1 ≠ k)) r := List.filter_cons_of_neg (by simp [e])
      rw [valV_neg (p := p) (fun z => h (z.symm.trans e)), ← ih]
      exact congrArg (fun l => valV l j) e1
    · have e1 : List.filter (fun kv : Key × V => decide (kv.1 ≠ k)) (p :: r) = p :: List.filter (fun kv : Key × V => decide (kv.1 ≠ k)) r := List.filter_cons_of_pos (by simp [e])
      refine (congrArg (fun l => valV l j) e1).trans ?_
      by_cases e2 : p.1 = j
      · rw [valV_pos e2, valV_pos e2]
      · rw [valV_neg e2, valV_neg e2]
        exact ih
def spLearn (K : PySem.W.Frag) (C : Addr) : Sp := fun vs H Q _ => ∃ D L a k v ws h m w xs j kvs p kv, vs = [.ref a, .int k, v] ∧ Ex D H ∧ Ex L H ∧ Dj D L ∧ LotO C L a h m w xs ∧ atI xs k = some (.int j) ∧ L w = some (.dK kvs) ∧ valV kvs (.inl j) = some (.ref p) ∧ L p = some (.dK kv) ∧
  kv.length + ws.length ≤ 5000 ∧ (Da K D v (wordsD ws) ∨ Da K D v (.list (ws.map .str))) ∧ ∀ H', Mv L H (upd L p (.dK (putW kv ws))) H' → Q .non H'
section
variable {P : Program} {w : World} {K : PySem.W.Frag} {mg : Str → Option Value} {base : Heap} {C : Addr}
theorem wd_seqM {σ : L2.St} {H : Hp} {tl : TE} {v : V} {ws : List Str} (h : Ev tl σ H v) (hv : Da K H v (wordsD ws) ∨ Da K H v (.list (ws.map .str))) : WiD (iSeq K tl) σ H ws.length (PD K (ws.map .str)) := by
  have e : (ws.map PyData.str).length = ws.length := List.length_map _
  rw [← e]
  rcases hv with hv | hv
  · exact wd_seqT (ed_of h hv)
  · exact wd_seqL (ed_of h hv)
abbrev s_Lots_learn : Stmt := inClass (topS 37) 9
theorem sc_Lots_learn : FnScope ["self", "place", "words", "known", "word"] ["self", "place", "words"] (defScope s_Lots_learn) := ⟨rfl, rfl, rfl, by decide +kernel, rfl, by decide +kernel, by decide +kernel⟩
theorem ok_Lots_learn (M : MgO mg) (T : TLots K C) {f : Addr} {fd : FuncData} (F : Fun K "learn" "Lots.learn" s_Lots_learn f fd) : FnOk P w K mg base CX0 1 f fd ["self", "place", "words"] (spLearn K C) := by
  refine F.ok sc_Lots_learn (fun vs H Q E h => ?_) (fun cdv A outer s H vs Q E hr h => ?_)
  · obtain ⟨D, L, a, k, v, ws, h, m, w, xs, j, kvs, p, kv, rfl, _⟩ := h
    rfl
  obtain ⟨D, L, a, k, v, ws, h, m, w, xs, j, kvs, p, kv, rfl, eD, eL, dj, o, h1, h2, h3, h4, hz, hv, q⟩ := h
  obtain ⟨⟨dx, ob⟩, hd⟩ := id o
  refine ⟨_, (pss_cons (ps_set (i := 3) sc_Lots_learn.nd rfl (by first | exact Or.inl rfl | exact Or.inr rfl) (pe_dget (units1 hr) (pe_fldK (K := K) (pv 0) rfl) (pe_ix (ix_listK (K := K)) (pe_fldK (K := K) (pv 0) rfl) (pv 1) (fun _ _ => rfl)) (fun _ _ => rfl)))
      (pss_one (ps_for PassesOwn.never rfl (pi_seq (K := K) (pv 2)) (pg_name (i := 4) sc_Lots_learn.nd rfl (by first | exact Or.inl rfl | exact Or.inr rfl)) (pss_one (ps_dput (units1 hr) (pv 3) (pv 4) pe_bl rfl))))), ?_⟩
  refine d_asgV (H := L) (v := .ref p) (ev_dget (k := .inl j) (ev_fld (ev_var rfl) ob T.cl T.nw lotF_w) (ev_op (ev_fld (ev_var rfl) ob T.cl T.nh lotF_h) (ev_var rfl) (rv_val fun H2 e2 Q q => ⟨h, xs, k, _, rfl, rfl, sq_of (e2 _ _ hd), h1, q⟩)) h2 h3) eL fun H2 e2 => ?_
  have Dp : D p = none := (dj p).resolve_right (by rw [h4]; simp)
  refine d_forM (K := K) (B0 := D) (n := ws.length) (wd_seqM (ev_var rfl) hv) (eD.trans e2) (fun N i σ' H' => ∃ x, σ' = [some (.ref a), some (.int k), some v, some (.ref p), x] ∧ Mv L H (upd L p (.dK (putW kv (ws.take i)))) H') (fun N H3 g => ⟨none, rfl, ?_⟩) (fun N H3 i x σ' B H' H4 g hi eN ⟨y, es, mv⟩ g2 px Nx nx => ?_) fun N H3 σ' H' g eN ⟨y, es, mv⟩ => ?_
  · have e0 : upd L p (.dK (putW kv (ws.take 0))) = L := by
      funext b
      by_cases e : b = p
      · subst e
        rw [upd_same, h4]
        rfl
      · rw [upd_ne e]
    rw [e0]
    exact Mv.old eL (e2.trans g.act)
  · subst es
    have ey : ws[i]? = some ws[i] := List.getElem?_eq_getElem hi
    have hx := pd_map ey px
    cases hx
    have mv2 := mv.to g2.act
    have hp2 := mv2.sub p _ upd_same
    have hl := putW_len (ws.take i) kv
    have hl2 := List.length_take_le i ws
    refine ⟨_, rfl, _, rfl, p, _, rfl, DPut.k (k := .inr ws[i]) hp2 (sz_lt (by omega)), nx _ _ ?_ ⟨some (.str ws[i]), rfl, ?_⟩⟩
    · have Np : N p = none := g.new p Dp (by rw [e2 _ _ (eL _ _ h4)]; simp)
      exact Ex.put (eN.trans g2.act) Np
    · have m3 := mv2.trans (Mv.put (p := p) (o := .dK (putK (putW kv (ws.take i)) (.inr ws[i]) (.bl true))) mv2.sub upd_same)
      rw [upd_upd] at m3
      have tk : ws.take (i + 1) = ws.take i ++ [ws[i]] := by rw [List.take_succ, ey]; rfl
      rw [tk, putW_snoc]
      exact m3
  · rw [List.take_length] at mv
    exact q _ mv
end
end Sg
end
section
set_option maxRecDepth 100000
set_option maxHeartbeats 4000000
/-! Lots: unite, of the first place and the last one. -/
namespace Sg
open PySem PySem.Spec PyProof.Rows L2 Evl
/-- behind it: the last place's head is 0; what was known of the first place still is -/
def LotU (C : Addr) (L : Hp) (a : Addr) (n : Nat) (kn : Str → Bool) : Prop := ∃ h m w kvs p kv, LotO C L a h m w ((headsV n).set (n - 1) (.int 0)) ∧ L w = some (.dK kvs) ∧ valV kvs (.inl 0) = some (.ref p) ∧ L p = some (.dK kv) ∧ (∀ s, kn s = true → hasW kv s = true) ∧ ∀ i : Nat, 0 < i → i < n - 1 → ∃ p kv, valV kvs (.inl (i : Int)) = some (.ref p) ∧ L p = some (.dK kv)
def spUnite (K : PySem.W.Frag) (C : Addr) : Sp := fun vs H Q _ => ∃ (L : Hp) (a : Addr) (n g : Nat) (wk : Nat → List (Key × V)) (ks : List Str), vs = [.ref a, .int 0, .int ((g : Nat) : Int)] ∧ Ex L H ∧ LotsAt C L a n wk ∧ n = g + 1 ∧ 1 ≤ g ∧ n ≤ 1000 ∧ (wk g).map (·.1) = ks.map (fun s : Str => (Sum.inr s : Key)) ∧ (wk 0).length ≤ 1000 ∧ (wk g).length ≤ 1000 ∧
  ∀ L' H', Mv L H L' H' → LotU C L' a n (hasW (wk 0)) → Q .non H'
section
variable {P : Program} {w : World} {K : PySem.W.Frag} {mg : Str → Option Value} {base : Heap} {C : Addr}
theorem da_strs (N : Hp) : ∀ ks : List Str, DaAll K N (ks.map V.str) (ks.map PyData.str)
  | [] => .nil
  | s :: ks => .cons (.str s) (da_strs N ks)
abbrev s_Lots_unite : Stmt := inClass (topS 37) 10
theorem sc_Lots_unite : FnScope ["self", "place", "other", "head", "gone", "member"] ["self", "place", "other"] (defScope s_Lots_unite) := ⟨rfl, rfl, rfl, by decide +kernel, rfl, by decide +kernel, by decide +kernel⟩
theorem ok_Lots_unite (M : MgO mg) (T : TLots K C) (G_Lots_learn : OwnM P w K mg base 1 C "learn" ["self", "place", "words"] (spLearn K C)) {f : Addr} {fd : FuncData} (F : Fun K "unite" "Lots.unite" s_Lots_unite f fd) : FnOk P w K mg base CX0 2 f fd ["self", "place", "other"] (spUnite K C) := by
  refine F.ok sc_Lots_unite (fun vs H Q E h => ?_) (fun cdv A outer s H vs Q E hr h => ?_)
  · obtain ⟨L, a, n, g, wk, ks, rfl, _⟩ := h
    rfl
  obtain ⟨L, a, n, g, wk, ks, rfl, eL, ⟨h, m, w, ma, wa, o⟩, rfl, hg, hn, hks, hl0, hlg, q⟩ := h
  obtain ⟨dx, ob⟩ := o.ob
  refine ⟨_, (pss_cons (ps_set (i := 3) sc_Lots_unite.nd rfl (by first | exact Or.inl rfl | exact Or.inr rfl) (pe_callB (call_min2 rfl) (by rfl) M.m_min (by decide +kernel) (pa_cons (pe_ix (ix_listK (K := K)) (pe_fldK (K := K) (pv 0) rfl) (pv 1) (fun _ _ => rfl)) (pa_cons (pe_ix (ix_listK (K := K)) (pe_fldK (K := K) (pv 0) rfl) (pv 2) (fun _ _ => rfl)) pa_nil))))
      (pss_cons (ps_set (i := 4) sc_Lots_unite.nd rfl (by first | exact Or.inl rfl | exact Or.inr rfl) (pe_callB (call_max2 rfl) (by rfl) M.m_max (by decide +kernel) (pa_cons (pe_ix (ix_listK (K := K)) (pe_fldK (K := K) (pv 0) rfl) (pv 1) (fun _ _ => rfl)) (pa_cons (pe_ix (ix_listK (K := K)) (pe_fldK (K := K) (pv 0) rfl) (pv 2) (fun _ _ => rfl)) pa_nil))))
      (pss_cons (ps_if (pt_cmpR (op_eqDK (K := K) hr.units) (pv 3) (pv 4) (nomark _)) (pss_one ps_retN) pss_nil)
      (pss_cons (ps_for PassesOwn.never rfl (pi_listK (K := K) (pe_dget (units1 hr) (pe_fldK (K := K) (pv 0) rfl) (pv 4) (fun _ _ => rfl))) (pg_name (i := 5) sc_Lots_unite.nd rfl (by first | exact Or.inl rfl | exact Or.inr rfl)) (pss_one (ps_asg (pv 3) (pg_sub (pe_fldK (K := K) (pv 0) rfl) (pv 5) set_list))))
      (pss_cons (ps_dput (units1 hr) (pe_fldK (K := K) (pv 0) rfl) (pv 3) (pe_op op_cat (pe_dget (units1 hr) (pe_fldK (K := K) (pv 0) rfl) (pv 3) (fun _ _ => rfl)) (pe_dget (units1 hr) (pe_fldK (K := K) (pv 0) rfl) (pv 4) (fun _ _ => rfl))) rfl)
      (pss_cons (ps_expr (pe_ownM G_Lots_learn (hr.mono (by decide)) (pv 0) (pa_cons (pv 3) (pa_cons (pe_callTy (call_list_dK rfl) (by rfl) M.m_list (by decide +kernel) (pa_cons (pe_dget (units1 hr) (pe_fldK (K := K) (pv 0) rfl) (pv 4) (fun _ _ => rfl)) pa_nil)) pa_nil)) pass0))
      (pss_cons (ps_ddel (pe_fldK (K := K) (pv 0) rfl) (pv 4))
      (pss_one (ps_ddel (pe_fldK (K := K) (pv 0) rfl) (pv 4)))))))))), ?_⟩
  have at0 : atI (headsV (g + 1)) 0 = some (.int 0) := atI_nat (j := 0) (headsV_at (by omega))
  have atg : atI (headsV (g + 1)) ((g : Nat) : Int) = some (.int (g : Int)) := atI_nat (headsV_at (by omega))
  -- head = min(..)
  refine ⟨_, rfl, a, C, dx, _, _, rfl, eL _ _ ob, T.cl, T.nh, lotF_h, _, rfl, h, _, 0, _, rfl, rfl, sq_of (eL _ _ o.hd), at0, _, rfl, a, C, dx, _, _, rfl, eL _ _ ob, T.cl, T.nh, lotF_h, _, rfl, h, _, (g : Int), _, rfl, rfl, sq_of (eL _ _ o.hd), atg, 0, (g : Int), rfl, ?_⟩
  rw [if_neg (by omega)]
  refine ⟨_, rfl, a, C, dx, _, _, rfl, eL _ _ ob, T.cl, T.nh, lotF_h, _, rfl, h, _, 0, _, rfl, rfl, sq_of (eL _ _ o.hd), at0, _, rfl, a, C, dx, _, _, rfl, eL _ _ ob, T.cl, T.nh, lotF_h, _, rfl, h, _, (g : Int), _, rfl, rfl, sq_of (eL _ _ o.hd), atg, 0, (g : Int), rfl, ?_⟩
  rw [if_pos (by omega)]
  have ne0 : PyData.eqv (.int 0) (.int (g : Int)) = false := by
    show decide ((0 : Int) = (g : Int)) = false
    exact decide_eq_false (by omega)
  refine d_when (H := L) (et_is (et_test (ev_eqD (K := K) (d := .int 0) (e := .int (g : Int)) (ed_var rfl (.int _)) (fun N e => ed_var rfl (.int _)) rfl rfl)) ne0) eL (fun hb => nomatch hb) fun _ H2 e2 => ?_
  have eL2 := eL.trans e2
  have vg : valV (placeV (g + 1) ma) (.inl (g : Int)) = some (.ref (ma g)) := by rw [valV_place, if_pos ⟨by omega, by omega⟩, Int.toNat_natCast]
  have v0 : valV (placeV (g + 1) ma) (.inl 0) = some (.ref (ma 0)) := by rw [valV_place, if_pos ⟨by omega, by omega⟩]; rfl
  have wg : valV (placeV (g + 1) wa) (.inl (g : Int)) = some (.ref (wa g)) := by rw [valV_place, if_pos ⟨by omega, by omega⟩, Int.toNat_natCast]
  have w0 : valV (placeV (g + 1) wa) (.inl 0) = some (.ref (wa 0)) := by rw [valV_place, if_pos ⟨by omega, by omega⟩]; rfl
  have nah : a ≠ h := ne_of ob o.hd (by intro z; cases z)
  have nam : a ≠ m := ne_of ob o.mb (by intro z; cases z)
  have naw : a ≠ w := ne_of ob o.wd (by intro z; cases z)
  have nmh : m ≠ h := ne_of o.mb o.hd (by intro z; cases z)
  have nwh : w ≠ h := ne_of o.wd o.hd (by intro z; cases z)
  have nma : ∀ i, i < g + 1 → ma i ≠ h ∧ ma i ≠ m ∧ ma i ≠ w := fun i hi => ⟨o.mh i hi, ne_of (o.ml i hi) o.mb (by intro z; cases z), ne_of (o.ml i hi) o.wd (by intro z; cases z)⟩
  have nwa : ∀ i, i < g + 1 → wa i ≠ h ∧ wa i ≠ m ∧ wa i ≠ w ∧ wa i ≠ a := fun i hi => ⟨ne_of (o.wl i hi) o.hd (by intro z; cases z), (o.wm i hi).1, (o.wm i hi).2, ne_of (o.wl i hi) ob (by intro z; cases z)⟩
  -- for member in self.members[gone]: self.heads[member] = head
  refine ⟨_, rfl, a, C, dx, _, _, rfl, eL2 _ _ ob, T.cl, T.nm, lotF_m, _, rfl, m, _, rfl, vg ▸ DGet.k (k := .inl (g : Int)) (eL2 _ _ o.mb), ma g, rfl, ⟨_, sq_of (eL2 _ _ (o.ml g (by omega)))⟩,
    for_list (K := K) (a := ma g) (xs := [.int (g : Int)]) (fun i σ' H' => ∃ x, σ' = [some (.ref a), some (.int 0), some (.int (g : Int)), some (.int 0), some (.int (g : Int)), x] ∧ H' = upd H2 h (.lst (if i = 0 then headsV (g + 1) else (headsV (g + 1)).set g (.int 0)))) ⟨none, rfl, ?_⟩ (fun i σ' H' hi ⟨x, _, eH⟩ => ?_) (fun i x σ' H' hi ⟨y, es, eH⟩ => ?_) fun σ' H' ⟨x, es, eH⟩ => ?_⟩
  · rw [if_pos rfl]
    funext b
    by_cases e : b = h
    · subst e
      rw [upd_same]
      exact eL2 _ _ o.hd
    · rw [upd_ne e]
  · rw [eH]
    exact sq_of (by rw [upd_ne (nma g (by omega)).1]; exact eL2 _ _ (o.ml g (by omega)))
  · match i, hi with
    | 0, hi =>
      cases hi
      subst es eH
      refine ⟨_, rfl, _, rfl, a, C, dx, _, _, rfl, (by rw [upd_ne nah]; exact eL2 _ _ ob), T.cl, T.nh, lotF_h, _, rfl, h, _, (g : Int), g, rfl, rfl, upd_same, ?_, ⟨_, rfl, ?_⟩⟩
      · rw [if_pos rfl, headsV_len]
        unfold ixN
        rw [if_pos (by omega), if_pos (by omega), Int.toNat_natCast]
      · rw [upd_upd, if_pos rfl, if_neg (by decide)]
    | _ + 1, hi => cases hi
  subst es eH
  rw [if_neg (by simp)]
  obtain ⟨xs', ex'⟩ : ∃ xs', xs' = (headsV (g + 1)).set g (.int 0) := ⟨_, rfl⟩
  rw [← ex']
  -- self.members[head] = self.members[head] + self.members[gone]
  have k3 : ∀ {b u}, L b = some u → b ≠ h → upd H2 h (.lst xs') b = some u := fun hb ne => by
    rw [upd_ne ne]
    exact eL2 _ _ hb
  refine ⟨_, rfl, a, C, dx, _, _, rfl, k3 ob nah, T.cl, T.nm, lotF_m, _, rfl, m, _, rfl, v0 ▸ DGet.k (k := .inl 0) (k3 o.mb nmh), _, rfl, a, C, dx, _, _, rfl, k3 ob nah, T.cl, T.nm, lotF_m, _, rfl, m, _, rfl, vg ▸ DGet.k (k := .inl (g : Int)) (k3 o.mb nmh),
    ma 0, ma g, _, _, rfl, rfl, k3 (o.ml 0 (by omega)) (nma 0 (by omega)).1, k3 (o.ml g (by omega)) (nma g (by omega)).1, (by show 2 ≤ sizeLine; decide), fun p hp => ?_⟩
  obtain ⟨ph, hp2⟩ := upd_none hp
  have Lp : L p = none := fresh_back eL2 hp2
  have np : ∀ {x u}, L x = some u → x ≠ p := fun hx => ne_of_none hx Lp
  refine ⟨_, rfl, a, C, dx, _, _, rfl, (by rw [upd_ne (np ob)]; exact k3 ob nah), T.cl, T.nm, lotF_m, _, rfl, m, _, rfl, DPut.k (k := .inl 0) (by rw [upd_ne (np o.mb)]; exact k3 o.mb nmh) (by rw [placeV_len]; exact sz_lt (by omega)), ?_⟩
  have k5 : ∀ {b u}, L b = some u → b ≠ h → b ≠ m → ∀ O1 O2, upd (upd (upd H2 h (.lst xs')) p O1) m O2 b = some u := fun hb n1 n2 O1 O2 => by
    rw [upd_ne n2, upd_ne (np hb)]
    exact k3 hb n1
  -- self.learn(head, list(self.words[gone]))
  refine ⟨_, rfl, a, dx, _, rfl, k5 ob nah nam _ _, rfl, _, rfl, _, rfl, a, C, dx, _, _, rfl, k5 ob nah nam _ _, T.cl, T.nw, lotF_w, _, rfl, w, _, rfl, wg ▸ DGet.k (k := .inl (g : Int)) (k5 o.wd nwh o.mw.symm _ _), wa g, _, rfl, k5 (o.wl g (by omega)) (nwa g (by omega)).1 (nwa g (by omega)).2.1 _ _, fun z hz => ?_⟩
  have ekk : ((wk g).map fun kv => kV kv.1) = ks.map V.str := by
    have e9 := congrArg (List.map kV) hks
    rw [List.map_map, List.map_map] at e9
    exact e9
  have klen : ks.length = (wk g).length := by
    have e9 := congrArg List.length hks
    rw [List.length_map, List.length_map] at e9
    exact e9.symm
  rw [ekk]
  obtain ⟨zm, hz2⟩ := upd_none hz
  obtain ⟨zp, hz2⟩ := upd_none hz2
  obtain ⟨zh, hz2⟩ := upd_none hz2
  have Lz : L z = none := fresh_back eL2 hz2
  have e09 : putK (placeV (g + 1) ma) (.inl 0) (.ref p) = putK (placeV (g + 1) ma) (.inl 0) (.ref p) := rfl
  have m1 := (Mv.old eL e2).trans (Mv.put (o := .lst xs') eL2 o.hd)
  have m2 := m1.trans (Mv.new (p := p) (o := .lst ([.int ((0 : Nat) : Int)] ++ [.int (g : Int)])) m1.sub (by rw [upd_ne ph]; exact hp2))
  have m3 := m2.trans (Mv.put (p := m) (o := .dK (putK (placeV (g + 1) ma) (.inl 0) (.ref p))) m2.sub (by rw [upd_ne (np o.mb), upd_ne nmh]; exact o.mb))
  have kL : ∀ {b u}, L b = some u → b ≠ h → b ≠ m → upd (upd (upd L h (.lst xs')) p (.lst ([.int ((0 : Nat) : Int)] ++ [.int (g : Int)]))) m (.dK (putK (placeV (g + 1) ma) (.inl 0) (.ref p))) b = some u := fun hb n1 n2 => by
    rw [upd_ne n2, upd_ne (np hb), upd_ne n1]
    exact hb
  have hLh : upd (upd (upd L h (.lst xs')) p (.lst ([.int ((0 : Nat) : Int)] ++ [.int (g : Int)]))) m (.dK (putK (placeV (g + 1) ma) (.inl 0) (.ref p))) h = some (.lst xs') := by
    rw [upd_ne nmh.symm, upd_ne ph.symm, upd_same]
  have m4 := m3.to (Ex.new (o := .lst (ks.map V.str)) hz)
  refine ⟨upd noneH z (.lst (ks.map V.str)), _, a, 0, _, ks, h, m, w, xs', 0, _, wa 0, wk 0, rfl, ?_, m4.sub, ?_, ⟨⟨dx, kL ob nah nam⟩, hLh⟩, ?_, kL o.wd nwh o.mw.symm, w0, kL (o.wl 0 (by omega)) (nwa 0 (by omega)).1 (nwa 0 (by omega)).2.1, (by omega), .inr (.lst upd_same ?_), fun H6 mv => ?_⟩
  · intro b u hb
    by_cases e : b = z
    · subst e
      rw [upd_same] at hb ⊢
      exact hb
    · rw [upd_ne e] at hb
      cases hb
  · intro b
    by_cases e : b = z
    · subst e
      refine .inr ?_
      rw [upd_ne zm, upd_ne zp, upd_ne zh]
      exact Lz
    · exact .inl (by rw [upd_ne e]; rfl)
  · refine atI_nat (j := 0) ?_
    rw [ex', List.getElem?_set_ne (by omega)]
    exact headsV_at (by omega)
  · exact da_strs _ _
  -- del self.members[gone]; del self.words[gone]
  have m5 := m4.trans mv
  have kM : ∀ {b u}, L b = some u → b ≠ h → b ≠ m → b ≠ wa 0 → H6 b = some u := fun hb n1 n2 n3 => mv.sub _ _ (by rw [upd_ne n3]; exact kL hb n1 n2)
  have nw0 := nwa 0 (by omega)
  refine ⟨_, rfl, a, C, dx, _, _, rfl, kM ob nah nam nw0.2.2.2.symm, T.cl, T.nm, lotF_m, _, rfl, m, _, .inl (g : Int), rfl, mv.sub _ _ (by rw [upd_ne nw0.2.1.symm, upd_same]), rfl, ?_, ?_⟩
  · rw [valV_put, if_neg (by simp; omega), vg]
    rfl
  refine ⟨_, rfl, a, C, dx, _, _, rfl, (by rw [upd_ne nam]; exact kM ob nah nam nw0.2.2.2.symm), T.cl, T.nw, lotF_w, _, rfl, w, _, .inl (g : Int), rfl, (by rw [upd_ne o.mw.symm]; exact kM o.wd nwh o.mw.symm nw0.2.2.1.symm), rfl, (by rw [wg]; rfl), ?_⟩
  have m6 := m5.trans (Mv.put (p := m) (o := .dK (dropK (putK (placeV (g + 1) ma) (.inl 0) (.ref p)) (.inl (g : Int)))) m5.sub (by rw [upd_ne nw0.2.1.symm, upd_same]))
  have m7 := m6.trans (Mv.put (p := w) (o := .dK (dropK (placeV (g + 1) wa) (.inl (g : Int)))) m6.sub (by rw [upd_ne o.mw.symm, upd_ne nw0.2.2.1.symm]; exact kL o.wd nwh o.mw.symm))
  refine q _ _ m7 ⟨h, m, w, _, wa 0, putW (wk 0) ks, ⟨⟨dx, ?_⟩, ?_⟩, upd_same, ?_, ?_, (fun s hs => ?_), fun i i0 i1 => ⟨wa i, wk i, ?_, ?_⟩⟩
  · rw [upd_ne naw, upd_ne nam, upd_ne nw0.2.2.2.symm]
    exact kL ob nah nam
  · rw [upd_ne nwh.symm, upd_ne nmh.symm, upd_ne nw0.1.symm, hLh, ex']
    rfl
  · rw [valV_drop (by simp; omega)]
    exact w0
  · rw [upd_ne nw0.2.2.1, upd_ne nw0.2.1, upd_same]
  · rw [hasW_putW, hs, Bool.or_true]
  · rw [valV_drop (by simp; omega), valV_place, if_pos ⟨by omega, by omega⟩, Int.toNat_natCast]
  · have ni := nwa i (by omega)
    have n0 : wa i ≠ wa 0 := fun z => by
      have := o.inj _ _ (by omega) (by omega) z
      omega
    rw [upd_ne ni.2.2.1, upd_ne ni.2.1, upd_ne n0]
    exact kL (o.wl i (by omega)) ni.1 ni.2.1
end
end Sg
end
section
set_option maxRecDepth 100000
set_option maxHeartbeats 4000000
/-! Lots: listed. -/
namespace Sg
open PySem PySem.Spec PyProof.Rows L2 Evl
def leS (a b : Str) : Bool := !ltCps b.cps.toList a.cps.toList
theorem leS_iff {a b : Str} : leS a b = true ↔ a.cps.toList ≤ b.cps.toList := by
  unfold leS
  rw [ltCps_eq]
  simp
theorem leS_trans {a b c : Str} (h : leS a b = true) (g : leS b c = true) : leS a c = true := leS_iff.mpr (List.le_trans (leS_iff.mp h) (leS_iff.mp g))
theorem leS_total (a b : Str) : (leS a b || leS b a) = true := by
  rcases List.le_total a.cps.toList b.cps.toList with h | h
  · rw [leS_iff.mpr h]; rfl
  · rw [leS_iff.mpr h, Bool.or_true]
theorem leS_anti {a b : Str} (h : leS a b = true) (g : leS b a = true) : a = b := by
  have e := List.le_antisymm (leS_iff.mp h) (leS_iff.mp g)
  cases a; cases b
  congr 1
  exact Array.toList_inj.mp e
theorem rising_pw : ∀ (l : List Str) (p : Str), risingS p l = true → (p :: l).Pairwise (fun a b => leS a b = true)
  | [], p, _ => List.pairwise_singleton _ _
  | x :: r, p, h => by
    have h' : (leS p x && risingS x r) = true := h
    rw [Bool.and_eq_true] at h'
    have ih := rising_pw r x h'.2
    refine List.pairwise_cons.mpr ⟨fun y hy => ?_, ih⟩
    rcases List.mem_cons.mp hy with rfl | hy
    · exact h'.1
    · exact leS_trans h'.1 ((List.pairwise_cons.mp ih).1 y hy)
theorem sortedS_pw : ∀ {l : List Str}, sortedS l = true → l.Pairwise (fun a b => leS a b = true)
  | [], _ => List.Pairwise.nil
  | x :: r, h => rising_pw r x h
def strSort (ks : List Str) : List Str := ks.mergeSort leS
theorem sortedS_is {ys ks : List Str} (p : ys.Perm ks) (h : sortedS ys = true) : ys = strSort ks :=
  List.Perm.eq_of_pairwise (fun a b _ _ h g => leS_anti h g) (sortedS_pw h) (List.pairwise_mergeSort (le := leS) (fun _ _ _ => leS_trans) leS_total ks) (p.trans (List.mergeSort_perm ks leS).symm)
theorem ints_one {ys xs : List Int} (p : ys.Perm xs) (h : ys.Pairwise (· ≤ ·)) (g : xs.Pairwise (· ≤ ·)) : ys = xs := List.Perm.eq_of_pairwise (fun a b _ _ h g => Int.le_antisymm h g) h g p

/-- the text keys of a dict of words -/
def keysW (kv : List (Key × V)) : List Str := kv.filterMap fun p => match p.1 with
  | .inr s => some s
  | _ => none
def TextKeys (kv : List (Key × V)) : Prop := kv.map (·.1) = (keysW kv).map fun s => (Sum.inr s : Key)
theorem textKeys_of {kv : List (Key × V)} {ks : List Str} (h : kv.map (·.1) = ks.map fun s => (Sum.inr s : Key)) : TextKeys kv := by
  have e : keysW kv = ks := by
    induction kv generalizing ks with
    | nil =>
      cases ks with
      | nil => rfl
      | cons _ _ => cases h
    | cons p r ih =>
      cases ks with
      | nil => cases h
      | cons k ks =>
        obtain ⟨k1, v1⟩ := p
        rw [List.map_cons, List.map_cons] at h
        obtain ⟨h1, h2⟩ := List.cons.inj h
        have h1 : k1 = Sum.inr k := h1
        subst h1
        show k :: keysW r = k :: ks
        rw [ih h2]
  unfold TextKeys
  rw [e]
  exact h
def listedD (n : Nat) (wk : Nat → List (Key × V)) : PyData := .list ((List.range n).map fun (i : Nat) => .tuple [.tuple [.int (i : Int)], wordsD (strSort (keysW (wk i)))])
def spListed (K : PySem.W.Frag) (C : Addr) : Sp := fun vs H1 Q _ => ∃ (L : Hp) (a : Addr) (n : Nat) (wk : Nat → List (Key × V)), vs = [.ref a] ∧ Ex L H1 ∧ LotsAt C L a n wk ∧ n < 64 ∧ (∀ i, i < n → TextKeys (wk i) ∧ (keysW (wk i)).length < 64) ∧ ∀ v N H2, Gr L H1 N H2 → Da K N v (listedD n wk) → Q v H2
section
variable {P : Program} {w : World} {K : PySem.W.Frag} {mg : Str → Option Value} {base : Heap} {C : Addr}
theorem da_ints (N : Hp) : ∀ ks : List Int, DaAll K N (ks.map V.int) (ks.map PyData.int)
  | [] => .nil
  | s :: ks => .cons (.int s) (da_ints N ks)
abbrev s_Lots_listed : Stmt := inClass (topS 37) 12
theorem sc_Lots_listed : FnScope ["self", "head"] ["self"] (defScope s_Lots_listed) := ⟨rfl, rfl, rfl, by decide +kernel, rfl, by decide +kernel, by decide +kernel⟩
theorem ok_Lots_listed (M : MgO mg) (T : TLots K C) {f : Addr} {fd : FuncData} (F : Fun K "listed" "Lots.listed" s_Lots_listed f fd) : FnOk P w K mg base CX0 1 f fd ["self"] (spListed K C) := by
  refine F.ok sc_Lots_listed (fun vs H Q E h => ?_) (fun cdv A outer s H1 vs Q E hr h => ?_)
  · obtain ⟨L, a, n, wk, rfl, _⟩ := h
    rfl
  obtain ⟨L, a, n, wk, rfl, e, ⟨h, m, w, ma, wa, o⟩, hn, hk, q⟩ := h
  obtain ⟨dx, ob⟩ := o.ob
  refine ⟨_, (pss_one (ps_ret (pe_lc (own := [("head", 1)]) rfl sc_Lots_listed.nd (pi_listK (K := K) (pe_callB (call_sortedDI rfl) (by rfl) M.m_sorted boot_sorted (pa_cons (pe_fldK (K := K) (pv 0) rfl) pa_nil))) (blkOk_by (N := ["self", "head"]) (sc := defScope s_Lots_listed) (by decide +kernel)) (fun _ _ _ _ _ => (pg_name (i := 1) sc_Lots_listed.nd rfl (by first | exact Or.inl rfl | exact Or.inr rfl))) (fun _ _ _ _ _ => pts_nil) (fun _ _ _ _ _ => (pe_tup (pa_cons (pe_callTy (cr_tupOf (K := K)) (by rfl) M.m_tuple (by decide +kernel) (pa_cons (pe_callB (cr_sortD (K := K) (room75 hr)) (by rfl) M.m_sorted boot_sorted (pa_cons (pe_dget (units1 hr) (pe_fldK (K := K) (pv 0) rfl) (pv 1) (fun _ _ => rfl)) pa_nil)) pa_nil)) (pa_cons (pe_callTy (cr_tupOf (K := K)) (by rfl) M.m_tuple (by decide +kernel) (pa_cons (pe_callB (call_sortedD rfl) (by rfl) M.m_sorted boot_sorted (pa_cons (pe_dget (units1 hr) (pe_fldK (K := K) (pv 0) rfl) (pv 1) (fun _ _ => rfl)) pa_nil)) pa_nil)) pa_nil))))))), ?_⟩
  have kM : (placeV n ma).map (·.1) = ((List.range n).map fun (i : Nat) => (i : Int)).map Sum.inl := by
    unfold placeV
    rw [List.map_map, List.map_map]
    rfl
  have pwR : ((List.range n).map fun (i : Nat) => (i : Int)).Pairwise (· ≤ ·) := by
    rw [List.pairwise_map]
    exact (List.pairwise_lt_range (n := n)).imp fun h => by omega
  have lenR : ((List.range n).map fun (i : Nat) => (i : Int)).length = n := by rw [List.length_map, List.length_range]
  refine d_ret (K := K) (H := L) (d := listedD n wk) ?_ e q
  refine ed_mapN (P := PD K (((List.range n).map fun (i : Nat) => (i : Int)).map PyData.int)) (List.range n) _ (by rw [List.length_range]; omega) ?_ (fun _ => rfl) fun i x y N e1 hy hx => ?_
  · have hw := wd_lst (K := K) (H := L) (σ := [some (.ref a), none]) (tl := tCB (fun xs H Q => ∃ (a : Addr) (kvs : List (Key × V)) (ks : List Int), xs = [.ref a] ∧ Rd H a (.dK kvs) ∧ kvs.map (·.1) = ks.map Sum.inl ∧ ks.length < 64 ∧
    ∀ (ys : List Int) (p : Addr), ys.Perm ks → ys.Pairwise (· ≤ ·) → H p = none → Q (.ref p) (upd H p (.lst (ys.map V.int)))) (tCons (tFld K (tVar 0) "members") tNil)) (ds := ((List.range n).map fun (i : Nat) => (i : Int)).map PyData.int) fun H2 e2 Q q => by
        refine ⟨_, rfl, a, C, dx, _, _, rfl, e2 _ _ ob, T.cl, T.nm, lotF_m, m, _, _, rfl, .inl (e2 _ _ o.mb), kM, (by rw [lenR]; exact hn), fun ys p pm pw hp => ?_⟩
        rw [ints_one pm pw pwR]
        exact q _ _ _ (Gr.alloc e2 hp) (.lst upd_same (da_ints _ _))
    rw [List.length_map, lenR] at hw
    rw [List.length_range]
    exact hw
  · obtain ⟨hi, rfl⟩ := List.getElem?_eq_some_iff.mp hy
    rw [List.length_range] at hi
    rw [List.getElem_range]
    obtain ⟨d, hd, hx⟩ := hx
    rw [List.map_map, List.getElem?_map, List.getElem?_range hi] at hd
    cases hd
    cases hx
    have vm : valV (placeV n ma) (.inl (i : Int)) = some (.ref (ma i)) := by rw [valV_place, if_pos ⟨by omega, by omega⟩, Int.toNat_natCast]
    have vw : valV (placeV n wa) (.inl (i : Int)) = some (.ref (wa i)) := by rw [valV_place, if_pos ⟨by omega, by omega⟩, Int.toNat_natCast]
    refine ed_tup (eds2 ?_ fun N2 e2 => ?_) (by show 2 ≤ 100000; decide)
    · refine ed_tupL (ed_is (d := .list (sortD [.int (i : Int)])) (ed_sort (ed_of (ev_dget (k := .inl (i : Int)) (ev_fld (ev_var rfl) (e1 _ _ ob) T.cl T.nm lotF_m) (ev_var rfl) (e1 _ _ o.mb) vm) (.lst (e1 _ _ (o.ml i hi)) (.cons (.int _) .nil))) ?_ ?_ (by show 1 ≤ 100000; decide) ?_) ?_)
      · intro d hd d' hd'
        rw [List.mem_singleton.mp hd, List.mem_singleton.mp hd']
        rfl
      · refine .inr fun d hd => ?_
        rw [List.mem_singleton.mp hd]
        exact ⟨(fun z => by cases z), fun xs z => by cases z⟩
      · intro d hd
        rw [List.mem_singleton.mp hd]
        exact Nat.zero_le _
      · unfold sortD
        rw [List.mergeSort_singleton]
    · have eL := e1.trans e2
      obtain ⟨tk, l64⟩ := hk i hi
      refine ed_tupL (ds := (strSort (keysW (wk i))).map .str) fun H3 e3 Q q' => ?_
      have e4 := eL.trans e3
      refine ⟨_, rfl, a, C, dx, _, _, rfl, e4 _ _ ob, T.cl, T.nw, lotF_w, _, rfl, w, _, rfl, vw ▸ DGet.k (k := .inl (i : Int)) (e4 _ _ o.wd), wa i, _, _, rfl, .inl (e4 _ _ (o.wl i hi)), tk, l64, fun ys p pm ss hp => ?_⟩
      rw [sortedS_is pm ss]
      exact q' _ _ _ (Gr.alloc e3 hp) (.lst upd_same (da_strs _ _))
end
end Sg
end
section
set_option maxRecDepth 100000
set_option maxHeartbeats 4000000
/-! What is kept of another hand of which nothing was read: what its methods that only read tell. -/
namespace Sg
open PySem PySem.Spec PyProof.Rows L2 Evl
/-! ### objects made -/
theorem Mv.gr {B H1 L H2 : Hp} (m : Mv noneH H1 L H2) (e : Ex B H1) : Gr B H1 (join B L) H2 ∧ Ex L (join B L) := by
  have fr : ∀ a, H1 a ≠ none → H2 a = H1 a ∧ L a = none := fun a h => m.rest a rfl h
  refine ⟨⟨fun a o h => ?_, ex_l, join_ex (fun a o h => ?_) m.sub, fun a h1 h2 => ?_⟩, fun a o h => ?_⟩
  · rw [(fr a (by rw [h]; simp)).1]
    exact h
  · rw [(fr a (by rw [e _ _ h]; simp)).1]
    exact e _ _ h
  · rw [join_r h1]
    exact (fr a h2).2
  · have z : B a = none := by
      cases q : B a with
      | none => rfl
      | some u =>
        have := (fr a (by rw [e _ _ q]; simp)).2
        rw [h] at this
        cases this
    rw [join_r z]
    exact h
/-! ### a dict's keys, walked while it is locked -/
mutual
theorem da_unlock {K : PySem.W.Frag} {N : Hp} {d : Addr} {u : HO} {od : Obj} (hd : N d = some (.frz od u)) (nt : ∀ xs, u ≠ .tup xs) : ∀ {x : PyData} {v : V}, Da K N v x → Da K (upd N d u) v x
  | .none, _, h => by cases h; exact .non
  | .bool _, _, h => by cases h; exact .bl _
  | .int _, _, h => by cases h; exact .int _
  | .str _, _, h => by cases h; exact .str _
  | .list ds, _, h => by
    cases h with
    | @lst a xs _ hs ha =>
      have ne : a ≠ d := fun z => by rw [z, hd] at hs; cases hs
      exact .lst (by rw [upd_ne ne]; exact hs) (daAll_unlock hd nt ha)
  | .tuple ds, _, h => by
    cases h with
    | @tup a xs _ hs ha =>
      refine .tup ?_ (daAll_unlock hd nt ha)
      rcases hs with (hs | ⟨o, hs⟩) | hk
      · have ne : a ≠ d := fun z => by rw [z, hd] at hs; cases hs
        exact .inl (.inl (by rw [upd_ne ne]; exact hs))
      · have ne : a ≠ d := fun z => by
          rw [z, hd] at hs
          cases hs
          exact nt _ rfl
        exact .inl (.inr ⟨o, by rw [upd_ne ne]; exact hs⟩)
      · exact .inr hk
  | .dict _, _, h => by cases h
theorem daAll_unlock {K : PySem.W.Frag} {N : Hp} {d : Addr} {u : HO} {od : Obj} (hd : N d = some (.frz od u)) (nt : ∀ xs, u ≠ .tup xs) : ∀ {ds : List PyData} {vs : List V}, DaAll K N vs ds → DaAll K (upd N d u) vs ds
  | [], _, h => by cases h; exact .nil
  | _ :: _, _, h => by
    cases h with
    | cons h1 h2 => exact .cons (da_unlock hd nt h1) (daAll_unlock hd nt h2)
end
theorem ed_lock {K : PySem.W.Frag} {t : TE} {σ : L2.St} {B : Hp} {d : Addr} {u : HO} {x : PyData} (hd : B d = some u) (mu : Mut (some u)) (nt : ∀ xs, u ≠ .tup xs) (h : ∀ od, EvD K t σ (upd B d (.frz od u)) x) : EvD K (tLockE t) σ B x := fun H1 e Q q =>
  ⟨d, u, e _ _ hd, mu, fun od => h od _ (fun b o hb => by
    by_cases z : b = d
    · subst z
      rw [upd_same] at hb ⊢
      exact hb
    · rw [upd_ne z] at hb ⊢
      exact e _ _ hb) _ fun v N H2 g hv => by
    have hN : N d = some (.frz od u) := g.bas _ _ upd_same
    refine ⟨g.sub _ _ hN, q v (upd N d u) (upd H2 d u) ⟨fun b o hb => ?_, fun b o hb => ?_, fun b o hb => ?_, fun b h1 h2 => ?_⟩ (da_unlock hN nt hv)⟩
    · by_cases z : b = d
      · subst z
        rw [e _ _ hd] at hb
        rw [upd_same]
        exact hb
      · rw [upd_ne z]
        exact g.act _ _ (by rw [upd_ne z]; exact hb)
    · by_cases z : b = d
      · subst z
        rw [hd] at hb
        rw [upd_same]
        exact hb
      · rw [upd_ne z]
        exact g.bas _ _ (by rw [upd_ne z]; exact hb)
    · by_cases z : b = d
      · subst z
        rw [upd_same] at hb ⊢
        exact hb
      · rw [upd_ne z] at hb ⊢
        exact g.sub _ _ hb
    · have z : b ≠ d := fun z => by rw [z, hd] at h1; cases h1
      rw [upd_ne z]
      exact g.new b (by rw [upd_ne z]; exact h1) (by rw [upd_ne z]; exact h2)⟩
/-- a list of what is told of keys that are pairs, where none passes the test -/
theorem ed_keysNone {K : PySem.W.Frag} {td te : TE} {tt : TT} {σ : L2.St} {B : Hp} {i j : Nat} {a : Addr} {od : Obj} {vs : List Nat} {kvs : List (List Key × V)} (h : Ev td σ B (.ref a)) (ha : B a = some (.frz od (.dT kvs))) (hk : ∀ p ∈ kvs, ∃ k1 k2, p.1 = [k1, k2])
    (hw : ∀ x y, wipe (((wipe σ vs).set i (some x)).set j (some y)) vs = wipe σ vs) (ht : ∀ p ∈ kvs, ∀ k1 k2, p.1 = [k1, k2] → EvT tt (((wipe σ vs).set i (some (kV k1))).set j (some (kV k2))) B false) : EvD K (tLc (iKeys td) (gTup K 2 (gs [i, j])) tt te vs) σ B (.list []) := fun H1 e Q q =>
  h H1 e _ fun H2 e2 => ⟨a, od, rfl, .inr ⟨kvs, (e.trans e2) _ _ ha, fun D hD => by
    refine ⟨fun i m H' => m = kvs.length - i ∧ i ≤ kvs.length ∧ Ex H2 H' ∧ H' D = some (.lst []), ⟨kvs.length, by simp, Nat.zero_le _, Ex.new hD, upd_same⟩, ?_⟩
    rintro n m H' ⟨rfl, hi, c1, c2⟩
    have ca : H' a = some (.frz od (.dT kvs)) := c1 _ _ ((e.trans e2) _ _ ha)
    by_cases lt : n < kvs.length
    · refine .inr ⟨⟨ca, lt⟩, fun H3 => Ex H2 H3 ∧ H3 D = some (.lst []), fun H3 z => ⟨kvs.length - (n + 1), by omega, rfl, lt, z⟩, ?_⟩
      rintro x H3 ⟨rfl, k, v, b, hkv, rfl, hb⟩
      obtain ⟨k1, k2, ek⟩ := hk _ (List.mem_of_getElem? hkv)
      have ek : k = [k1, k2] := ek
      subst ek
      refine ⟨_, _, rfl, st_of hb, rfl, gs_all [i, j] _ _ H3 _ rfl ⟨hw _ _, ?_⟩⟩
      exact ht _ (List.mem_of_getElem? hkv) k1 k2 rfl H3 ((e.trans e2).trans c1) _ fun H4 e4 => ⟨c1.trans e4, e4 _ _ c2⟩
    · refine .inl ⟨⟨ca, by omega⟩, q (.ref D) (upd B D (.lst [])) H' ⟨e2.trans c1, Ex.new (fresh_back (e.trans e2) hD), fun b o hb => ?_, fun b h1 h2 => ?_⟩ (.lst upd_same .nil)⟩
      · by_cases z : b = D
        · subst z
          rw [upd_same] at hb
          rw [c2]
          exact hb
        · rw [upd_ne z] at hb
          exact ((e.trans e2).trans c1) _ _ hb
      · have z : b ≠ D := fun z => h2 (fresh_back e2 (z ▸ hD))
        rw [upd_ne z]
        exact h1⟩⟩
/-! ### what walks nothing -/
theorem ed_lc0 {K : PySem.W.Frag} {σ : L2.St} {B : Hp} {wi : TI} {g : TG} {tt : TT} {te : TE} {vs : List Nat} {P : Hp → Nat → V → Prop} (hwi : WiD wi σ B 0 P) : EvD K (tLc wi g tt te vs) σ B (.list []) := fun H0 e Q q => hwi H0 e _ fun J N H1 G F D hD => by
  refine ⟨fun i m H' => i = 0 ∧ H' = upd H1 D (.lst []), ⟨0, rfl, rfl⟩, ?_⟩
  rintro i m H' ⟨rfl, rfl⟩
  exact .inl ⟨F.stop _ (G.sub.trans (Ex.new hD)), q _ _ _ (G.trans (.alloc G.sub hD)) (.lst upd_same .nil)⟩
theorem ed_lc20 {K : PySem.W.Frag} {σ : L2.St} {B : Hp} {wi wi1 : TI} {g g1 : TG} {tt tt1 : TT} {te : TE} {vs vs1 : List Nat} {P : Hp → Nat → V → Prop} (hwi : WiD wi σ B 0 P) : EvD K (tLc2 wi g tt wi1 g1 tt1 te vs vs1) σ B (.list []) := fun H0 e Q q => hwi H0 e _ fun J N H1 G F D hD => by
  refine ⟨fun i m H' => i = 0 ∧ H' = upd H1 D (.lst []), ⟨0, rfl, rfl⟩, ?_⟩
  rintro i m H' ⟨rfl, rfl⟩
  exact .inl ⟨F.stop _ (G.sub.trans (Ex.new hD)), q _ _ _ (G.trans (.alloc G.sub hD)) (.lst upd_same .nil)⟩
theorem d_for0 {K : PySem.W.Frag} {wi : TI} {g : TG} {tu tz : TS} {D : Ends} {σ : L2.St} {B H1 : Hp} {P : Hp → Nat → V → Prop} (hwi : WiD wi σ B 0 P) (a : Ex B H1) (k : ∀ N H2, Gr B H1 N H2 → tz D σ H2) : tSeq (tFor wi g tu) tz D σ H1 :=
  hwi H1 a _ fun J N H2 G F => by
    refine ⟨fun i m σ' H' => i = 0 ∧ σ' = σ ∧ H' = H2, ⟨0, rfl, rfl, rfl⟩, ?_⟩
    rintro i m σ' H' ⟨rfl, rfl, rfl⟩
    exact .inl ⟨F.stop _ G.sub, k N H' G⟩
end Sg
end
section
set_option maxRecDepth 100000
set_option maxHeartbeats 4000000
/-! What is kept of another hand of which nothing was read. -/
namespace Sg
open PySem PySem.Spec PyProof.Rows L2 Evl
def keepF (me ot : Str) (wr cnt : Int) (l s c t : Addr) : List (Str × V) := [("hand", .str me), ("other", .str ot), ("written", .int wr), ("read_all", .int 0), ("count", .int cnt), ("laid", .ref l), ("said", .ref s), ("cards", .ref c), ("sheets", .ref t)]
structure KeepIn (C : Addr) (L : Hp) (k l s c t : Addr) (me ot : Str) (wr cnt : Int) (sd cd : List (Key × V)) (sh : List (List Key × V)) : Prop where
  ob : ∃ dx, L k = some (.ins C dx (keepF me ot wr cnt l s c t))
  ld : L l = some (.lst [])
  sa : L s = some (.dK sd)
  ca : L c = some (.dK cd)
  st : L t = some (.dT sh)
  sc : s ≠ c
  ks : ∀ p ∈ sh, ∃ j : Int, p.1 = [Sum.inr me, Sum.inl j]
def KeepAt (C : Addr) (L : Hp) (k : Addr) (me ot : Str) (wr : Int) (b : Nat) : Prop := ∃ l s c t cnt sd cd sh, KeepIn C L k l s c t me ot wr cnt sd cd sh ∧ sd.length ≤ b ∧ cd.length ≤ b ∧ sh.length ≤ b
theorem KeepAt.ex {C : Addr} {L L' : Hp} {k : Addr} {me ot : Str} {wr : Int} {b : Nat} (o : KeepAt C L k me ot wr b) (e : Ex L L') : KeepAt C L' k me ot wr b := by
  obtain ⟨l, s, c, t, cnt, sd, cd, sh, ⟨⟨dx, h1⟩, h2, h3, h4, h5, h6, h7⟩, z⟩ := o
  exact ⟨l, s, c, t, cnt, sd, cd, sh, ⟨⟨dx, e _ _ h1⟩, e _ _ h2, e _ _ h3, e _ _ h4, e _ _ h5, h6, h7⟩, z⟩
/-- what the text says of the class Keeping -/
structure TKeep (K : PySem.W.Frag) (C : Addr) : Prop where
  cl : Cls K C
  n1 : NoAttr K C "hand"
  n2 : NoAttr K C "other"
  n3 : NoAttr K C "written"
  n4 : NoAttr K C "read_all"
  n5 : NoAttr K C "count"
  n6 : NoAttr K C "laid"
  n7 : NoAttr K C "said"
  n8 : NoAttr K C "cards"
  n9 : NoAttr K C "sheets"
structure MgK (mg : Str → Option Value) : Prop where
  m_zip : mg "zip" = none
/-- two hands -/
structure TwoH (me ot : Str) : Prop where
  s1 : SeqAt.shaped (.str me) = true
  s2 : SeqAt.shaped (.str ot) = true
  ne : PyData.eqv (.str me) (.str ot) = false
/-- it gives an empty list -/
def spK0 (K : PySem.W.Frag) (C : Addr) (n : Nat) (pre : List V → Hp → Prop) : Sp := fun vs H1 Q _ => ∃ L k me ot wr b, Ex L H1 ∧ KeepAt C L k me ot wr b ∧ TwoH me ot ∧ vs.length = n ∧ vs.head? = some (.ref k) ∧ pre (vs.drop 1) L ∧ ∀ v N H2, Gr L H1 N H2 → Da K N v (.list []) → Q v H2
theorem spK0_len {K : PySem.W.Frag} {C : Addr} {n : Nat} {pre : List V → Hp → Prop} : ∀ vs H Q E, spK0 K C n pre vs H Q E → vs.length = n := fun vs H Q E h => by
  obtain ⟨L, k, me, ot, wr, b, _, _, _, h, _⟩ := h
  exact h
abbrev preN : List V → Hp → Prop := fun _ _ => True
abbrev preT (K : PySem.W.Frag) : List V → Hp → Prop := fun vs L => ∃ v1 h, vs = [v1, .str h] ∧ Da K L v1 (.list [])
section
variable {P : Program} {w : World} {K : PySem.W.Frag} {mg : Str → Option Value} {base : Heap} {C : Addr}
theorem mem0 {α : Type} {i : Nat} {y : α} {Pr : Prop} (h : ([] : List α)[i]? = some y) : Pr := by cases h
abbrev s_Keeping_kept_numbers : Stmt := inClass (topS 44) 2
theorem sc_Keeping_kept_numbers : FnScope ["self", "hand", "number"] ["self"] (defScope s_Keeping_kept_numbers) := ⟨rfl, rfl, rfl, by decide +kernel, rfl, by decide +kernel, by decide +kernel⟩
theorem ok_Keeping_kept_numbers (M : MgO mg) (T : TKeep K C) {f : Addr} {fd : FuncData} (F : Fun K "kept_numbers" "Keeping.kept_numbers" s_Keeping_kept_numbers f fd) : FnOk P w K mg base CX0 1 f fd ["self"] (spK0 K C 1 preN) := by
  refine F.ok sc_Keeping_kept_numbers (fun vs H Q E h => spK0_len vs H Q E h) (fun cdv A outer s H1 vs Q E hr h => ?_)
  obtain ⟨L, k, me, ot, wr, b, e, ⟨l, s', c, t, cnt, sd, cd, sh, o, _⟩, ne, hn, hv, _, q⟩ := h
  match vs, hn, hv with
  | [_], _, hv =>
  cases hv
  obtain ⟨dx, ob⟩ := o.ob
  refine ⟨_, (pss_one (ps_ret (pe_callB (cr_sortD (K := K) (room75 hr)) (by rfl) M.m_sorted boot_sorted (pa_cons (pe_lock (pe_lc (own := [("hand", 1), ("number", 2)]) rfl sc_Keeping_kept_numbers.nd (pi_keys (pe_fldK (K := K) (pv 0) rfl)) (blkOk_by (N := ["self", "hand", "number"]) (sc := defScope s_Keeping_kept_numbers) (by decide +kernel)) (fun _ _ _ _ _ => (pg_tupK (K := K) (n := 2) rfl (pgs_cons (pg_name (i := 1) sc_Keeping_kept_numbers.nd rfl (by first | exact Or.inl rfl | exact Or.inr rfl)) (pgs_cons (pg_name (i := 2) sc_Keeping_kept_numbers.nd rfl (by first | exact Or.inl rfl | exact Or.inr rfl)) pgs_nil)))) (fun _ _ _ _ _ => pts_one (pt_cmpR (op_eqDK (K := K) hr.units) (pv 1) (pe_fldK (K := K) (pv 0) rfl) (nomark _))) (fun _ _ _ _ _ => (pv 2)))) pa_nil)))), ?_⟩
  refine d_ret (K := K) (H := L) (d := .list []) (ed_is (ed_sort (ds := []) (ed_lock (d := t) (u := .dT sh) o.st trivial (fun _ z => by cases z) fun od => ed_keysNone (i := 1) (j := 2) (od := od) (kvs := sh) (ev_fld (ev_var rfl) (by rw [upd_ne (ne_of ob o.st (by intro z; cases z))]; exact ob) T.cl T.n9 rfl) upd_same (fun p hp => ?_) (fun _ _ => rfl) fun p hp k1 k2 ek => ?_) (fun d hd => nomatch hd) (.inr fun d hd => nomatch hd) (Nat.zero_le _) fun d hd => nomatch hd) ?_) e q
  · obtain ⟨j, ej⟩ := o.ks p hp
    exact ⟨_, _, ej⟩
  · obtain ⟨j, ej⟩ := o.ks p hp
    rw [ek] at ej
    cases ej
    refine et_is (et_test (ev_eqD (K := K) (d := .str me) (e := .str ot) (ed_var rfl (.str _)) (fun N e2 => ed_of (ev_fld (ev_var rfl) (e2 _ _ (by rw [upd_ne (ne_of ob o.st (by intro z; cases z))]; exact ob)) T.cl T.n2 rfl) (.str _)) ne.s1 ne.s2)) ne.ne
  · unfold sortD
    rw [List.mergeSort_nil]
abbrev s_Keeping_read_numbers : Stmt := inClass (topS 44) 3
theorem sc_Keeping_read_numbers : FnScope ["self", "ahead", "number"] ["self"] (defScope s_Keeping_read_numbers) := ⟨rfl, rfl, rfl, by decide +kernel, rfl, by decide +kernel, by decide +kernel⟩
theorem ok_Keeping_read_numbers (M : MgO mg) (T : TKeep K C) (G_Keeping_kept_numbers : OwnM P w K mg base 1 C "kept_numbers" ["self"] (spK0 K C 1 preN)) {f : Addr} {fd : FuncData} (F : Fun K "read_numbers" "Keeping.read_numbers" s_Keeping_read_numbers f fd) : FnOk P w K mg base CX0 2 f fd ["self"] (spK0 K C 1 preN) := by
  refine F.ok sc_Keeping_read_numbers (fun vs H Q E h => spK0_len vs H Q E h) (fun cdv A outer s H1 vs Q E hr h => ?_)
  obtain ⟨L, k, me, ot, wr, b, e, o, ne, hn, hv, _, q⟩ := h
  obtain ⟨l, s', c, t, cnt, sd, cd, sh, oi, _⟩ := id o
  match vs, hn, hv with
  | [_], _, hv =>
  cases hv
  obtain ⟨dx, ob⟩ := oi.ob
  refine ⟨_, (pss_cons (ps_setLc (i := 1) (own := [("number", 2)]) rfl sc_Keeping_read_numbers.nd rfl rfl (sw_true rfl rfl rfl (by decide +kernel)) (pi_listK (K := K) (pe_ownM0 G_Keeping_kept_numbers (hr.mono (by decide)) (pv 0) pass0)) (blkOk_by (N := ["self", "ahead", "number"]) (sc := defScope s_Keeping_read_numbers) (by decide +kernel)) (fun _ _ _ _ _ => (pg_name (i := 2) sc_Keeping_read_numbers.nd rfl (by first | exact Or.inl rfl | exact Or.inr rfl))) (fun _ _ _ _ _ => pts_one (pt_cmpR op_gt (pv 2) (pe_fldK (K := K) (pv 0) rfl) (nomark _))) (fun _ _ _ _ _ => (pv 2)))
      (pss_one (ps_ret (pe_op op_cat (pe_listRg rfl (by rfl) M.m_list (prg_2 (by rfl) M.m_range pe_int (pe_op op_add (pe_fldK (K := K) (pv 0) rfl) pe_int))) (pv 1))))), ?_⟩
  have hk : ∀ {σ : L2.St} {B : Hp} {E : XK}, σ[0]? = some (some (.ref k)) → Ex L B → EvD K (tMeth C "kept_numbers" (spK0 K C 1 preN) [] E (tVar 0) tNil) σ B (.list []) := fun h0 eB => ed_meth (ev_var h0) (eB _ _ ob) rfl eds_nil fun vs N H2 a b2 hvs Q q' => by
    cases hvs
    exact ⟨N, k, me, ot, wr, b, b2, o.ex (eB.trans a), ne, rfl, rfl, trivial, q'⟩
  refine d_asg (K := K) (H := L) (d := .list []) (ed_is (ed_mapF (β := PyData) (P := PD K []) [] (fun _ => true) id (Nat.zero_le _) (wd_lst (hk rfl (Ex.refl L))) (fun _ => rfl) (fun i x y N e1 hy hx => mem0 hy) fun i x y N e1 hy hx _ => mem0 hy) rfl) e fun v N H2 g hv => ?_
  refine d_ret (K := K) (H := N) (d := .list ([] ++ [])) (ed_cat (fun H3 a3 Q3 q3 => ?_) (fun N2 a2 => ed_var rfl (hv.ex a2)) (Nat.zero_le _)) g.sub fun v2 N2 H3 g2 hv2 => q v2 N2 H3 (g.trans g2) hv2
  refine ⟨_, rfl, k, C, dx, _, _, rfl, a3 _ _ (g.bas _ _ ob), T.cl, T.n4, rfl, _, _, rfl, rfl, ?_⟩
  refine ⟨1, _, rfl, rfl, RgOk.of_le (by decide) (by decide) (by decide) (by decide), fun p hp => ?_⟩
  exact q3 _ _ _ (Gr.alloc a3 hp) (.lst upd_same .nil)
abbrev s_Keeping_told_by : Stmt := inClass (topS 44) 5
theorem sc_Keeping_told_by : FnScope ["self", "names", "hand", "teller", "number"] ["self", "names", "hand"] (defScope s_Keeping_told_by) := ⟨rfl, rfl, rfl, by decide +kernel, rfl, by decide +kernel, by decide +kernel⟩
theorem ok_Keeping_told_by (T : TKeep K C) {f : Addr} {fd : FuncData} (F : Fun K "told_by" "Keeping.told_by" s_Keeping_told_by f fd) : FnOk P w K mg base CX0 1 f fd ["self", "names", "hand"] (spK0 K C 3 (preT K)) := by
  refine F.ok sc_Keeping_told_by (fun vs H Q E h => spK0_len vs H Q E h) (fun cdv A outer s H1 vs Q E hr h => ?_)
  obtain ⟨L, k, me, ot, wr, b, e, o, ne, hn, hv, hp, q⟩ := h
  match vs, hn, hv, hp with
  | [_, _, _], _, hv, ⟨v1, hh, ev, hv1⟩ =>
  cases hv
  cases ev
  refine ⟨_, (pss_one (ps_ret (pe_lc (own := [("teller", 3), ("number", 4)]) rfl sc_Keeping_told_by.nd (pi_listK (K := K) (pv 1)) (blkOk_by (N := ["self", "names", "hand", "teller", "number"]) (sc := defScope s_Keeping_told_by) (by decide +kernel)) (fun _ _ _ _ _ => (pg_tupK (K := K) (n := 2) rfl (pgs_cons (pg_name (i := 3) sc_Keeping_told_by.nd rfl (by first | exact Or.inl rfl | exact Or.inr rfl)) (pgs_cons (pg_name (i := 4) sc_Keeping_told_by.nd rfl (by first | exact Or.inl rfl | exact Or.inr rfl)) pgs_nil)))) (fun _ _ _ _ _ => pts_one (PW.pt (pw_and (pt_cmpR (op_eqDK (K := K) hr.units) (pv 3) (pv 2) (nomark _)) (pw_and1 (pt_cmpR (op_inTK (K := K) (room65 hr)) (pe_tup (pa_cons (pv 2) (pa_cons (pv 4) pa_nil))) (pe_fldK (K := K) (pv 0) rfl) (by with_unfolding_all rfl)))))) (fun _ _ _ _ _ => (pe_tup (pa_cons (pv 2) (pa_cons (pv 4) pa_nil))))))), ?_⟩
  exact d_ret (K := K) (H := L) (d := .list []) (ed_is (ed_map (β := PyData) (P := PD K []) [] (fun _ => true) id (Nat.zero_le _) (wd_lst (ed_var rfl hv1)) fun i x y N e1 hy hx => mem0 hy) rfl) e q
abbrev s_Keeping_ground : Stmt := inClass (topS 44) 6
theorem sc_Keeping_ground : FnScope ["self", "writer", "names", "reader", "theirs", "own", "their", "key"] ["self", "writer", "names"] (defScope s_Keeping_ground) := ⟨rfl, rfl, rfl, by decide +kernel, rfl, by decide +kernel, by decide +kernel⟩
theorem ok_Keeping_ground (M : MgO mg) (T : TKeep K C) (G_Keeping_told_by : OwnM P w K mg base 1 C "told_by" ["self", "names", "hand"] (spK0 K C 3 (preT K))) {f : Addr} {fd : FuncData} (F : Fun K "ground" "Keeping.ground" s_Keeping_ground f fd) : FnOk P w K mg base CX0 2 f fd ["self", "writer", "names"] (spK0 K C 3 fun vs L => ∃ v1 h, vs = [.str h, v1] ∧ Da K L v1 (.list []) ∧ SeqAt.shaped (.str h) = true) := by
  refine F.ok sc_Keeping_ground (fun vs H Q E h => spK0_len vs H Q E h) (fun cdv A outer s H1 vs Q E hr h => ?_)
  obtain ⟨L, k, me, ot, wr, b, e, o, ne, hn, hv, hp, q⟩ := h
  obtain ⟨l, s', c, t, cnt, sd, cd, sh, oi, _⟩ := id o
  match vs, hn, hv, hp with
  | [_, _, _], _, hv, ⟨v1, hh, ev, hv1, hs⟩ =>
  cases hv
  cases ev
  obtain ⟨dx, ob⟩ := oi.ob
  refine ⟨_, (pss_cons (ps_set (i := 3) sc_Keeping_ground.nd rfl (by first | exact Or.inl rfl | exact Or.inr rfl) (pe_ifExp (pt_cmpR (op_eqDK (K := K) hr.units) (pv 1) (pe_fldK (K := K) (pv 0) rfl) (nomark _)) (pe_fldK (K := K) (pv 0) rfl) (pe_fldK (K := K) (pv 0) rfl)))
      (pss_cons (ps_set (i := 4) sc_Keeping_ground.nd rfl (by first | exact Or.inl rfl | exact Or.inr rfl) (pe_ownM G_Keeping_told_by (hr.mono (by decide)) (pv 0) (pa_cons (pv 2) (pa_cons (pv 3) pa_nil)) pass0))
      (pss_cons (ps_setLc2 (i := 5) (own := [("their", 6), ("key", 7)]) (vs1 := [7]) rfl sc_Keeping_ground.nd rfl rfl (sw_true rfl rfl rfl (by decide +kernel)) (pi_listK (K := K) (pv 4)) (blkOk_by (N := ["self", "writer", "names", "reader", "theirs", "own", "their", "key"]) (sc := defScope s_Keeping_ground) (by decide +kernel)) (by decide) (fun _ _ _ _ _ => (pg_name (i := 6) sc_Keeping_ground.nd rfl (by first | exact Or.inl rfl | exact Or.inr rfl))) (fun _ _ _ _ _ => pts_nil) (fun _ _ _ _ _ => (pi_listK (K := K) (pe_ownM G_Keeping_told_by (hr.mono (by decide)) (pv 0) (pa_cons pe_never (pa_cons (pv 1) pa_nil)) pass0))) (fun _ _ _ _ _ => (pg_name (i := 7) sc_Keeping_ground.nd rfl (by first | exact Or.inl rfl | exact Or.inr rfl))) (fun _ _ _ _ _ => pts_nil) (fun _ _ _ _ _ => (pv 7)))
      (pss_one (ps_ret (pe_op op_cat (pv 4) (pe_callB (cr_sortK rfl (room75 hr)) (by rfl) M.m_sorted boot_sorted (pa_cons (pe_callTy (cr_setOf (K := K) rfl) (by rfl) M.m_set (by decide +kernel) (pa_cons (pv 5) pa_nil)) pa_nil)))))))), ?_⟩
  refine d_asg (K := K) (H := L) (d := .str (if hh == me then ot else me)) (fun H2 a2 Q2 q2 => ?_) e fun v N H2 g hv => ?_
  · refine (et_test (ev_eqD (K := K) (d := .str hh) (e := .str me) (ed_var rfl (.str _)) (fun N e2 => ed_of (ev_fld (ev_var rfl) (e2 _ _ ob) T.cl T.n1 rfl) (.str _)) hs ne.s1)) H2 a2 _ fun H3 e3 => ?_
    have ee : PyData.eqv (.str hh) (.str me) = (hh == me) := by simp [PyData.eqv]
    rw [ee]
    cases hb : (hh == me) with
    | true => exact ⟨_, rfl, k, C, dx, _, _, rfl, e3 _ _ (a2 _ _ ob), T.cl, T.n2, rfl, by rw [hb] at q2; exact q2 _ L H3 (.old a2 e3) (.str _)⟩
    | false => exact ⟨_, rfl, k, C, dx, _, _, rfl, e3 _ _ (a2 _ _ ob), T.cl, T.n1, rfl, by rw [hb] at q2; exact q2 _ L H3 (.old a2 e3) (.str _)⟩
  cases hv
  have obN := g.bas _ _ ob
  refine d_asg (K := K) (H := N) (d := .list []) (ed_meth (ev_var rfl) obN rfl (eds2 (ed_var rfl (hv1.ex g.bas)) fun N2 a2 => ed_var rfl (.str _)) fun vs N2 H3 a b2 hvs Q q' => ?_) g.sub fun v2 N2 H3 g2 hv2 => ?_
  · cases hvs with
    | cons u1 u2 =>
    cases u2 with
    | cons u2 u3 =>
    cases u3
    cases u2
    exact ⟨N2, k, me, ot, wr, b, b2, o.ex (g.bas.trans a), ne, rfl, rfl, ⟨_, _, rfl, u1⟩, q'⟩
  refine d_asg (K := K) (H := N2) (d := .list []) ?_ g2.sub fun v3 N3 H4 g3 hv3 => ?_
  · exact ed_lc20 (P := PD K []) (wd_lst (ed_var rfl hv2))
  refine d_ret (K := K) (H := N3) (d := .list ([] ++ (sortK (nub [])).map kD)) (ed_cat (ed_var rfl (hv2.ex g3.bas)) (fun N4 a4 => ed_sortSet (ks := []) (.inl (ed_var rfl (hv3.ex a4))) (by decide) fun d hd => nomatch hd) ?_) g3.sub fun v4 N4 H5 g4 hv4 => q v4 N4 H5 ((g.trans g2).trans (g3.trans g4)) ?_
  · simp [sortK, nub]
  · have ez : ([] ++ (sortK (nub [])).map kD : List PyData) = [] := by simp [sortK, nub]
    rw [ez] at hv4
    exact hv4
abbrev s_Keeping_own_ground : Stmt := inClass (topS 44) 7
theorem sc_Keeping_own_ground : FnScope ["self", "number"] ["self"] (defScope s_Keeping_own_ground) := ⟨rfl, rfl, rfl, by decide +kernel, rfl, by decide +kernel, by decide +kernel⟩
theorem ok_Keeping_own_ground (T : TKeep K C) (G_Keeping_kept_numbers : OwnM P w K mg base 1 C "kept_numbers" ["self"] (spK0 K C 1 preN)) (G_Keeping_ground : OwnM P w K mg base 2 C "ground" ["self", "writer", "names"] (spK0 K C 3 fun vs L => ∃ v1 h, vs = [.str h, v1] ∧ Da K L v1 (.list []) ∧ SeqAt.shaped (.str h) = true)) {f : Addr} {fd : FuncData} (F : Fun K "own_ground" "Keeping.own_ground" s_Keeping_own_ground f fd) : FnOk P w K mg base CX0 3 f fd ["self"] (spK0 K C 1 preN) := by
  refine F.ok sc_Keeping_own_ground (fun vs H Q E h => spK0_len vs H Q E h) (fun cdv A outer s H1 vs Q E hr h => ?_)
  obtain ⟨L, k, me, ot, wr, b, e, o, ne, hn, hv, _, q⟩ := h
  obtain ⟨l, s', c, t, cnt, sd, cd, sh, oi, _⟩ := id o
  match vs, hn, hv with
  | [_], _, hv =>
  cases hv
  obtain ⟨dx, ob⟩ := oi.ob
  refine ⟨_, (pss_one (ps_ret (pe_ownM G_Keeping_ground (hr.mono (by decide)) (pv 0) (pa_cons (pe_fldK (K := K) (pv 0) rfl) (pa_cons (pe_lc (own := [("number", 1)]) rfl sc_Keeping_own_ground.nd (pi_listK (K := K) (pe_ownM0 G_Keeping_kept_numbers (hr.mono (by decide)) (pv 0) pass0)) (blkOk_by (N := ["self", "number"]) (sc := defScope s_Keeping_own_ground) (by decide +kernel)) (fun _ _ _ _ _ => (pg_name (i := 1) sc_Keeping_own_ground.nd rfl (by first | exact Or.inl rfl | exact Or.inr rfl))) (fun _ _ _ _ _ => pts_nil) (fun _ _ _ _ _ => (pe_tup (pa_cons (pe_fldK (K := K) (pv 0) rfl) (pa_cons (pv 1) pa_nil))))) pa_nil)) pass0))), ?_⟩
  refine d_ret (K := K) (H := L) (d := .list []) (ed_meth (ev_var rfl) ob rfl (eds2 (d := .str me) (e := .list []) (ed_of (ev_fld (ev_var rfl) ob T.cl T.n1 rfl) (.str _)) fun N a => ?_) fun vs N H2 a b2 hvs Q q' => ?_) e q
  · refine ed_lc0 (P := PD K []) (wd_lst (ds := []) (ed_meth (ev_var rfl) (a _ _ ob) rfl eds_nil fun vs N2 H2 a2 b2 hvs Q q' => ?_))
    cases hvs
    exact ⟨N2, k, me, ot, wr, b, b2, o.ex (a.trans a2), ne, rfl, rfl, trivial, q'⟩
  · cases hvs with
    | cons u1 u2 =>
    cases u2 with
    | cons u2 u3 =>
    cases u3
    cases u1
    exact ⟨N, k, me, ot, wr, b, b2, o.ex a, ne, rfl, rfl, ⟨_, _, rfl, u2, ne.s1⟩, q'⟩
end
end Sg
end
section
set_option maxRecDepth 100000
set_option maxHeartbeats 4000000
/-! The least description where nothing was said: none. -/
namespace Sg
open PySem PySem.Spec PyProof.Rows L2 Evl
structure MgC (mg : Str → Option Value) : Prop where
  m_sum : mg "sum" = none
  c_combinations : mg "combinations" = some (.type Comb.T)
def rSumK (K : PySem.W.Frag) : List V → Hp → VK → Prop := fun vs H Q => ∃ (a : Addr) (ns : List Int), vs = [V.ref a] ∧ SqL K H a (ns.map V.int) ∧ Q (.int ns.sum) H
theorem cr_sumK {X : Cx} {K : PySem.W.Frag} (hc : X.calm = true) (h : X.K = K := by rfl) : CallR X (.builtin "sum") (rSumK K) := by subst h; exact cr_sum hc
def spSafe0 (K : PySem.W.Frag) : Sp := fun vs H1 Q _ => ∃ L v1 v2, vs = [v1, v2] ∧ Ex L H1 ∧ Da K L v1 (.list []) ∧ Da K L v2 (.list []) ∧ ∀ N H2, Gr L H1 N H2 → Q .non H2
theorem es_sc0 {P : Program} {w : World} {K : PySem.W.Frag} {σ : L2.St} {B : Hp} {wi : TI} {g : TG} {t : TT} {te : TE} {vs : List Nat} {Pw : Hp → Nat → V → Prop} (hwi : WiD wi σ B 0 Pw) : EvS P w (tScK P w wi g t te vs) σ B [] :=
  ed_sc (K := K) (β := PyData) [] (fun _ => true) (fun _ => .inl 0) (Nat.zero_le _) hwi fun i x y N e hy => nomatch hy
theorem es_sc20 {P : Program} {w : World} {K : PySem.W.Frag} {σ : L2.St} {B : Hp} {wi wi1 : TI} {g g1 : TG} {te : TE} {vs vs1 : List Nat} {Pw : Hp → Nat → V → Prop} (hwi : WiD wi σ B 0 Pw) : EvS P w (tScK2 P w wi g tYes wi1 g1 tYes te vs vs1) σ B [] :=
  ed_sc2 (K := K) (β := PyData) (γ := PyData) (Pw1 := fun _ _ _ _ => True) [] (fun _ => []) (fun _ _ => .inl 0) (Nat.zero_le _) hwi fun i x y N e hy => nomatch hy
theorem d_asgC {i : Nat} {te : TE} {tz : TS} {D : Ends} {σ : L2.St} {B H1 : Hp} {o : HO} (h : EvCn te σ B o) (a : Ex B H1) (k : ∀ p N H2, H1 p = none → Gr B H1 N H2 → N p = some o → tz D (σ.set i (some (.ref p))) H2) : tSeq (tAsg te (gName i)) tz D σ H1 := h H1 a _ k
theorem ed_sum0 {K : PySem.W.Frag} {σ : L2.St} {B : Hp} {te : TE} (h : EvD K te σ B (.list [])) : EvD K (tCB (rSumK K) (tCons te tNil)) σ B (.int 0) := fun H2 a2 Q2 q2 => h H2 a2 _ fun v N H3 g hv => by
  cases hv with
  | lst h1 h2 =>
    cases h2
    exact ⟨_, [], rfl, sq_of (g.sub _ _ h1), q2 _ N H3 g (.int _)⟩
theorem sortK_nil : (sortK ([] : List Key)).map kD = [] := by simp [sortK]
section
variable {P : Program} {w : World} {K : PySem.W.Frag} {mg : Str → Option Value} {base : Heap} {C : Addr}
abbrev s_masks_of : Stmt := topS 4
theorem sc_masks_of : FnScope ["lots", "bits", "words", "word"] ["lots", "bits"] (defScope s_masks_of) := ⟨rfl, rfl, rfl, by decide +kernel, rfl, by decide +kernel, by decide +kernel⟩
theorem ok_masks_of (M : MgO mg) {f : Addr} {fd : FuncData} (F : Fun K "masks_of" "masks_of" s_masks_of f fd) : FnOk P w K mg base CX0 1 f fd ["lots", "bits"] (fun vs H1 Q _ => ∃ L v1 v2, vs = [v1, v2] ∧ Ex L H1 ∧ Da K L v1 (.list []) ∧ ∀ v N H2, Gr L H1 N H2 → Da K N v (.list []) → Q v H2) := by
  refine F.ok sc_masks_of (fun vs H Q E h => ?_) (fun cdv A outer s H1 vs Q E hr h => ?_)
  · obtain ⟨L, v1, v2, rfl, _⟩ := h
    rfl
  obtain ⟨L, v1, v2, rfl, e, hv, q⟩ := h
  refine ⟨_, (pss_one (ps_ret (pe_callB (cr_sortK rfl (room75 hr)) (by rfl) M.m_sorted boot_sorted (pa_cons (pe_scK (own := [("words", 2)]) rfl sc_masks_of.nd (pi_listK (K := K) (pv 0)) (blkOk_by (N := ["lots", "bits", "words", "word"]) (sc := defScope s_masks_of) (by decide +kernel)) (fun _ _ _ _ _ => (pg_name (i := 2) sc_masks_of.nd rfl (by first | exact Or.inl rfl | exact Or.inr rfl))) (fun _ _ _ _ _ => pts_nil) (fun _ _ _ _ _ => pe_never)) pa_nil)))), ?_⟩
  exact d_ret (K := K) (H := L) (d := .list []) (ed_is (ed_sortS (P := P) (w := _) (ks := []) (es_sc0 (K := K) (Pw := PD K []) (wd_lst (ed_var rfl hv))) fun d hd => nomatch hd) (congrArg PyData.list sortK_nil)) e q
abbrev s_least_safe : Stmt := topS 5
theorem sc_least_safe : FnScope ["faces", "others", "barring", "clear", "words", "bits", "wanted", "barred", "size", "some", "face", "mask", "word", "k", "other"] ["faces", "others"] (defScope s_least_safe) := ⟨rfl, rfl, rfl, by decide +kernel, rfl, by decide +kernel, by decide +kernel⟩
theorem ok_least_safe (M : MgO mg) (N' : MgC mg) (G_masks_of : Own P w K mg base 1 "masks_of" ["lots", "bits"] [] (fun vs H1 Q _ => ∃ L v1 v2, vs = [v1, v2] ∧ Ex L H1 ∧ Da K L v1 (.list []) ∧ ∀ v N H2, Gr L H1 N H2 → Da K N v (.list []) → Q v H2)) {f : Addr} {fd : FuncData} (F : Fun K "least_safe" "least_safe" s_least_safe f fd) : FnOk P w K mg base CX0 2 f fd ["faces", "others"] (spSafe0 K) := by
  refine F.ok sc_least_safe (fun vs H Q E h => ?_) (fun cdv A outer s H1 vs Q E hr h => ?_)
  · obtain ⟨L, v1, v2, rfl, _⟩ := h
    rfl
  obtain ⟨L, v1, v2, rfl, e, hf, ho, q⟩ := h
  refine ⟨_, (pss_cons (ps_set (i := 2) sc_least_safe.nd rfl (by first | exact Or.inl rfl | exact Or.inr rfl) (pe_callB (cr_sortK rfl (room75 hr)) (by rfl) M.m_sorted boot_sorted (pa_cons (pe_callTy (cr_setOf (K := K) rfl) (by rfl) M.m_set (by decide +kernel) (pa_cons (pv 1) pa_nil)) pa_nil)))
      (pss_cons (ps_setLc (i := 3) (own := [("face", 10)]) rfl sc_least_safe.nd rfl rfl (sw_true rfl rfl rfl (by decide +kernel)) (pi_listK (K := K) (pe_callB (cr_sortK rfl (room75 hr)) (by rfl) M.m_sorted boot_sorted (pa_cons (pe_callTy (cr_setOf (K := K) rfl) (by rfl) M.m_set (by decide +kernel) (pa_cons (pv 0) pa_nil)) pa_nil))) (blkOk_by (N := ["faces", "others", "barring", "clear", "words", "bits", "wanted", "barred", "size", "some", "face", "mask", "word", "k", "other"]) (sc := defScope s_least_safe) (by decide +kernel)) (fun _ _ _ _ _ => (pg_name (i := 10) sc_least_safe.nd rfl (by first | exact Or.inl rfl | exact Or.inr rfl))) (fun _ _ _ _ _ => pts_one (pt_not (pt_val (pe_callB (cr_anyK (K := K) rfl) (by rfl) M.m_any boot_any (pa_cons (pe_lc (own := [("other", 14)]) rfl sc_least_safe.nd (pi_listK (K := K) (pv 2)) (blkOk_by (N := ["faces", "others", "barring", "clear", "words", "bits", "wanted", "barred", "size", "some", "face", "mask", "word", "k", "other"]) (by kernel_rfl)) (fun _ _ _ _ _ => (pg_name (i := 14) sc_least_safe.nd rfl (by first | exact Or.inl rfl | exact Or.inr rfl))) (fun _ _ _ _ _ => pts_nil) (fun _ _ _ _ _ => pe_never)) pa_nil))))) (fun _ _ _ _ _ => (pv 10)))
      (pss_cons (ps_set (i := 4) sc_least_safe.nd rfl (by first | exact Or.inl rfl | exact Or.inr rfl) (pe_callB (cr_sortK rfl (room75 hr)) (by rfl) M.m_sorted boot_sorted (pa_cons (pe_scK2 (own := [("face", 10), ("word", 12)]) (vs1 := [12]) rfl sc_least_safe.nd (pi_listK (K := K) (pv 3)) (blkOk_by (N := ["faces", "others", "barring", "clear", "words", "bits", "wanted", "barred", "size", "some", "face", "mask", "word", "k", "other"]) (sc := defScope s_least_safe) (by decide +kernel)) (by decide) (fun _ _ _ _ _ => (pg_name (i := 10) sc_least_safe.nd rfl (by first | exact Or.inl rfl | exact Or.inr rfl))) (fun _ _ _ _ _ => pts_nil) (fun _ _ _ _ _ => (pi_tupK (K := K) (pv 10))) (fun _ _ _ _ _ => (pg_name (i := 12) sc_least_safe.nd rfl (by first | exact Or.inl rfl | exact Or.inr rfl))) (fun _ _ _ _ _ => pts_nil) (fun _ _ _ _ _ => (pv 12))) pa_nil)))
      (pss_cons (ps_set (i := 5) sc_least_safe.nd rfl (by first | exact Or.inl rfl | exact Or.inr rfl) (pe_dc (own := [("k", 13), ("word", 12)]) rfl sc_least_safe.nd (pi_enum (by rfl) M.m_enumerate (pa_cons (pv 4) pa_nil)) (blkOk_by (N := ["faces", "others", "barring", "clear", "words", "bits", "wanted", "barred", "size", "some", "face", "mask", "word", "k", "other"]) (sc := defScope s_least_safe) (by decide +kernel)) (fun _ _ _ _ _ => (pg_tupK (K := K) (n := 2) rfl (pgs_cons (pg_name (i := 13) sc_least_safe.nd rfl (by first | exact Or.inl rfl | exact Or.inr rfl)) (pgs_cons (pg_name (i := 12) sc_least_safe.nd rfl (by first | exact Or.inl rfl | exact Or.inr rfl)) pgs_nil)))) (fun _ _ _ _ _ => pts_nil) (fun _ _ _ _ _ => (pv 12)) (fun _ _ _ _ _ => pe_never)))
      (pss_cons (ps_set (i := 6) sc_least_safe.nd rfl (by first | exact Or.inl rfl | exact Or.inr rfl) (pe_own G_masks_of (hr.mono (by decide)) (pa_cons (pv 3) (pa_cons (pv 5) pa_nil)) pass0))
      (pss_cons (ps_set (i := 7) sc_least_safe.nd rfl (by first | exact Or.inl rfl | exact Or.inr rfl) (pe_own G_masks_of (hr.mono (by decide)) (pa_cons (pv 2) (pa_cons (pv 5) pa_nil)) pass0))
      (pss_cons (ps_for PassesOwn.never rfl (pi_range1 (by rfl) M.m_range (pa_cons (pe_op op_add (pe_callB (call_lenK (K := K)) (by rfl) M.m_len boot_len (pa_cons (pv 4) pa_nil)) pe_int) pa_nil)) (pg_name (i := 8) sc_least_safe.nd rfl (by first | exact Or.inl rfl | exact Or.inr rfl)) (pss_one (ps_for PassesOwn.never rfl (Comb.pi_comb (K := K) (by rfl) N'.c_combinations (pa_cons (pv 4) (pa_cons (pv 8) pa_nil))) (pg_name (i := 9) sc_least_safe.nd rfl (by first | exact Or.inl rfl | exact Or.inr rfl)) (pss_cons (ps_set (i := 11) sc_least_safe.nd rfl (by first | exact Or.inl rfl | exact Or.inr rfl) (pe_callB (cr_sumK (K := K) rfl) (by rfl) N'.m_sum (by decide +kernel) (pa_cons (pe_lc (own := [("word", 12)]) rfl sc_least_safe.nd (pi_tupK (K := K) (pv 9)) (blkOk_by (N := ["faces", "others", "barring", "clear", "words", "bits", "wanted", "barred", "size", "some", "face", "mask", "word", "k", "other"]) (sc := defScope s_least_safe) (by decide +kernel)) (fun _ _ _ _ _ => (pg_name (i := 12) sc_least_safe.nd rfl (by first | exact Or.inl rfl | exact Or.inr rfl))) (fun _ _ _ _ _ => pts_nil) (fun _ _ _ _ _ => pe_never)) pa_nil)))
      (pss_one (ps_if (PW.pt (pw_and (pt_val (pe_callB (cr_anyK (K := K) rfl) (by rfl) M.m_any boot_any (pa_cons (pe_lc (own := [("face", 10)]) rfl sc_least_safe.nd (pi_listK (K := K) (pv 6)) (blkOk_by (N := ["faces", "others", "barring", "clear", "words", "bits", "wanted", "barred", "size", "some", "face", "mask", "word", "k", "other"]) (sc := defScope s_least_safe) (by decide +kernel)) (fun _ _ _ _ _ => (pg_name (i := 10) sc_least_safe.nd rfl (by first | exact Or.inl rfl | exact Or.inr rfl))) (fun _ _ _ _ _ => pts_nil) (fun _ _ _ _ _ => pe_never)) pa_nil))) (pw_and1 (pt_val (pe_callB (cr_allK (K := K) rfl) (by rfl) M.m_all boot_all (pa_cons (pe_lc (own := [("other", 14)]) rfl sc_least_safe.nd (pi_listK (K := K) (pv 7)) (blkOk_by (N := ["faces", "others", "barring", "clear", "words", "bits", "wanted", "barred", "size", "some", "face", "mask", "word", "k", "other"]) (sc := defScope s_least_safe) (by decide +kernel)) (fun _ _ _ _ _ => (pg_name (i := 14) sc_least_safe.nd rfl (by first | exact Or.inl rfl | exact Or.inr rfl))) (fun _ _ _ _ _ => pts_nil) (fun _ _ _ _ _ => pe_never)) pa_nil)))))) (pss_one (ps_ret (pv 9))) pss_nil))))))
      (pss_one (ps_ret pe_non))))))))), ?_⟩
  have setN : ∀ {σ : L2.St} {B : Hp} {i : Nat} {v : V}, σ[i]? = some (some v) → Da K B v (.list []) → EvD K (tCB (rSortK P w) (tCons (tCB (rSetOf K P w) (tCons (tVar i) tNil)) tNil)) σ B (.list []) := fun h0 hv => ed_is (ed_sortSet (ks := []) (.inl (ed_var h0 hv)) (by decide) fun d hd => nomatch hd) (congrArg PyData.list (by simp [nub, sortK]))
  refine d_asg (K := K) (H := L) (d := .list []) (setN rfl ho) e fun vb N1 H2 g1 hb => ?_
  refine d_asg (K := K) (H := N1) (d := .list []) (ed_lc0 (P := PD K []) (wd_lst (ds := []) (setN rfl (hf.ex g1.bas)))) g1.sub fun vc N2 H3 g2 hc => ?_
  refine d_asg (K := K) (H := N2) (d := .list []) (ed_is (ed_sortS (P := P) (w := w) (ks := []) (es_sc20 (K := K) (Pw := PD K []) (wd_lst (ds := []) (ed_var rfl hc))) fun d hd => nomatch hd) (congrArg PyData.list sortK_nil)) g2.sub fun vw N3 H4 g3 hw => ?_
  refine d_asgC (B := N3) (ed_dcn (K := K) (β := PyData) (Pw := fun N i x => ∃ d, ([] : List PyData)[i]? = some d ∧ Da K N x (.tuple [.int (i : Int), d])) [] (fun _ => .inl 0) (fun _ => .non) (Nat.zero_le _) (wd_enumL (ds := []) (ed_var rfl hw)) fun i x y N e hy hx => nomatch hy) g3.sub fun p N4 H5 hp g4 hN4 => ?_
  have mk : ∀ {σ : L2.St} {B : Hp} {i j : Nat} {v u : V} {E : XK}, σ[i]? = some (some v) → σ[j]? = some (some u) → Da K B v (.list []) → EvD K (tCall (fun vs H1 Q _ => ∃ L v1 v2, vs = [v1, v2] ∧ Ex L H1 ∧ Da K L v1 (.list []) ∧ ∀ v N H2, Gr L H1 N H2 → Da K N v (.list []) → Q v H2) [] E (tCons (tVar i) (tCons (tVar j) tNil))) σ B (.list []) := fun h0 h1 hv H2 a2 Q2 q2 => ⟨_, h0, _, h1, _, _, _, rfl, a2, hv, q2⟩
  have hc4 := hc.ex (g3.bas.trans g4.bas)
  refine d_asg (K := K) (H := N4) (d := .list []) (mk rfl rfl hc4) g4.sub fun va N5 H6 g5 ha => ?_
  have hb5 := hb.ex (g2.bas.trans (g3.bas.trans (g4.bas.trans g5.bas)))
  refine d_asg (K := K) (H := N5) (d := .list []) (mk rfl rfl hb5) g5.sub fun vd N6 H7 g6 hd => ?_
  have G := g1.trans (g2.trans (g3.trans (g4.trans (g5.trans g6))))
  have hw6 := hw.ex (g4.bas.trans (g5.bas.trans g6.bas))
  have ha6 := ha.ex g6.bas
  refine q_for (H := N6) (n := ((([] : List PyData).length : Int) + 1).toNat) (P := fun _ i x => x = .int (i : Int)) (wd_rng (n := (([] : List PyData).length : Int) + 1) (ea_cons (ev_op (ev_lenL (ed_var rfl hw6)) ev_c rv_I0) ea_nil) ⟨by decide, by decide⟩) g6.sub
    (fun i σ' B => (∃ x8 x9 x10 x11 x12 x13 x14, σ' = [some v1, some v2, some vb, some vc, some vw, some (.ref p), some va, some vd, x8, x9, x10, x11, x12, x13, x14]) ∧ Da K B vw (.list []) ∧ Da K B va (.list [])) (fun _ _ => False) (fun N H8 g => ⟨⟨_, _, _, _, _, _, _, rfl⟩, hw6.ex g.bas, ha6.ex g.bas⟩)
    (fun i x σ' B H' hi inv gB hx mono Nx Bk nx bk => ?_) (fun i σ' B B2 ⟨h1, h2, h3⟩ e2 => ⟨h1, h2.ex e2, h3.ex e2⟩) (fun σ' N H8 g _ => ?_) fun σ' N H8 g h => h.elim
  · obtain ⟨⟨x8, x9, x10, x11, x12, x13, x14, rfl⟩, hwB, haB⟩ := inv
    subst hx
    have ei : i = 0 := by
      have : ((([] : List PyData).length : Int) + 1).toNat = 1 := rfl
      omega
    subst ei
    refine d_for (H := B) (wd_comb (K := K) (ds := []) (r := 0) (ed_var rfl hwB) (fun N e => ed_var rfl (.int _)) (by decide)) gB.sub
      (fun i σ' B => (∃ x8 x9 x10 x11 x12 x13 x14, σ' = [some v1, some v2, some vb, some vc, some vw, some (.ref p), some va, some vd, x8, x9, x10, x11, x12, x13, x14]) ∧ Da K B vw (.list []) ∧ Da K B va (.list [])) (fun _ _ => False) (fun N H8 g => ⟨⟨_, _, _, _, _, _, _, rfl⟩, hwB.ex g.bas, haB.ex g.bas⟩)
      (fun j x σ' B' H8 hj inv gB' hx mono' Nx' Bk' nx' bk' => ?_) (fun i σ' B B2 ⟨h1, h2, h3⟩ e2 => ⟨h1, h2.ex e2, h3.ex e2⟩) (fun σ' N H8 g inv => nx _ N H8 g inv) fun σ' N H8 g h => h.elim
    obtain ⟨⟨x8, x9, x10, x11, x12, x13, x14, rfl⟩, hwB', haB'⟩ := inv
    obtain ⟨c, hc, hx⟩ := hx
    have ec : c = [] := by
      rw [choose_zero] at hc
      match j, hc with
      | 0, hc =>
        cases hc
        rfl
    subst ec
    refine d_asg (K := K) (H := B') (d := .int 0) ?_ gB'.sub fun vm N9 H9 g9 hm => ?_
    · exact ed_sum0 (ed_lc0 (P := PD K []) (wd_tup (ds := []) (ed_var rfl hx)))
    · cases hm
      refine d_ifZ (H := N9) (b := false && false) (et_and (et_B (ev_anyD (K := K) (bs := []) (ed_lc0 (P := PD K []) (wd_lst (ds := []) (ed_var rfl (haB'.ex g9.bas)))))) fun h => nomatch h) g9.sub (fun h => nomatch h) fun _ H10 e10 => ?_
      exact nx' _ N9 H10 (g9.trans (.old g9.sub e10)) ⟨⟨_, _, _, _, _, _, _, rfl⟩, hwB'.ex g9.bas, haB'.ex g9.bas⟩
  · exact q _ _ (G.trans g)
abbrev s_name_in : Stmt := topS 6
theorem sc_name_in : FnScope ["lots", "held", "faces", "others", "lot", "words"] ["lots", "held"] (defScope s_name_in) := ⟨rfl, rfl, rfl, by decide +kernel, rfl, by decide +kernel, by decide +kernel⟩
theorem ok_name_in (G_least_safe : Own P w K mg base 2 "least_safe" ["faces", "others"] [] (spSafe0 K)) {f : Addr} {fd : FuncData} (F : Fun K "name_in" "name_in" s_name_in f fd) : FnOk P w K mg base CX0 3 f fd ["lots", "held"] (fun vs H1 Q _ => ∃ L v1 v2, vs = [v1, v2] ∧ Ex L H1 ∧ Da K L v1 (.list []) ∧ ∀ N H2, Gr L H1 N H2 → Q .non H2) := by
  refine F.ok sc_name_in (fun vs H Q E h => ?_) (fun cdv A outer s H1 vs Q E hr h => ?_)
  · obtain ⟨L, v1, v2, rfl, _⟩ := h
    rfl
  obtain ⟨L, v1, v2, rfl, e, hv, q⟩ := h
  refine ⟨_, (pss_cons (ps_setLc (i := 2) (own := [("lot", 4), ("words", 5)]) rfl sc_name_in.nd rfl rfl (sw_true rfl rfl rfl (by decide +kernel)) (pi_listK (K := K) (pv 0)) (blkOk_by (N := ["lots", "held", "faces", "others", "lot", "words"]) (sc := defScope s_name_in) (by decide +kernel)) (fun _ _ _ _ _ => (pg_tupK (K := K) (n := 2) rfl (pgs_cons (pg_name (i := 4) sc_name_in.nd rfl (by first | exact Or.inl rfl | exact Or.inr rfl)) (pgs_cons (pg_name (i := 5) sc_name_in.nd rfl (by first | exact Or.inl rfl | exact Or.inr rfl)) pgs_nil)))) (fun _ _ _ _ _ => pts_one (pt_cmpR (op_eqDK (K := K) hr.units) (pv 4) (pv 1) (nomark _))) (fun _ _ _ _ _ => (pv 5)))
      (pss_cons (ps_setLc (i := 3) (own := [("lot", 4), ("words", 5)]) rfl sc_name_in.nd rfl rfl (sw_true rfl rfl rfl (by decide +kernel)) (pi_listK (K := K) (pv 0)) (blkOk_by (N := ["lots", "held", "faces", "others", "lot", "words"]) (sc := defScope s_name_in) (by decide +kernel)) (fun _ _ _ _ _ => (pg_tupK (K := K) (n := 2) rfl (pgs_cons (pg_name (i := 4) sc_name_in.nd rfl (by first | exact Or.inl rfl | exact Or.inr rfl)) (pgs_cons (pg_name (i := 5) sc_name_in.nd rfl (by first | exact Or.inl rfl | exact Or.inr rfl)) pgs_nil)))) (fun _ _ _ _ _ => pts_one (pt_cmpR (op_neDK (K := K) hr.units) (pv 4) (pv 1) (nomark _))) (fun _ _ _ _ _ => (pv 5)))
      (pss_one (ps_ret (pe_own G_least_safe (hr.mono (by decide)) (pa_cons (pv 2) (pa_cons (pv 3) pa_nil)) pass0))))), ?_⟩
  refine d_asg (K := K) (H := L) (d := .list []) (ed_lc0 (P := PD K []) (wd_lst (ds := []) (ed_var rfl hv))) e fun va N1 H2 g1 ha => ?_
  refine d_asg (K := K) (H := N1) (d := .list []) (ed_lc0 (P := PD K []) (wd_lst (ds := []) (ed_var rfl (hv.ex g1.bas)))) g1.sub fun vb N2 H3 g2 hb => ?_
  exact ⟨_, rfl, _, rfl, N2, _, _, rfl, g2.sub, ha.ex g2.bas, hb, fun N3 H4 g3 => q N3 H4 (g1.trans (g2.trans g3))⟩
end
end Sg
end
section
set_option maxRecDepth 100000
set_option maxHeartbeats 4000000
/-! Files of nothing read, sheets, keepings made. -/
namespace Sg
open PySem PySem.Spec PyProof.Rows L2 Evl
/-- data in, data out -/
theorem ed_callG {K : PySem.W.Frag} {σ : L2.St} {B : Hp} {sp : Sp} {dvs : List V} {E : XK} {t : TA} {ds : List PyData} {d : PyData} (g : EvDs K t σ B ds)
    (k : ∀ vs N H2, Ex B N → Ex N H2 → DaAll K N vs ds → ∀ Q : VK, (∀ v N' H3, Gr N H2 N' H3 → Da K N' v d → Q v H3) → sp (vs ++ dvs) H2 Q E) : EvD K (tCall sp dvs E t) σ B d := fun H1 e Q q =>
  g H1 e _ fun vs N H2 b hv => k vs N H2 b.bas b.sub hv Q fun v N' H3 b' hv' => q v N' H3 (b.trans b') hv'
def spLotsOf (K : PySem.W.Frag) : Sp := fun vs H1 Q _ => ∃ L v1 v2 v3, vs = [v1, v2, v3] ∧ Ex L H1 ∧ Da K L v1 (.list []) ∧ Da K L v2 (.list []) ∧ Da K L v3 (.list []) ∧ ∀ v N H2, Gr L H1 N H2 → Da K N v (.list []) → Q v H2
theorem ed_dcP0 {K : PySem.W.Frag} {σ : L2.St} {B : Hp} {o0 : HO} {wi : TI} {g : TG} {tt : TT} {tk tv : TE} {vs : List Nat} {Pw : Hp → Nat → V → Prop} (hwi : WiD wi σ B 0 Pw) : EvCn (tDcP o0 wi g tt tk tv vs) σ B o0 := fun H0 e Q q => hwi H0 e _ fun J N H1 G F D hD => by
  refine ⟨fun i m H' => i = 0 ∧ H' = upd H1 D o0, ⟨0, rfl, rfl⟩, ?_⟩
  rintro i m H' ⟨rfl, rfl⟩
  exact .inl ⟨F.stop _ (G.sub.trans (Ex.new hD)), q _ _ _ (fresh_back G.act hD) (G.trans (.alloc G.sub hD)) upd_same⟩
theorem LotsAt.ex {C : Addr} {L L' : Hp} {a : Addr} {n : Nat} {wk : Nat → List (Key × V)} (o : LotsAt C L a n wk) (e : Ex L L') : LotsAt C L' a n wk := by
  obtain ⟨h, m, w, ma, wa, o⟩ := o
  exact ⟨h, m, w, ma, wa, o.ex e⟩
section
variable {P : Program} {w : World} {K : PySem.W.Frag} {mg : Str → Option Value} {base : Heap} {C CL : Addr}
abbrev s_lots_of : Stmt := topS 38
theorem sc_lots_of : FnScope ["members", "words", "joins", "places", "lots", "some", "join", "member", "place", "lot", "said"] ["members", "words", "joins"] (defScope s_lots_of) := ⟨rfl, rfl, rfl, by decide +kernel, rfl, by decide +kernel, by decide +kernel⟩
theorem ok_lots_of (M : MgO mg) (G_Lots : Okc P w K mg base CX0 1 CL "Lots" ["self"] [] (spLotsInit CL)) (G_Lots_listed : OwnM P w K mg base 1 CL "listed" ["self"] (spListed K CL)) {f : Addr} {fd : FuncData} (F : Fun K "lots_of" "lots_of" s_lots_of f fd) : FnOk P w K mg base CX0 3 f fd ["members", "words", "joins"] (spLotsOf K) := by
  refine F.ok sc_lots_of (fun vs H Q E h => ?_) (fun cdv A outer s H1 vs Q E hr h => ?_)
  · obtain ⟨L, v1, v2, v3, rfl, _⟩ := h
    rfl
  obtain ⟨L, v1, v2, v3, rfl, e, h1, h2, h3, q⟩ := h
  refine ⟨_, (pss_cons (ps_setDcP (i := 3) (o0 := .dK []) (own := [("place", 8), ("member", 7)]) (.inl rfl) (units1 hr) rfl sc_lots_of.nd rfl rfl (swD rfl rfl rfl (by decide +kernel)) (pi_enum (by rfl) M.m_enumerate (pa_cons (pv 0) pa_nil)) (blkOk_by (N := ["members", "words", "joins", "places", "lots", "some", "join", "member", "place", "lot", "said"]) (sc := defScope s_lots_of) (by decide +kernel)) (fun _ _ _ _ _ => (pg_tupK (K := K) (n := 2) rfl (pgs_cons (pg_name (i := 8) sc_lots_of.nd rfl (by first | exact Or.inl rfl | exact Or.inr rfl)) (pgs_cons (pg_name (i := 7) sc_lots_of.nd rfl (by first | exact Or.inl rfl | exact Or.inr rfl)) pgs_nil)))) (fun _ _ _ _ _ => pts_nil) (fun _ _ _ _ _ => (pv 7)) (fun _ _ _ _ _ => (pv 8)))
      (pss_cons (ps_set (i := 4) sc_lots_of.nd rfl (by first | exact Or.inl rfl | exact Or.inr rfl) (pe_ownC0 G_Lots (hr.mono (by decide)) pass0))
      (pss_cons (ps_for PassesOwn.never rfl (pi_seq (K := K) (pv 1)) (pg_name (i := 5) sc_lots_of.nd rfl (by first | exact Or.inl rfl | exact Or.inr rfl)) (pss_one (ps_expr pe_never)))
      (pss_cons (ps_for PassesOwn.never rfl (pi_listK (K := K) (pv 2)) (pg_name (i := 6) sc_lots_of.nd rfl (by first | exact Or.inl rfl | exact Or.inr rfl)) (pss_one (ps_for PassesOwn.never rfl (pi_listK (K := K) (pe_slice (sl_tupK (K := K)) (pv 6) (po_some pe_int) po_none)) (pg_name (i := 7) sc_lots_of.nd rfl (by first | exact Or.inl rfl | exact Or.inr rfl)) (pss_one (ps_expr pe_never)))))
      (pss_one (ps_ret (pe_lc (own := [("lot", 9), ("said", 10)]) rfl sc_lots_of.nd (pi_listK (K := K) (pe_ownM0 G_Lots_listed (hr.mono (by decide)) (pv 4) pass0)) (blkOk_by (N := ["members", "words", "joins", "places", "lots", "some", "join", "member", "place", "lot", "said"]) (sc := defScope s_lots_of) (by decide +kernel)) (fun _ _ _ _ _ => (pg_tupK (K := K) (n := 2) rfl (pgs_cons (pg_name (i := 9) sc_lots_of.nd rfl (by first | exact Or.inl rfl | exact Or.inr rfl)) (pgs_cons (pg_name (i := 10) sc_lots_of.nd rfl (by first | exact Or.inl rfl | exact Or.inr rfl)) pgs_nil)))) (fun _ _ _ _ _ => pts_nil) (fun _ _ _ _ _ => (pe_tup (pa_cons (pe_callTy (cr_tupOf (K := K)) (by rfl) M.m_tuple (by decide +kernel) (pa_cons (pe_lc (own := [("place", 8)]) rfl sc_lots_of.nd (pi_tupK (K := K) (pv 9)) (blkOk_by (N := ["members", "words", "joins", "places", "lots", "some", "join", "member", "place", "lot", "said"]) (by kernel_rfl)) (fun _ _ _ _ _ => (pg_name (i := 8) sc_lots_of.nd rfl (by first | exact Or.inl rfl | exact Or.inr rfl))) (fun _ _ _ _ _ => pts_nil) (fun _ _ _ _ _ => (pe_ix (ix_tupK (K := K)) (pv 0) (pv 8) (fun _ _ => rfl)))) pa_nil)) (pa_cons (pv 10) pa_nil))))))))))), ?_⟩
  refine d_asgC (B := L) (ed_dcP0 (K := K) (Pw := fun N i x => ∃ d, ([] : List PyData)[i]? = some d ∧ Da K N x (.tuple [.int (i : Int), d])) (wd_enumL (ds := []) (ed_var rfl h1))) e fun p N1 H2 hp g1 hN1 => ?_
  -- lots = Lots()
  intro x dx hx hdx nex
  refine ⟨H2, x, dx, rfl, hx, hdx, nex, rfl, fun L1 H3 mv lo => ⟨rfl, ?_⟩⟩
  obtain ⟨g2, eL1⟩ := Mv.gr mv g1.sub
  refine d_for0 (K := K) (B := join N1 L1) (P := PD K []) (wd_seqL (ds := []) (ed_var rfl (h2.ex (g1.bas.trans g2.bas)))) g2.sub fun N3 H4 g3 => ?_
  refine d_for0 (K := K) (B := N3) (P := PD K []) (wd_lst (ds := []) (ed_var rfl (h3.ex (g1.bas.trans (g2.bas.trans g3.bas))))) g3.sub fun N4 H5 g4 => ?_
  have lo4 := lo.ex (eL1.trans (g3.bas.trans g4.bas))
  obtain ⟨ddx, ob⟩ : ∃ dx, ∃ h m w, N4 x = some (.ins CL dx (lotF h m w)) := by
    obtain ⟨h, m, w, ma, wa, o⟩ := lo4
    obtain ⟨dx, ob⟩ := o.ob
    exact ⟨dx, h, m, w, ob⟩
  obtain ⟨lh, lm, lw, ob⟩ := ob
  refine d_ret (K := K) (H := N4) (d := .list []) (ed_lc0 (P := PD K []) (wd_lst (ds := []) (ed_meth (ev_var rfl) ob rfl eds_nil fun vs N H6 a b hvs Q q' => ?_))) g4.sub fun v N H6 g hv => q v N H6 (g1.trans (g2.trans (g3.trans (g4.trans g)))) hv
  cases hvs
  exact ⟨N, x, 0, _, rfl, b, lo4.ex a, by decide, fun i hi => absurd hi (Nat.not_lt_zero i), q'⟩
abbrev s_Keeping_file : Stmt := inClass (topS 44) 8
theorem sc_Keeping_file : FnScope ["self", "keys", "sheets", "places", "joins", "key", "sheet", "join", "place"] ["self", "keys"] (defScope s_Keeping_file) := ⟨rfl, rfl, rfl, by decide +kernel, rfl, by decide +kernel, by decide +kernel⟩
theorem ok_Keeping_file (M : MgO mg) (T : TKeep K C) (G_lots_of : Own P w K mg base 3 "lots_of" ["members", "words", "joins"] [] (spLotsOf K)) {f : Addr} {fd : FuncData} (F : Fun K "file" "Keeping.file" s_Keeping_file f fd) : FnOk P w K mg base CX0 4 f fd ["self", "keys"] (spK0 K C 2 fun vs L => ∃ v, vs = [v] ∧ Da K L v (.list [])) := by
  refine F.ok sc_Keeping_file (fun vs H Q E h => spK0_len vs H Q E h) (fun cdv A outer s H1 vs Q E hr h => ?_)
  obtain ⟨L, k, me, ot, wr, b, e, o, ne, hn, hv, hp, q⟩ := h
  obtain ⟨l, s', c, t, cnt, sd, cd, sh, oi, _⟩ := id o
  match vs, hn, hv, hp with
  | [_, _], _, hv, ⟨v1, ev, hv1⟩ =>
  cases hv
  cases ev
  obtain ⟨dx, ob⟩ := oi.ob
  refine ⟨_, (pss_cons (ps_setLc (i := 2) (own := [("key", 5)]) rfl sc_Keeping_file.nd rfl rfl (sw_true rfl rfl rfl (by decide +kernel)) (pi_listK (K := K) (pv 1)) (blkOk_by (N := ["self", "keys", "sheets", "places", "joins", "key", "sheet", "join", "place"]) (sc := defScope s_Keeping_file) (by decide +kernel)) (fun _ _ _ _ _ => (pg_name (i := 5) sc_Keeping_file.nd rfl (by first | exact Or.inl rfl | exact Or.inr rfl))) (fun _ _ _ _ _ => pts_nil) (fun _ _ _ _ _ => (pe_dget (units1 hr) (pe_fldK (K := K) (pv 0) rfl) (pv 5) (fun _ _ => rfl))))
      (pss_cons (ps_set (i := 3) sc_Keeping_file.nd rfl (by first | exact Or.inl rfl | exact Or.inr rfl) (pe_callB (cr_sortD (K := K) (room75 hr)) (by rfl) M.m_sorted boot_sorted (pa_cons (pe_op op_cat (pe_fldK (K := K) (pv 0) rfl) (pe_lc2 (own := [("sheet", 6), ("place", 8)]) (vs1 := [8]) rfl sc_Keeping_file.nd (pi_listK (K := K) (pv 2)) (blkOk_by (N := ["self", "keys", "sheets", "places", "joins", "key", "sheet", "join", "place"]) (sc := defScope s_Keeping_file) (by decide +kernel)) (by decide) (fun _ _ _ _ _ => (pg_name (i := 6) sc_Keeping_file.nd rfl (by first | exact Or.inl rfl | exact Or.inr rfl))) (fun _ _ _ _ _ => pts_nil) (fun _ _ _ _ _ => (pi_listK (K := K) (pe_fldK (K := K) (pv 6) rfl))) (fun _ _ _ _ _ => (pg_name (i := 8) sc_Keeping_file.nd rfl (by first | exact Or.inl rfl | exact Or.inr rfl))) (fun _ _ _ _ _ => pts_nil) (fun _ _ _ _ _ => (pv 8)))) pa_nil)))
      (pss_cons (ps_setLc2 (i := 4) (own := [("sheet", 6), ("join", 7)]) (vs1 := [7]) rfl sc_Keeping_file.nd rfl rfl (sw_true rfl rfl rfl (by decide +kernel)) (pi_listK (K := K) (pv 2)) (blkOk_by (N := ["self", "keys", "sheets", "places", "joins", "key", "sheet", "join", "place"]) (sc := defScope s_Keeping_file) (by decide +kernel)) (by decide) (fun _ _ _ _ _ => (pg_name (i := 6) sc_Keeping_file.nd rfl (by first | exact Or.inl rfl | exact Or.inr rfl))) (fun _ _ _ _ _ => pts_nil) (fun _ _ _ _ _ => (pi_listK (K := K) pe_never)) (fun _ _ _ _ _ => (pg_name (i := 7) sc_Keeping_file.nd rfl (by first | exact Or.inl rfl | exact Or.inr rfl))) (fun _ _ _ _ _ => pts_nil) (fun _ _ _ _ _ => (pv 7)))
      (pss_one (ps_ret (pe_own G_lots_of (hr.mono (by decide)) (pa_cons (pv 3) (pa_cons (pe_lc (own := [("place", 8)]) rfl sc_Keeping_file.nd (pi_listK (K := K) (pv 3)) (blkOk_by (N := ["self", "keys", "sheets", "places", "joins", "key", "sheet", "join", "place"]) (sc := defScope s_Keeping_file) (by decide +kernel)) (fun _ _ _ _ _ => (pg_name (i := 8) sc_Keeping_file.nd rfl (by first | exact Or.inl rfl | exact Or.inr rfl))) (fun _ _ _ _ _ => pts_nil) (fun _ _ _ _ _ => (pe_dget (units1 hr) (pe_fldK (K := K) (pv 0) rfl) (pv 8) (fun _ _ => rfl)))) (pa_cons (pv 4) pa_nil))) pass0)))))), ?_⟩
  refine d_asg (K := K) (H := L) (d := .list []) (ed_lc0 (P := PD K []) (wd_lst (ds := []) (ed_var rfl hv1))) e fun v2 N1 H2 g1 h2 => ?_
  refine d_asg (K := K) (H := N1) (d := .list []) (ed_is (ed_sort (ds := [] ++ []) (ed_cat (ed_of (ev_fld (ev_var rfl) (g1.bas _ _ ob) T.cl T.n6 rfl) (.lst (g1.bas _ _ oi.ld) .nil)) (fun N a => ed_lc20 (P := PD K []) (wd_lst (ds := []) (ed_var rfl (h2.ex a)))) (Nat.zero_le _)) (fun d hd => nomatch hd) (.inr fun d hd => nomatch hd) (Nat.zero_le _) fun d hd => nomatch hd) ?_) g1.sub fun v3 N2 H3 g2 h3 => ?_
  · unfold sortD
    simp
  refine d_asg (K := K) (H := N2) (d := .list []) (ed_lc20 (P := PD K []) (wd_lst (ds := []) (ed_var rfl (h2.ex g2.bas)))) g2.sub fun v4 N3 H4 g3 h4 => ?_
  refine d_ret (K := K) (H := N3) (d := .list []) (ed_callG (ds := [.list [], .list [], .list []]) (eds_cons (ed_var rfl (h3.ex g3.bas)) fun N a => eds_cons (ed_lc0 (P := PD K []) (wd_lst (ds := []) (ed_var rfl (h3.ex (g3.bas.trans a))))) fun N' a' => eds_cons (ed_var rfl (h4.ex (a.trans a'))) fun _ _ => eds_nil) fun vs N H5 a b2 hvs Q q' => ?_) g3.sub fun v N H5 g hv => q v N H5 (g1.trans (g2.trans (g3.trans g))) hv
  cases hvs with
  | cons u1 u2 =>
  cases u2 with
  | cons u2 u3 =>
  cases u3 with
  | cons u3 u4 =>
  cases u4
  exact ⟨N, _, _, _, rfl, b2, u1, u2, u3, q'⟩
end
end Sg
end
section
set_option maxRecDepth 100000
set_option maxHeartbeats 4000000
/-! Sheets and keepings made. -/
namespace Sg
open PySem PySem.Spec PyProof.Rows L2 Evl
def sheetF (v1 v2 v3 v4 : V) : List (Str × V) := [("names", v1), ("descriptions", v2), ("places", v3), ("meant", v4)]
structure TSheet (K : PySem.W.Frag) (C : Addr) : Prop where
  cl : Cls K C
  n1 : NoAttr K C "names"
  n2 : NoAttr K C "descriptions"
  n3 : NoAttr K C "places"
  n4 : NoAttr K C "meant"
/-- a sheet with these places -/
def SheetAt (K : PySem.W.Frag) (C : Addr) (N : Hp) (p : Addr) (pl : List Int) : Prop := ∃ dx v1 v2 v3 v4, N p = some (.ins C dx (sheetF v1 v2 v3 v4)) ∧ Da K N v3 (.tuple (pl.map .int))
theorem SheetAt.ex {K : PySem.W.Frag} {C : Addr} {N N' : Hp} {p : Addr} {pl : List Int} (o : SheetAt K C N p pl) (e : Ex N N') : SheetAt K C N' p pl := by
  obtain ⟨dx, v1, v2, v3, v4, h1, h2⟩ := o
  exact ⟨dx, v1, v2, v3, v4, e _ _ h1, h2.ex e⟩
def spSheetI (C : Addr) : Sp := fun vs H Q _ => ∃ a dx v1 v2 v3 v4, vs = [.ref a, v1, v2, v3, v4] ∧ H a = some (.ins C dx []) ∧ Q .non (upd H a (.ins C dx (sheetF v1 v2 v3 v4)))
def spKeepI (C : Addr) : Sp := fun vs H Q _ => ∃ H0 a dx me ot, vs = [.ref a, .str me, .str ot] ∧ H0 a = none ∧ H0 dx = none ∧ dx ≠ a ∧ H = upd (upd H0 dx (.own a)) a (.ins C dx []) ∧ ∀ L H', Mv noneH H0 L H' → KeepAt C L a me ot 0 0 → Q .non H'
def spNext (K : PySem.W.Frag) (C CS : Addr) : Sp := fun vs H1 Q _ => ∃ L k me ot wr b v1 v2 v3 n, vs = [.ref k, v1, v2, v3] ∧ Ex L H1 ∧ KeepAt C L k me ot wr b ∧ Da K L v2 (.tuple (List.replicate n .none)) ∧ n ≤ 1000 ∧
  ∀ p pp dx u1 u2 u4 H2 (pl : List Int), H1 p = none → H1 pp = none → p ≠ pp → Ex H1 H2 → H2 p = some (.ins CS dx (sheetF u1 u2 (.ref pp) u4)) → H2 pp = some (.tup (pl.map V.int)) → pl.length = n → Q (.ref p) H2
/-- a new tuple -/
def EvTn (K : PySem.W.Frag) (te : TE) (σ : L2.St) (B : Hp) (ds : List PyData) : Prop := ∀ H1, Ex B H1 → ∀ Q : VK, (∀ p xs N H2, H1 p = none → Gr B H1 N H2 → N p = some (.tup xs) → DaAll K N xs ds → Q (.ref p) H2) → te σ H1 Q
theorem et_tupL {K : PySem.W.Frag} {te : TE} {σ : L2.St} {B : Hp} {ds : List PyData} (h : EvD K te σ B (.list ds)) : EvTn K (tCB (rTupOf K) (tCons te tNil)) σ B ds := fun H1 e Q q =>
  h H1 e _ fun v N H2 g hv => by
    cases hv with
    | @lst p xs _ h1 h2 =>
      exact ⟨p, xs, rfl, .inl ⟨sq_of (g.sub _ _ h1), fun l hl => q l xs (upd N l (.tup xs)) (upd H2 l (.tup xs)) (fresh_back g.act hl) (g.trans (.alloc g.sub hl)) upd_same (h2.ex (Ex.new (fresh_back g.sub hl)))⟩⟩
theorem d_asgT {K : PySem.W.Frag} {i : Nat} {te : TE} {tz : TS} {D : Ends} {σ : L2.St} {B H1 : Hp} {ds : List PyData} (h : EvTn K te σ B ds) (a : Ex B H1) (k : ∀ p xs N H2, H1 p = none → Gr B H1 N H2 → N p = some (.tup xs) → DaAll K N xs ds → tz D (σ.set i (some (.ref p))) H2) : tSeq (tAsg te (gName i)) tz D σ H1 := h H1 a _ k
theorem daAll_ints {K : PySem.W.Frag} {N : Hp} : ∀ {ks : List Int} {xs : List V}, DaAll K N xs (ks.map PyData.int) → xs = ks.map V.int
  | [], _, h => by cases h; rfl
  | k :: ks, _, h => by
    cases h with
    | cons h1 h2 =>
      cases h1
      rw [daAll_ints h2]
      rfl
section
variable {P : Program} {w : World} {K : PySem.W.Frag} {mg : Str → Option Value} {base : Heap} {C CS : Addr}
abbrev s_Sheet___init__ : Stmt := inClass (topS 43) 0
theorem sc_Sheet___init__ : FnScope ["self", "names", "descriptions", "places", "meant"] ["self", "names", "descriptions", "places", "meant"] (defScope s_Sheet___init__) := ⟨rfl, rfl, rfl, by decide +kernel, rfl, by decide +kernel, by decide +kernel⟩
theorem ok_Sheet___init__ (T : TSheet K CS) {f : Addr} {fd : FuncData} (F : Fun K "__init__" "Sheet.__init__" s_Sheet___init__ f fd) : FnOk P w K mg base CX0 1 f fd ["self", "names", "descriptions", "places", "meant"] (spSheetI CS) := by
  refine F.ok sc_Sheet___init__ (fun vs H Q E h => ?_) (fun cdv A outer s H1 vs Q E hr h => ?_)
  · obtain ⟨a, dx, v1, v2, v3, v4, rfl, _⟩ := h
    rfl
  obtain ⟨a, dx, v1, v2, v3, v4, rfl, ha, q⟩ := h
  refine ⟨_, (pss_cons (ps_fld (pv 0) (pv 1) rfl)
      (pss_cons (ps_fld (pv 0) (pv 2) rfl)
      (pss_cons (ps_fld (pv 0) (pv 3) rfl)
      (pss_one (ps_fld (pv 0) (pv 4) rfl))))), ?_⟩
  refine ⟨_, rfl, _, rfl, a, CS, dx, [], rfl, ha, T.cl, T.n1, (by show 0 < 1000; decide), ?_⟩
  refine ⟨_, rfl, _, rfl, a, CS, dx, _, rfl, upd_same, T.cl, T.n2, (by show 1 < 1000; decide), ?_⟩
  refine ⟨_, rfl, _, rfl, a, CS, dx, _, rfl, upd_same, T.cl, T.n3, (by show 2 < 1000; decide), ?_⟩
  refine ⟨_, rfl, _, rfl, a, CS, dx, _, rfl, upd_same, T.cl, T.n4, (by show 3 < 1000; decide), ?_⟩
  rw [upd_upd, upd_upd, upd_upd]
  exact q
abbrev s_Keeping___init__ : Stmt := inClass (topS 44) 0
theorem sc_Keeping___init__ : FnScope ["self", "hand", "other"] ["self", "hand", "other"] (defScope s_Keeping___init__) := ⟨rfl, rfl, rfl, by decide +kernel, rfl, by decide +kernel, by decide +kernel⟩
theorem ok_Keeping___init__ (T : TKeep K C) {f : Addr} {fd : FuncData} (F : Fun K "__init__" "Keeping.__init__" s_Keeping___init__ f fd) : FnOk P w K mg base CX0 1 f fd ["self", "hand", "other"] (spKeepI C) := by
  refine F.ok sc_Keeping___init__ (fun vs H Q E h => ?_) (fun cdv A outer s H vs Q E hr h => ?_)
  · obtain ⟨H0, a, dx, me, ot, rfl, _⟩ := h
    rfl
  obtain ⟨H0, a, dx, me, ot, rfl, a0, d0, da, rfl, q⟩ := h
  refine ⟨_, (pss_cons (ps_fld (pv 0) (pv 1) rfl)
      (pss_cons (ps_fld (pv 0) (pv 2) rfl)
      (pss_cons (ps_fld (pv 0) pe_int rfl)
      (pss_cons (ps_fld (pv 0) pe_int rfl)
      (pss_cons (ps_fld (pv 0) pe_int rfl)
      (pss_cons (ps_fld (pv 0) (pe_lst pa_nil) rfl)
      (pss_cons (ps_fld (pv 0) pe_dnewK rfl)
      (pss_cons (ps_fld (pv 0) pe_dnewK rfl)
      (pss_one (ps_fld (pv 0) pe_dnewT rfl)))))))))), ?_⟩
  refine ⟨_, rfl, _, rfl, a, C, dx, [], rfl, upd_same, T.cl, T.n1, (by show 0 < 1000; decide), ?_⟩
  refine ⟨_, rfl, _, rfl, a, C, dx, _, rfl, upd_same, T.cl, T.n2, (by show 1 < 1000; decide), ?_⟩
  refine ⟨_, rfl, a, C, dx, _, rfl, upd_same, T.cl, T.n3, (by show 2 < 1000; decide), ?_⟩
  refine ⟨_, rfl, a, C, dx, _, rfl, upd_same, T.cl, T.n4, (by show 3 < 1000; decide), ?_⟩
  refine ⟨_, rfl, a, C, dx, _, rfl, upd_same, T.cl, T.n5, (by show 4 < 1000; decide), ?_⟩
  rw [upd_upd, upd_upd, upd_upd, upd_upd, upd_upd]
  refine ⟨Nat.zero_le _, fun l hl => ?_⟩
  obtain ⟨la, hl⟩ := upd_none hl
  obtain ⟨lx, l0⟩ := upd_none hl
  refine ⟨_, rfl, a, C, dx, _, rfl, (by rw [upd_ne la.symm]; exact upd_same), T.cl, T.n6, (by show 5 < 1000; decide), ?_⟩
  intro s hs
  obtain ⟨sa, hs⟩ := upd_none hs
  obtain ⟨sl, hs⟩ := upd_none hs
  obtain ⟨_, hs⟩ := upd_none hs
  obtain ⟨sx, s0⟩ := upd_none hs
  refine ⟨_, rfl, a, C, dx, _, rfl, (by rw [upd_ne sa.symm]; exact upd_same), T.cl, T.n7, (by show 6 < 1000; decide), ?_⟩
  intro c hc
  obtain ⟨ca, hc⟩ := upd_none hc
  obtain ⟨cs, hc⟩ := upd_none hc
  obtain ⟨_, hc⟩ := upd_none hc
  obtain ⟨cl, hc⟩ := upd_none hc
  obtain ⟨_, hc⟩ := upd_none hc
  obtain ⟨cx, c0⟩ := upd_none hc
  refine ⟨_, rfl, a, C, dx, _, rfl, (by rw [upd_ne ca.symm]; exact upd_same), T.cl, T.n8, (by show 7 < 1000; decide), ?_⟩
  intro t ht
  obtain ⟨ta, ht⟩ := upd_none ht
  obtain ⟨tc, ht⟩ := upd_none ht
  obtain ⟨_, ht⟩ := upd_none ht
  obtain ⟨ts, ht⟩ := upd_none ht
  obtain ⟨_, ht⟩ := upd_none ht
  obtain ⟨tl, ht⟩ := upd_none ht
  obtain ⟨_, ht⟩ := upd_none ht
  obtain ⟨tx, t0⟩ := upd_none ht
  refine ⟨_, rfl, a, C, dx, _, rfl, (by rw [upd_ne ta.symm]; exact upd_same), T.cl, T.n9, (by show 8 < 1000; decide), ?_⟩
  refine q (upd (upd (upd (upd (upd noneH a (.ins C dx (keepF me ot 0 0 l s c t))) l (.lst [])) s (.dK [])) c (.dK [])) t (.dT [])) _ ⟨?_, ?_⟩ ⟨l, s, c, t, 0, [], [], [], ⟨⟨dx, ?_⟩, ?_, ?_, ?_, ?_, cs.symm, fun p hp => nomatch hp⟩, Nat.le_refl _, Nat.le_refl _, Nat.le_refl _⟩
  · intro b o hb
    by_cases b1 : b = a
    · subst b1
      simp only [upd, la.symm, sa.symm, ca.symm, ta.symm, if_false, if_true] at hb ⊢
      exact hb
    by_cases b2 : b = t
    · subst b2
      simp only [upd, b1, if_false, if_true] at hb ⊢
      exact hb
    by_cases b3 : b = c
    · subst b3
      simp only [upd, b1, b2, if_false, if_true] at hb ⊢
      exact hb
    by_cases b4 : b = s
    · subst b4
      simp only [upd, b1, b2, b3, if_false, if_true] at hb ⊢
      exact hb
    by_cases b5 : b = l
    · subst b5
      simp only [upd, b1, b2, b3, b4, if_false, if_true] at hb ⊢
      exact hb
    simp only [upd, b1, b2, b3, b4, b5, if_false, noneH] at hb
    cases hb
  · intro b _ hb
    have n1 : b ≠ a := fun z => hb (z ▸ a0)
    have n2 : b ≠ dx := fun z => hb (z ▸ d0)
    have n3 : b ≠ l := fun z => hb (z ▸ l0)
    have n4 : b ≠ s := fun z => hb (z ▸ s0)
    have n5 : b ≠ c := fun z => hb (z ▸ c0)
    have n6 : b ≠ t := fun z => hb (z ▸ t0)
    constructor
    · simp only [upd, n1, n2, n3, n4, n5, n6, if_false]
    · simp only [upd, n1, n2, n3, n4, n5, n6, if_false, noneH]
  · simp only [upd, ta.symm, ca.symm, sa.symm, la.symm, if_false, if_true]
  · simp only [upd, tl.symm, cl.symm, sl.symm, if_false, if_true]
  · simp only [upd, ts.symm, cs.symm, if_false, if_true]
  · simp only [upd, tc.symm, if_false, if_true]
  · simp only [upd, if_true]
end
end Sg
end
section
set_option maxRecDepth 100000
set_option maxHeartbeats 4000000
/-! zip of a tuple and a list, turn by turn. -/
namespace Sg
open PySem PySem.Spec PyProof.Rows L2
section
variable {prog : Program} {w : World} {A : Around} {E : Value → Shared → Prop} {s : Shared} {z TI TO i1 i2 l1 l2 : Addr} {k : Nat} {xs ys : Array Value} {a b : Value}
theorem zm_item {x y : Value} {Q : Value → Shared → Prop} (ap : ZipApart z TI TO i1 i2 l1 l2) (zi : IsZip s.heap z TI TO .none) (pI : IsPair s.heap TI (.ref i1) (.ref i2)) (pO : IsPair s.heap TO a b)
    (u1 : s.heap.IsTupleIter i1 l1 k) (u2 : s.heap.IsListIter i2 l2 k) (t1 : s.heap.IsTuple l1 xs) (t2 : s.heap.IsList l2 ys) (ex : xs[k]? = some x) (ey : ys[k]? = some y)
    (go : ∀ g, IsZip g z TI TO (rawInt s.heap.objs.size) → IsPair g TO x y → g.IsTupleIter i1 l1 (k + 1) → g.IsListIter i2 l2 (k + 1) → IsPair g s.heap.objs.size x y → g.objs.size = s.heap.objs.size + 1 →
      (∀ c o, c ≠ z → c ≠ TO → c ≠ i1 → c ≠ i2 → s.heap.get? c = some o → g.get? c = some o) → Q (.ref s.heap.objs.size) { s with heap := g }) :
    wpAny (model prog w) A (Builtin.«zip.__next__» ⟨[.ref z], []⟩) (fun fin s' => ∃ v, fin = .done (.ret v) ∧ Q v s') E s := by
  show wpAny _ _ (field (.ref z) 2 >>= _) _ E s
  refine wpAny_bind (wpAny_field zi rfl (x := .bool false) rfl ?_)
  show wpAny _ _ (field (.ref z) 3 >>= _) _ E s
  refine wpAny_bind (wpAny_field zi rfl (x := .ref TI) rfl (wpAny_bind (wpAny_seqItems pI rfl ?_)))
  show wpAny _ _ (Builtin.SmallTypes.ownedTupleIsFree (.ref z) >>= _) _ E s
  unfold Builtin.SmallTypes.ownedTupleIsFree
  refine wpAny_bind (wpAny_bind (wpAny_field zi rfl (x := .none) rfl (wpAny_pure ?_)))
  simp only [if_true]
  refine wpAny_bind (wpAny_rule (wpAny_bind (wpAny_field zi rfl (x := .ref TO) rfl (wpAny_bind (wpAny_setField_rec zi (by simp) fun g1 z1 b1 => ?_)))))
  replace z1 : IsZip g1 z TI TO .ellipsis := z1
  have x1 := b1.extBut
  refine wpAny_bind ?_
  simp only [List.zipIdx_cons, List.zipIdx_nil, List.forIn_cons, List.forIn_nil]
  refine wpAny_bind (wpAny_bind (wpAny_onRaise ?_))
  show wpAny _ _ (Builtin.SmallTypes.nextOf (.ref i1) >>= _) _ _ _
  refine wpAny_bind (RZ.nextOf_tuple_item (u1.extBut x1 ap.i1z) (t1.extBut x1 ap.l1z) ex fun g2 v1 b2 => wpAny_pure ?_)
  have x2 := b2.extBut
  have pO2 : IsPair g2 TO a b := x2 _ _ ap.TOi1 (x1 _ _ ap.TOz pO)
  refine wpAny_bind (wpAny_seqItems pO2 rfl (wpAny_bind (wpAny_updateSeq_pair pO2 fun g3 pO3 b3 => ?_)))
  replace pO3 : IsPair g3 TO x b := pO3
  have x3 := b3.extBut
  refine wpAny_bind (wpAny_letGo (wpAny_pure (wpAny_bind (wpAny_bind (wpAny_onRaise ?_)))))
  show wpAny _ _ (Builtin.SmallTypes.nextOf (.ref i2) >>= _) _ _ _
  refine wpAny_bind (wpAny_nextOf_list_item (((u2.extBut x1 ap.i2z).extBut x2 ap.i12.symm).extBut x3 ap.TOi2.symm) (((t2.extBut x1 ap.l2z).extBut x2 ap.l2i1).extBut x3 ap.l2TO) ey fun g4 v2 b4 => wpAny_pure ?_)
  have x4 := b4.extBut
  have pO4 : IsPair g4 TO x b := x4 _ _ ap.TOi2 pO3
  refine wpAny_bind (wpAny_seqItems pO4 rfl (wpAny_bind (wpAny_updateSeq_pair pO4 fun g5 pO5 b5 => ?_)))
  replace pO5 : IsPair g5 TO x y := pO5
  have x5 := b5.extBut
  refine wpAny_bind (wpAny_letGo (wpAny_pure (wpAny_pure (wpAny_bind (wpAny_seqItems pO5 rfl (wpAny_bind (wpAny_newTuple ?_)))))))
  have size5 : g5.objs.size = s.heap.objs.size := by rw [b5.1, b4.1, b3.1, b2.1, b1.1]
  have z5 : IsZip g5 z TI TO .ellipsis := x5 _ _ ap.TOz.symm (x4 _ _ ap.i2z.symm (x3 _ _ ap.TOz.symm (x2 _ _ ap.i1z.symm z1)))
  have v1' : g5.IsTupleIter i1 l1 (k + 1) := ((v1.extBut x3 ap.TOi1.symm).extBut x4 ap.i12).extBut x5 ap.TOi1.symm
  have v2' : g5.IsListIter i2 l2 (k + 1) := v2.extBut x5 ap.TOi2.symm
  have lz : z < g5.objs.size := Heap.lt_size z5
  show wpAny _ _ (Builtin.SmallTypes.ownedTupleHandOut (.ref z) (.ref g5.objs.size) >>= _) _ E _
  unfold Builtin.SmallTypes.ownedTupleHandOut
  have z6 : IsZip (g5.push { cls := .type "tuple", data := .seq #[x, y] }) z TI TO .ellipsis := Heap.get?_push_of_some _ z5
  refine wpAny_bind (wpAny_bind (wpAny_setField_rec z6 (by simp) fun g7 z7 b7 => ?_))
  replace z7 : IsZip g7 z TI TO (rawInt g5.objs.size) := z7
  refine wpAny_setField_rec z7 (by simp) fun g8 z8 b8 => ?_
  replace z8 : IsZip g8 z TI TO (rawInt g5.objs.size) := z8
  have over : ∀ c o, c ≠ z → g5.get? c = some o → g8.get? c = some o := fun c o n e => b8.extBut _ _ n (b7.extBut _ _ n (Heap.get?_push_of_some _ e))
  have pT : IsPair g8 g5.objs.size x y := b8.extBut _ _ (Nat.ne_of_gt lz) (b7.extBut _ _ (Nat.ne_of_gt lz) (Heap.get?_push_size _ rfl))
  have size8 : g8.objs.size = g5.objs.size + 1 := by rw [b8.1, b7.1, Heap.size_push]
  rw [size5] at z8 pT size8
  refine wpAny_pure ⟨.ref g5.objs.size, rfl, ?_⟩
  rw [size5]
  exact go g8 z8 (over _ _ ap.TOz pO5) (v1'.at fun o e => over _ o ap.i1z e) (v2'.at fun o e => over _ o ap.i2z e) pT size8 fun c o n1 n2 n3 n4 e => over c o n1 (x5 _ _ n2 (x4 _ _ n4 (x3 _ _ n2 (x2 _ _ n3 (x1 _ _ n1 e)))))
theorem zm_stop {Q : Fin → Shared → Prop} (hh : A.handled = none) (ap : ZipApart z TI TO i1 i2 l1 l2) (zi : IsZip s.heap z TI TO .none) (pI : IsPair s.heap TI (.ref i1) (.ref i2)) (pO : IsPair s.heap TO a b)
    (u1 : s.heap.IsTupleIter i1 l1 k) (u2 : s.heap.IsListIter i2 l2 k) (t1 : s.heap.IsTuple l1 xs) (t2 : s.heap.IsList l2 ys) (no : xs[k]? = none ∨ ys[k]? = none)
    (go : ∀ g e, (∀ c o, c ≠ z → c ≠ TO → c ≠ i1 → c ≠ i2 → s.heap.get? c = some o → g.get? c = some o) → (∃ o, g.get? e = some o ∧ o.cls = .type "StopIteration") → E (.ref e) { s with heap := g }) :
    wpAny (model prog w) A (Builtin.«zip.__next__» ⟨[.ref z], []⟩) Q E s := by
  show wpAny _ _ (field (.ref z) 2 >>= _) _ E s
  refine wpAny_bind (wpAny_field zi rfl (x := .bool false) rfl ?_)
  show wpAny _ _ (field (.ref z) 3 >>= _) _ E s
  refine wpAny_bind (wpAny_field zi rfl (x := .ref TI) rfl (wpAny_bind (wpAny_seqItems pI rfl ?_)))
  show wpAny _ _ (Builtin.SmallTypes.ownedTupleIsFree (.ref z) >>= _) _ E s
  unfold Builtin.SmallTypes.ownedTupleIsFree
  refine wpAny_bind (wpAny_bind (wpAny_field zi rfl (x := .none) rfl (wpAny_pure ?_)))
  simp only [if_true]
  refine wpAny_bind (wpAny_rule (wpAny_bind (wpAny_field zi rfl (x := .ref TO) rfl (wpAny_bind (wpAny_setField_rec zi (by simp) fun g1 z1 b1 => ?_)))))
  replace z1 : IsZip g1 z TI TO .ellipsis := z1
  have x1 := b1.extBut
  refine wpAny_bind ?_
  simp only [List.zipIdx_cons, List.zipIdx_nil, List.forIn_cons, List.forIn_nil]
  refine wpAny_bind (wpAny_bind (wpAny_onRaise ?_))
  show wpAny _ _ (Builtin.SmallTypes.nextOf (.ref i1) >>= _) _ _ _
  -- what a stop leaves behind: the zip's own mark
  have mark : ∀ {g : Heap} {e : Addr} {Q9 : Unit → Shared → Prop} {E9 : Value → Shared → Prop}, IsZip g z TI TO .ellipsis → (∃ o, g.get? e = some o ∧ o.cls = .type "StopIteration") → (∀ g', Heap.ExtBut z g g' → (∃ o, g'.get? e = some o ∧ o.cls = .type "StopIteration") → Q9 () { s with heap := g' }) → wpAny (model prog w) A (setField (.ref z) 0 .none) Q9 E9 { s with heap := g } := fun {g e Q9 E9} zg ⟨oe, he, hc⟩ k9 => by
    have n : e ≠ z := fun q => by
      rw [q, zg] at he
      cases he
      simp at hc
    exact wpAny_setField_rec zg (by simp) fun g' _ b' => k9 g' b'.extBut ⟨oe, b'.extBut _ _ n he, hc⟩
  cases ex : xs[k]? with
  | none =>
    refine wpAny_bind (RZ.nextOf_tuple_end hh (u1.extBut x1 ap.i1z) (t1.extBut x1 ap.l1z) ex fun g2 e x2 st => ?_)
    have z2 : IsZip g2 z TI TO .ellipsis := x2 _ _ ap.i1z.symm z1
    exact mark z2 st fun g3 x3 st3 => go g3 e (fun c o n1 _ n3 _ q => x3 _ _ n1 (x2 _ _ n3 (x1 _ _ n1 q))) st3
  | some x =>
    have ey : ys[k]? = none := no.resolve_left (by rw [ex]; simp)
    refine wpAny_bind (RZ.nextOf_tuple_item (u1.extBut x1 ap.i1z) (t1.extBut x1 ap.l1z) ex fun g2 v1 b2 => wpAny_pure ?_)
    have x2 := b2.extBut
    have pO2 : IsPair g2 TO a b := x2 _ _ ap.TOi1 (x1 _ _ ap.TOz pO)
    refine wpAny_bind (wpAny_seqItems pO2 rfl (wpAny_bind (wpAny_updateSeq_pair pO2 fun g3 pO3 b3 => ?_)))
    have x3 := b3.extBut
    refine wpAny_bind (wpAny_letGo (wpAny_pure (wpAny_bind (wpAny_bind (wpAny_onRaise ?_)))))
    show wpAny _ _ (Builtin.SmallTypes.nextOf (.ref i2) >>= _) _ _ _
    refine wpAny_bind (wpAny_nextOf_list_end hh (((u2.extBut x1 ap.i2z).extBut x2 ap.i12.symm).extBut x3 ap.TOi2.symm) (((t2.extBut x1 ap.l2z).extBut x2 ap.l2i1).extBut x3 ap.l2TO) ey fun g4 e x4 st => ?_)
    have z4 : IsZip g4 z TI TO .ellipsis := x4 _ _ ap.i2z.symm (x3 _ _ ap.TOz.symm (x2 _ _ ap.i1z.symm z1))
    exact mark z4 st fun g5 x5 st5 => go g5 e (fun c o n1 n2 n3 n4 q => x5 _ _ n1 (x4 _ _ n4 (x3 _ _ n2 (x2 _ _ n3 (x1 _ _ n1 q))))) st5
theorem zm_next {x y : Value} {Q : Option Value → Shared → Prop} (ap : ZipApart z TI TO i1 i2 l1 l2) (zi : IsZip s.heap z TI TO .none) (pI : IsPair s.heap TI (.ref i1) (.ref i2)) (pO : IsPair s.heap TO a b)
    (u1 : s.heap.IsTupleIter i1 l1 k) (u2 : s.heap.IsListIter i2 l2 k) (t1 : s.heap.IsTuple l1 xs) (t2 : s.heap.IsList l2 ys) (ex : xs[k]? = some x) (ey : ys[k]? = some y)
    (go : ∀ g, IsZip g z TI TO (rawInt s.heap.objs.size) → IsPair g TO x y → g.IsTupleIter i1 l1 (k + 1) → g.IsListIter i2 l2 (k + 1) → IsPair g s.heap.objs.size x y → g.objs.size = s.heap.objs.size + 1 →
      (∀ c o, c ≠ z → c ≠ TO → c ≠ i1 → c ≠ i2 → s.heap.get? c = some o → g.get? c = some o) → Q (some (.ref s.heap.objs.size)) { s with heap := g }) : wpAny (model prog w) A (pyNext (.ref z)) Q E s := by
  have ty : s.TypeIs (.ref z) "zip" := ⟨_, zi, rfl⟩
  unfold pyNext
  refine wpAny_bind (wpAny_attempt (wpAny_callSpecial?_slot (name := Str.ofString "__next__") ty F.slot_zip_next (wpAny_call_entry F.slot_zip_next ty F.entry_zip_next ?_ (F.args_zip_next_1 _))))
  exact zm_item ap zi pI pO u1 u2 t1 t2 ex ey fun g c1 c2 c3 c4 c5 c6 c7 => wpAny_pure (go g c1 c2 c3 c4 c5 c6 c7)
theorem zm_end {Q : Option Value → Shared → Prop} (hh : A.handled = none) (ap : ZipApart z TI TO i1 i2 l1 l2) (zi : IsZip s.heap z TI TO .none) (pI : IsPair s.heap TI (.ref i1) (.ref i2)) (pO : IsPair s.heap TO a b)
    (u1 : s.heap.IsTupleIter i1 l1 k) (u2 : s.heap.IsListIter i2 l2 k) (t1 : s.heap.IsTuple l1 xs) (t2 : s.heap.IsList l2 ys) (no : xs[k]? = none ∨ ys[k]? = none)
    (go : ∀ g, (∀ c o, c ≠ z → c ≠ TO → c ≠ i1 → c ≠ i2 → s.heap.get? c = some o → g.get? c = some o) → Q none { s with heap := g }) : wpAny (model prog w) A (pyNext (.ref z)) Q E s := by
  have ty : s.TypeIs (.ref z) "zip" := ⟨_, zi, rfl⟩
  unfold pyNext
  refine wpAny_bind (wpAny_attempt (wpAny_callSpecial?_slot (name := Str.ofString "__next__") ty F.slot_zip_next (wpAny_call_entry F.slot_zip_next ty F.entry_zip_next ?_ (F.args_zip_next_1 _))))
  refine zm_stop hh ap zi pI pO u1 u2 t1 t2 no fun g e up ⟨o, ho, hc⟩ => ?_
  exact wpAny_bind (wpAny_isInstance (T := "StopIteration") (b := true) ⟨o, ho, hc⟩ isSubtype_stop (wpAny_pure (go g up)))
end
end Sg
end
section
set_option maxRecDepth 100000
set_option maxHeartbeats 4000000
/-! zip of a tuple and a list: the call, and the walk. -/
namespace Sg
open PySem PySem.Spec PyProof.Rows L2
/-- the heap behind zip(tuple at a, list at b): its two iterators, the two pairs that it owns, itself -/
def zmHeap (h : Heap) (a b : Addr) : Heap :=
  ((((h.push { cls := .type "tuple_iterator", data := .fields #[.ref a, rawInt 0] }).push { cls := .type "list_iterator", data := .fields #[.ref b, rawInt 0] }).push { cls := .type "tuple", data := .seq #[.ref h.objs.size, .ref (h.objs.size + 1)] }).push { cls := .type "tuple", data := .seq #[.none, .none] }).push { cls := .type "zip", data := .fields #[.none, .bool false, .bool false, .ref (h.objs.size + 2), .ref (h.objs.size + 3)] }
theorem zm_made (a b : Addr) (xs ys : Array Value) :
    Meets (Builtin.«zip.__new__» ⟨[.type "zip", .ref a, .ref b], []⟩) fun _ R s => s.heap.IsTuple a xs ∧ s.heap.IsList b ys ∧ R (.ok (.ret (.ref (s.heap.objs.size + 4)))) { s with heap := zmHeap s.heap a b } :=
  .of_wp fun prog w A R s ⟨t1, t2, go⟩ => by
    cases s with
    | mk hp g d tk os =>
    have sub := sub_zip
    have it1 : Heap.IsTuple hp a xs := t1
    have it2 : Heap.IsList (hp.push { cls := .type "tuple_iterator", data := .fields #[.ref a, .int 0 0] }) b ys := t2.push _
    wp_walk using wpAny_pyIter_tuple (s := ⟨hp, g, d, tk, os⟩) it1, wpAny_pyIter_list (s := ⟨hp.push { cls := .type "tuple_iterator", data := .fields #[.ref a, .int 0 0] }, g, d, tk, os⟩) it2
    exact ⟨_, rfl, by
      simp only [Heap.size_push]
      exact go⟩
section
variable {prog : Program} {w : World} {A : Around} {E : Value → Shared → Prop} {s : Shared}
theorem zm_call {a b : Addr} {xs ys : Array Value} {Q : Value → Shared → Prop} (t1 : s.heap.IsTuple a xs) (t2 : s.heap.IsList b ys)
    (go : ∀ g, IsZip g (s.heap.objs.size + 4) (s.heap.objs.size + 2) (s.heap.objs.size + 3) .none → IsPair g (s.heap.objs.size + 2) (.ref s.heap.objs.size) (.ref (s.heap.objs.size + 1)) → IsPair g (s.heap.objs.size + 3) .none .none →
      g.IsTupleIter s.heap.objs.size a 0 → g.IsListIter (s.heap.objs.size + 1) b 0 → (∀ c o, s.heap.get? c = some o → g.get? c = some o) → Q (.ref (s.heap.objs.size + 4)) { s with heap := g }) :
    wpAny (model prog w) A (call (.type "zip") [.ref a, .ref b]) Q E s := by
  refine callType_new F.called_zip (by decide) (F.typeCall_zip_2 _ _) (F.newCall_zip_2 _ _) (fun o => F.args_object_init_3 o _ _) F.entry_zip_new (zm_made a b xs ys) ⟨t1, t2, ?_⟩
  have at_ : ∀ (g : Heap) (o : Obj) (n : Nat), g.objs.size = n → o.isFreed = false → (g.push o).get? n = some o := fun g o n e f => by
    subst e
    exact Heap.get?_push_size _ f
  have up : ∀ (g : Heap) (o p : Obj) (n : Nat), g.get? n = some p → (g.push o).get? n = some p := fun g o p n e => Heap.get?_push_of_some _ e
  have o5 : (zmHeap s.heap a b).get? (s.heap.objs.size + 4) = some { cls := .type "zip", data := .fields #[.none, .bool false, .bool false, .ref (s.heap.objs.size + 2), .ref (s.heap.objs.size + 3)] } := at_ _ _ _ (by simp [Heap.size_push]) rfl
  have o4 : (zmHeap s.heap a b).get? (s.heap.objs.size + 3) = some { cls := .type "tuple", data := .seq #[.none, .none] } := up _ _ _ _ (at_ _ _ _ (by simp [Heap.size_push]) rfl)
  have o3 : (zmHeap s.heap a b).get? (s.heap.objs.size + 2) = some { cls := .type "tuple", data := .seq #[.ref s.heap.objs.size, .ref (s.heap.objs.size + 1)] } := up _ _ _ _ (up _ _ _ _ (at_ _ _ _ (by simp [Heap.size_push]) rfl))
  have o2 : (zmHeap s.heap a b).get? (s.heap.objs.size + 1) = some { cls := .type "list_iterator", data := .fields #[.ref b, rawInt 0] } := up _ _ _ _ (up _ _ _ _ (up _ _ _ _ (at_ _ _ _ (by simp [Heap.size_push]) rfl)))
  have o1 : (zmHeap s.heap a b).get? s.heap.objs.size = some { cls := .type "tuple_iterator", data := .fields #[.ref a, rawInt 0] } := up _ _ _ _ (up _ _ _ _ (up _ _ _ _ (up _ _ _ _ (at_ _ _ _ rfl rfl))))
  exact ⟨⟨_, o5, rfl⟩, go _ o5 o3 o4 ⟨_, o1, rfl, rfl⟩ ⟨_, o2, rfl, rfl⟩ fun c o e => up _ _ _ _ (up _ _ _ _ (up _ _ _ _ (up _ _ _ _ (up _ _ _ _ e))))⟩
end
end Sg
end
section
set_option maxRecDepth 100000
set_option maxHeartbeats 4000000
/-! zip(tuple, list). -/
namespace Sg
open PySem PySem.Spec PyProof.Rows L2 Evl
/-- the tuple at a and the list at b as they stand at each turn, their items in new pairs -/
def ItzM (K : PySem.W.Frag) (a b : Addr) : It where
  go := fun i H => ∃ (xs ys : List V) (x y : V), SqT K H a xs ∧ SqL K H b ys ∧ xs[i]? = some x ∧ ys[i]? = some y
  yld := fun i H v H' => ∃ T x y, v = .ref T ∧ H T = none ∧ H' = upd H T (.tup [x, y]) ∧ (∀ xs, SqT K H a xs → xs[i]? = some x) ∧ ∀ ys, SqL K H b ys → ys[i]? = some y
  stop := fun i H => ∃ xs ys : List V, SqT K H a xs ∧ SqL K H b ys ∧ (xs.length ≤ i ∨ ys.length ≤ i)
def iZipM (K : PySem.W.Frag) (ta : TA) : TI := fun σ H R => ta σ H fun vs H1 => ∃ a b xs ys, vs = [.ref a, .ref b] ∧ SqT K H1 a xs ∧ SqL K H1 b ys ∧ R (ItzM K a b) H1
theorem zm_five {a b c d e x : Nat} (h : x ∈ [a, b, c, d, e]) : x = a ∨ x = b ∨ x = c ∨ x = d ∨ x = e := by simpa using h
theorem zm_turn {P : Program} {w : World} {K : PySem.W.Frag} {elts : List Expr} {kk : Nat} {tpos : Pos} {a b z TI TO i1 i2 : Addr} (ap : ZipApart z TI TO i1 i2 a b) :
    Turn P w K (.Tuple elts kk tpos) (ItzM K a b) [z, TI, TO, i1, i2] z fun i h => IsZip h z TI TO .none ∧ IsPair h TI (.ref i1) (.ref i2) ∧ (∃ x y, IsPair h TO x y) ∧ h.IsTupleIter i1 a i ∧ h.IsListIter i2 b i where
  mem := .head _
  obj := fun i h ⟨q1, q2, ⟨x, y, q3⟩, ⟨o1, e1, _, d1⟩, ⟨o2, e2, _, d2⟩⟩ c hc => by
    rcases zm_five hc with q | q | q | q | q <;> subst q
    · exact ⟨_, q1, fun v q => by cases q⟩
    · exact ⟨_, q2, fun v q => by cases q⟩
    · exact ⟨_, q3, fun v q => by cases q⟩
    · exact ⟨o1, e1, fun v q => by rw [d1] at q; cases q⟩
    · exact ⟨o2, e2, fun v q => by rw [d2] at q; cases q⟩
  keep := fun i h h' ⟨q1, q2, ⟨x, y, q3⟩, q4, q5⟩ k =>
    ⟨k _ (by simp) _ q1, k _ (by simp) _ q2, ⟨x, y, k _ (by simp) _ q3⟩, q4.at fun o q => k _ (by simp) o q, q5.at fun o q => k _ (by simp) o q⟩
  item := by
    intro X hP hw hK hc i pins s σ H E I hf st hg
    subst hP hw hK
    obtain ⟨zi, pI, ⟨x0, y0, pO⟩, u1, u2⟩ := st
    obtain ⟨xs, ys, x, y, sx, sy, ex, ey⟩ := hg
    obtain ⟨us, ru, pu, _⟩ := I.tuple sx
    obtain ⟨ws, rw', pw, _⟩ := I.list sy
    obtain ⟨u, eu, r1⟩ := ru.get ex
    obtain ⟨v, ev, r2⟩ := rw'.get ey
    have lz : z < s.heap.objs.size := Heap.lt_size zi
    refine zm_next ap zi pI pO u1 u2 (show s.heap.IsTuple a us.toArray from pu) pw.isList (x := u) (y := v) (by simpa using eu) (by simpa using ev) fun g z1 pO1 v1 v2 pT sz up => ⟨_, rfl, wpAny_letOwnedTupleGo_zip (s := { s with heap := g }) z1 fun g2 z2 sb => ?_⟩
    have pT2 : g2.get? s.heap.objs.size = some { cls := .type "tuple", data := .seq #[u, v] } := (sb.2 _ (Nat.ne_of_gt lz)).trans pT
    have fresh : ObjOk X.prog X.w (upd H s.heap.objs.size (.tup [x, y])) g2 s.heap.objs.size (.tup [x, y]) := ⟨(by show 2 ≤ sizeLine; decide), [u, v], .cons r1 (.cons r2 .nil), _, pT2, rfl, _, rfl⟩
    have apart : ∀ {c : Addr}, c ∉ [z, TI, TO, i1, i2] → c ≠ z ∧ c ≠ TI ∧ c ≠ TO ∧ c ≠ i1 ∧ c ≠ i2 := fun {c} hb => by simpa using hb
    have I1 : Inv X pins σ (upd H s.heap.objs.size (.tup [x, y])) { s with heap := g2 } := I.turnedNew (t' := s.toks) (ch := [z, TI, TO, i1, i2]) (fun c o hb q => (sb.2 c (apart hb).1).trans (up c o (apart hb).1 (apart hb).2.2.1 (apart hb).2.2.2.1 (apart hb).2.2.2.2 q)) hf (Nat.le_refl _) fresh
    refine ⟨.ref s.heap.objs.size, _, I1, rfl, ⟨_, x, y, rfl, I.hok.fresh (Nat.le_refl _), rfl, fun l hl => ?_, fun l hl => ?_⟩, ⟨z2, ?_, ⟨u, v, ?_⟩, ?_, ?_⟩, fun c hcm => ?_⟩
    · rw [I.tuple_inj hl sx]; exact ex
    · rw [I.list_inj hl sy]; exact ey
    · exact (sb.2 _ ap.TIz).trans (up _ _ ap.TIz ap.TITO ap.TIi1 ap.TIi2 pI)
    · exact (sb.2 _ ap.TOz).trans pO1
    · exact v1.at fun o q => (sb.2 _ ap.i1z).trans q
    · exact v2.at fun o q => (sb.2 _ ap.i2z).trans q
    · have lt : c < s.heap.objs.size := by
        obtain ⟨_, a1, _⟩ := id u1
        obtain ⟨_, a2, _⟩ := id u2
        rcases zm_five hcm with q | q | q | q | q <;> subst q
        · exact lz
        · exact Heap.lt_size pI
        · exact Heap.lt_size pO
        · exact Heap.lt_size a1
        · exact Heap.lt_size a2
      rw [upd_ne (Nat.ne_of_lt lt)]
      exact (hf c hcm).1
  done := by
    intro X hP hw hK hc i pins s σ H E I hf st hg
    subst hP hw hK
    obtain ⟨zi, pI, ⟨x0, y0, pO⟩, u1, u2⟩ := st
    obtain ⟨xs, ys, sx, sy, over⟩ := hg
    obtain ⟨us, ru, pu, _⟩ := I.tuple sx
    obtain ⟨ws, rw', pw, _⟩ := I.list sy
    have l1 := ru.length
    have l2 := rw'.length
    have no : us.toArray[i]? = none ∨ ws.toArray[i]? = none := over.imp (fun q => by simp; omega) fun q => by simp; omega
    have apart : ∀ {c : Addr}, c ∉ [z, TI, TO, i1, i2] → c ≠ z ∧ c ≠ TI ∧ c ≠ TO ∧ c ≠ i1 ∧ c ≠ i2 := fun {c} hb => by simpa using hb
    exact zm_end (I.ok.hd hc) ap zi pI pO u1 u2 (show s.heap.IsTuple a us.toArray from pu) pw.isList no fun g up => ⟨rfl, I.turnedL (t' := s.toks) (ch := [z, TI, TO, i1, i2]) (fun c o hb q => up c o (apart hb).1 (apart hb).2.2.1 (apart hb).2.2.2.1 (apart hb).2.2.2.2 q) hf⟩
  self := fun A i s Q E st h => wpAny_pyIter_zip st.1 h
theorem pi_zipM {X : Cx} {K : PySem.W.Frag} {e e2 : Expr} {ta : TA} {p pos tpos : Pos} {elts : List Expr} {kk : Nat} (hg : Gl X "zip") (hm : X.mg "zip" = none) (ha : PA X [e, e2] ta) (hK : X.K = K := by rfl)
    (hs : starEach [e, e2] X.env = (false, eval e X.env) :: starEach [e2] X.env := by rfl) (hpl : (backTo pos (starEach [e2] X.env)).any (·.1) = false := by rfl) :
    PI X (.Tuple elts kk tpos) (.Call (.Name "zip" p) [e, e2] [] pos) (iZipM K ta) := by
  subst hK
  refine ⟨fun pins s σ H R I h => Call_ (ld_blt I hg hm PyProof.Rows.boot_zip (PyProof.Rows.callWith_type1 (thn (ha.run pos pins s σ H _ I h) fun us s1 ⟨vs, H1, I1, r1, a, b, xs, ys, ev, sx, sy, q⟩ => ?_) hs hpl))⟩
  subst ev
  cases r1 with
  | cons ra t =>
  cases t with
  | cons rb t =>
  cases t
  cases ra
  cases rb
  generalize en : s1.heap.objs.size = n
  have clear : ∀ c, c ∈ [n + 4, n + 2, n + 3, n, n + 1] → FpOk X pins H1 c := fun c hc => by
    have le : s1.heap.objs.size ≤ c := by
      rw [en]
      rcases zm_five hc with q | q | q | q | q <;> rw [q] <;> omega
    exact I1.fpOk le (I1.hok.fresh le)
  obtain ⟨its, _, p1, _⟩ := I1.tuple sx
  obtain ⟨its2, _, p2, _⟩ := I1.list sy
  have la : a < s1.heap.objs.size := by
    obtain ⟨o, ho, _⟩ := id p1
    exact Heap.lt_size ho
  refine zm_call (show s1.heap.IsTuple a its.toArray from p1) p2.isList fun g z1 pI pO v1 v2 up => wpAny_pyIter_zip z1 ?_
  have I2 : Inv X pins σ H1 { s1 with heap := g } := I1.kept (t' := s1.toks) up
  have ap := PySem.W.ktu_apart s1.heap.objs.size a b la p2.lt
  rw [en] at z1 pI pO v1 v2 ap ⊢
  exact ⟨n + 4, [n + 4, n + 2, n + 3, n, n + 1], _, _, H1, rfl, I2, zm_turn ap, ⟨z1, pI, ⟨_, _, pO⟩, v1, v2⟩, clear, q⟩
theorem wd_zipM {K : PySem.W.Frag} {σ : L2.St} {B : Hp} {ta tb : TE} {ds es : List PyData} (h : EvD K ta σ B (.tuple ds)) (g : ∀ N, Ex B N → EvD K tb σ N (.list es)) (hl : ds.length = es.length) :
    WiD (iZipM K (tCons ta (tCons tb tNil))) σ B ds.length (fun N i x => ∃ d e, ds[i]? = some d ∧ es[i]? = some e ∧ Da K N x (.tuple [d, e])) := fun H1 a R k =>
  h H1 a _ fun v N H2 b hv => g N b.bas H2 b.sub _ fun u N2 H3 b2 hu => by
    cases hv with
    | @tup p xs _ h1 h2 =>
    cases hu with
    | @lst p2 ys _ g1 g2 =>
    have h1' := ex_t b2.bas h1
    have h2' := h2.ex b2.bas
    refine ⟨p, p2, xs, ys, rfl, ex_t b2.sub h1', sq_of (b2.sub _ _ g1), k _ N2 H3 (b.trans b2) ⟨fun H4 c i hi => ?_, fun B2 H4 i x H5 c c2 hi y => ?_, fun H4 c => ⟨xs, ys, ex_t c h1', sq_of (c _ _ g1), .inl (by rw [h2.len]; exact Nat.le_refl _)⟩⟩⟩
    · have i1 : i < xs.length := by rw [h2.len]; exact hi
      have i2 : i < ys.length := by rw [g2.len, ← hl]; exact hi
      exact ⟨xs, ys, xs[i], ys[i], ex_t c h1', sq_of (c _ _ g1), List.getElem?_eq_getElem i1, List.getElem?_eq_getElem i2⟩
    · obtain ⟨T, x, y, rfl, nT, rfl, hx, hy⟩ := y
      obtain ⟨d, d1, d2⟩ := h2'.get (hx xs (ex_t (c.trans c2) h1'))
      obtain ⟨e, e1, e2⟩ := g2.get (hy ys (sq_of (c2 _ _ (c _ _ g1))))
      have nB : B2 T = none := fresh_back c2 nT
      exact ⟨upd B2 T (.tup [x, y]), .alloc c2 nT, d, e, d1, e1, .tup (st_of upd_same) (.cons (d2.ex (c.trans (Ex.new nB))) (.cons (e2.ex (c.trans (Ex.new nB))) .nil))⟩
end Sg
end
section
set_option maxRecDepth 100000
set_option maxHeartbeats 4000000
/-! What is kept is changed. -/
namespace Sg
open PySem PySem.Spec PyProof.Rows L2 Evl
theorem ev_isN {σ : L2.St} {B : Hp} {ta : TE} (h : Ev ta σ B .non) : Ev (tIsN ta) σ B (.bl true) := fun H1 e Q q => h H1 e _ fun H2 e2 => q H2 e2
theorem ed_ifT {K : PySem.W.Frag} {σ : L2.St} {B : Hp} {t : TT} {ta tb : TE} {d : PyData} (ht : EvT t σ B true) (h : EvD K ta σ B d) : EvD K (tIf t ta tb) σ B d := fun H1 e Q q =>
  ht H1 e _ fun H2 e2 => h H2 (e.trans e2) Q fun v N H3 g hv => q v N H3 (g.ahead e2) hv
section
variable {P : Program} {w : World} {K : PySem.W.Frag} {mg : Str → Option Value} {base : Heap} {C CS : Addr}
abbrev s_Keeping_next_sheet : Stmt := inClass (topS 44) 9
theorem sc_Keeping_next_sheet : FnScope ["self", "names", "descriptions", "lots", "places", "meant", "words", "k", "at"] ["self", "names", "descriptions", "lots"] (defScope s_Keeping_next_sheet) := ⟨rfl, rfl, rfl, by decide +kernel, rfl, by decide +kernel, by decide +kernel⟩
theorem ok_Keeping_next_sheet (M : MgO mg) (T : TKeep K C) (G_Sheet : Okc P w K mg base CX0 1 CS "Sheet" ["self", "names", "descriptions", "places", "meant"] [] (spSheetI CS)) {f : Addr} {fd : FuncData} (F : Fun K "next_sheet" "Keeping.next_sheet" s_Keeping_next_sheet f fd) : FnOk P w K mg base CX0 3 f fd ["self", "names", "descriptions", "lots"] (spNext K C CS) := by
  refine F.ok sc_Keeping_next_sheet (fun vs H Q E h => ?_) (fun cdv A outer s H1 vs Q E hr h => ?_)
  · obtain ⟨L, k, me, ot, wr, b, v1, v2, v3, n, rfl, _⟩ := h
    rfl
  obtain ⟨L, k, me, ot, wr, b, v1, v2, v3, n, rfl, e, o, hd, hn, q⟩ := h
  obtain ⟨l, s', c, t, cnt, sd, cd, sh, oi, _⟩ := id o
  obtain ⟨dx, ob⟩ := oi.ob
  refine ⟨_, (pss_cons (ps_set (i := 4) sc_Keeping_next_sheet.nd rfl (by first | exact Or.inl rfl | exact Or.inr rfl) (pe_callTy (cr_tupOf (K := K)) (by rfl) M.m_tuple (by decide +kernel) (pa_cons (pe_lc (own := [("k", 7)]) rfl sc_Keeping_next_sheet.nd (pi_range1 (by rfl) M.m_range (pa_cons (pe_callB (call_lenK (K := K)) (by rfl) M.m_len boot_len (pa_cons (pv 2) pa_nil)) pa_nil)) (blkOk_by (N := ["self", "names", "descriptions", "lots", "places", "meant", "words", "k", "at"]) (sc := defScope s_Keeping_next_sheet) (by decide +kernel)) (fun _ _ _ _ _ => (pg_name (i := 7) sc_Keeping_next_sheet.nd rfl (by first | exact Or.inl rfl | exact Or.inr rfl))) (fun _ _ _ _ _ => pts_nil) (fun _ _ _ _ _ => (pe_op op_add (pe_fldK (K := K) (pv 0) rfl) (pv 7)))) pa_nil)))
      (pss_cons (ps_setLc (i := 5) (own := [("words", 6)]) rfl sc_Keeping_next_sheet.nd rfl rfl (sw_true rfl rfl rfl (by decide +kernel)) (pi_tupK (K := K) (pv 2)) (blkOk_by (N := ["self", "names", "descriptions", "lots", "places", "meant", "words", "k", "at"]) (sc := defScope s_Keeping_next_sheet) (by decide +kernel)) (fun _ _ _ _ _ => (pg_name (i := 6) sc_Keeping_next_sheet.nd rfl (by first | exact Or.inl rfl | exact Or.inr rfl))) (fun _ _ _ _ _ => pts_nil) (fun _ _ _ _ _ => (pe_ifExp (pt_cmp (pc_isN (pv 6))) (pe_tup pa_nil) (pe_callTy (cr_tupOf (K := K)) (by rfl) M.m_tuple (by decide +kernel) (pa_cons (pe_lc (own := [("at", 8)]) rfl sc_Keeping_next_sheet.nd (pi_listK (K := K) pe_never) (blkOk_by (N := ["self", "names", "descriptions", "lots", "places", "meant", "words", "k", "at"]) (by kernel_rfl)) (fun _ _ _ _ _ => (pg_name (i := 8) sc_Keeping_next_sheet.nd rfl (by first | exact Or.inl rfl | exact Or.inr rfl))) (fun _ _ _ _ _ => pts_nil) (fun _ _ _ _ _ => (pe_ix (ix_tupK (K := K)) (pe_ix (ix_tupK (K := K)) (pe_ix (ix_tupK (K := K)) (pv 3) (pv 8) (fun _ _ => rfl)) pe_int (fun _ _ => rfl)) pe_int (fun _ _ => rfl)))) pa_nil)))))
      (pss_one (ps_ret (pe_ownC G_Sheet (hr.mono (by decide)) (pa_cons (pv 1) (pa_cons (pv 2) (pa_cons (pv 4) (pa_cons (pe_callTy (cr_tupOf (K := K)) (by rfl) M.m_tuple (by decide +kernel) (pa_cons (pv 5) pa_nil)) pa_nil)))) pass0))))), ?_⟩
  refine d_asgT (K := K) (B := L) (ds := ((List.range n).map fun (i : Nat) => cnt + (i : Int)).map .int) (et_tupL (ed_is (ed_mapN (P := fun _ i x => x = .int (i : Int)) (List.range n) (fun i => .int (cnt + (i : Int))) (by rw [List.length_range]; omega) ?_ (fun _ => rfl) fun i x y N e1 hy hx => ?_) (by rw [List.map_map]; rfl))) e fun pp xs0 N1 H2 hpp g1 hN1 hd1 => ?_
  · rw [List.length_range]
    have hr := wd_rng (σ := L2.start ["self", "names", "descriptions", "lots", "places", "meant", "words", "k", "at"] [.ref k, v1, v2, v3]) (H := L) (n := ((List.replicate n PyData.none).length : Int)) (tl := tCons (tCB (rLenG K) (tCons (tVar 2) tNil)) tNil) (ea_cons (ev_lenT (ed_var rfl hd)) ea_nil) (by rw [List.length_replicate]; omega)
    rw [List.length_replicate, Int.toNat_natCast] at hr
    exact hr
  · obtain ⟨hi, rfl⟩ := List.getElem?_eq_some_iff.mp hy
    rw [List.getElem_range]
    subst hx
    exact ed_of (ev_op (ev_fld (ev_var rfl) (e1 _ _ ob) T.cl T.n5 rfl) (ev_var rfl) rv_I0) (.int _)
  refine d_asg (K := K) (H := N1) (d := .list ((List.replicate n PyData.none).map fun _ => .tuple [])) (ed_mapN (P := PD K (List.replicate n PyData.none)) (List.replicate n PyData.none) _ (by rw [List.length_replicate]; omega) (wd_tup (ed_var rfl (hd.ex g1.bas))) (fun _ => rfl) fun i x y N e1 hy hx => ?_) g1.sub fun vm N2 H3 g2 hm => ?_
  · obtain ⟨d', hd', hx⟩ := hx
    have ed : d' = .none := by
      have := List.mem_of_getElem? hd'
      exact (List.mem_replicate.mp this).2
    subst ed
    cases hx
    exact ed_ifT (et_B (ev_isN (ev_var rfl))) (ed_tup eds_nil (Nat.zero_le _))
  -- return Sheet(..)
  cases hm with
  | @lst pm xs _ m1 m2 =>
  refine ⟨_, rfl, _, rfl, _, rfl, _, rfl, pm, xs, rfl, .inl ⟨sq_of (g2.sub _ _ m1), fun lt hlt => ?_⟩⟩
  intro x dx2 hx hdx nex
  refine ⟨x, dx2, _, _, _, _, rfl, upd_same, rfl, ?_⟩
  rw [upd_upd]
  obtain rfl := daAll_ints hd1
  obtain ⟨nlx, hx⟩ := upd_none hx
  obtain ⟨nld, hdx⟩ := upd_none hdx
  have a13 := g1.act.trans g2.act
  have hpp3 : H3 pp = some (.tup (((List.range n).map fun (i : Nat) => cnt + (i : Int)).map V.int)) := g2.act _ _ (g1.sub _ _ hN1)
  have npp : ∀ z, H3 z = none → pp ≠ z := fun z hz => ne_of_none hpp3 hz
  refine q x pp dx2 _ _ _ _ ((List.range n).map fun (i : Nat) => cnt + (i : Int)) (fresh_back a13 hx) hpp (npp x hx).symm (fun b u hb => ?_) upd_same ?_ (by rw [List.length_map, List.length_range])
  · have hb3 := a13 _ _ hb
    rw [upd_ne (ne_of_none hb3 hx), upd_ne (ne_of_none hb3 hdx), upd_ne (ne_of_none hb3 hlt)]
    exact hb3
  · rw [upd_ne (npp x hx), upd_ne (npp dx2 hdx), upd_ne (npp lt hlt)]
    exact hpp3
end
end Sg
end
section
set_option maxRecDepth 100000
set_option maxHeartbeats 4000000
/-! A letter is kept; its cards. -/
namespace Sg
open PySem PySem.Spec PyProof.Rows L2 Evl
def spKeep (K : PySem.W.Frag) (C CS : Addr) : Sp := fun vs H Q _ => ∃ D L k q p v4 me ot wr b j pl ds, vs = [.ref k, .ref q, .ref p, v4] ∧ Ex D H ∧ Ex L H ∧ Dj D L ∧ D q = some (.tup [.str me, .int j]) ∧ SheetAt K CS D p pl ∧ Da K D v4 (.list ds) ∧ pl.length = ds.length ∧ KeepAt C L k me ot wr b ∧ b + pl.length ≤ 5000 ∧
  ∀ L' H', Mv L H L' H' → KeepAt C L' k me ot wr (b + pl.length + 1) → Q .non H'
def spGive (K : PySem.W.Frag) (C CS : Addr) : Sp := fun vs H Q _ => ∃ D L k p v me ot wr b pl ds, vs = [.ref k, .ref p, v] ∧ Ex D H ∧ Ex L H ∧ Dj D L ∧ SheetAt K CS D p pl ∧ Da K D v (.list ds) ∧ pl.length = ds.length ∧ KeepAt C L k me ot wr b ∧ b + pl.length ≤ 5000 ∧
  ∀ L' H', Mv L H L' H' → KeepAt C L' k me ot wr (b + pl.length) → Q .non H'
theorem tg_two {K : PySem.W.Frag} {N : Hp} {x : V} {z : Int} {d : PyData} (hv : Da K N x (.tuple [.int z, d])) : ∃ u, Da K N u d ∧ ∀ H2, Ex N H2 → ∀ (i j : Nat) (σ : L2.St) (R : L2.St → Hp → Prop), R ((σ.set i (some (.int z))).set j (some u)) H2 → gTup K 2 (gs [i, j]) x σ H2 R := by
  obtain ⟨us, hu, k⟩ := tg_row (n := 2) (ds := [.int z, d]) hv rfl
  cases hu with
  | cons u1 u2 =>
  cases u2 with
  | cons u2 u3 =>
  cases u3
  cases u1
  exact ⟨_, u2, fun H2 e2 i j σ R r => k H2 e2 [i, j] rfl σ R r⟩
theorem Gr.nil {D H N H2 L : Hp} (g : Gr D H N H2) (dj : Dj D L) (e : Ex L H) {x : Addr} {u : HO} (h : L x = some u) : N x = none := g.new x ((dj x).resolve_right (by rw [h]; simp)) (by rw [e _ _ h]; simp)
section
variable {P : Program} {w : World} {K : PySem.W.Frag} {mg : Str → Option Value} {base : Heap} {C CS : Addr}
abbrev s_Keeping_give_cards : Stmt := inClass (topS 44) 11
theorem sc_Keeping_give_cards : FnScope ["self", "sheet", "cards", "place", "card"] ["self", "sheet", "cards"] (defScope s_Keeping_give_cards) := ⟨rfl, rfl, rfl, by decide +kernel, rfl, by decide +kernel, by decide +kernel⟩
theorem ok_Keeping_give_cards (M : MgK mg) (T : TKeep K C) (TS : TSheet K CS) {f : Addr} {fd : FuncData} (F : Fun K "give_cards" "Keeping.give_cards" s_Keeping_give_cards f fd) : FnOk P w K mg base CX0 1 f fd ["self", "sheet", "cards"] (spGive K C CS) := by
  refine F.ok sc_Keeping_give_cards (fun vs H Q E h => ?_) (fun cdv A outer s H vs Q E hr h => ?_)
  · obtain ⟨D, L, k, p, v, me, ot, wr, b, pl, ds, rfl, _⟩ := h
    rfl
  obtain ⟨D, L, k, p, v, me, ot, wr, b, pl, ds, rfl, eD, eL, dj, ⟨dxs, s1, s2, s3, s4, hs, hs3⟩, hv, hl, ⟨l, s', c, t, cnt, sd, cd, sh, o, b1, b2, b3⟩, hb, q⟩ := h
  obtain ⟨dx, ob⟩ := o.ob
  refine ⟨_, (pss_one (ps_for PassesOwn.never rfl (pi_zipM (K := K) (by rfl) M.m_zip (pa_cons (pe_fldK (K := K) (pv 1) rfl) (pa_cons (pv 2) pa_nil))) (pg_tup rfl (pgs_cons (pg_name (i := 3) sc_Keeping_give_cards.nd rfl (by first | exact Or.inl rfl | exact Or.inr rfl)) (pgs_cons (pg_name (i := 4) sc_Keeping_give_cards.nd rfl (by first | exact Or.inl rfl | exact Or.inr rfl)) pgs_nil))) (pss_one (ps_dput (units1 hr) (pe_fldK (K := K) (pv 0) rfl) (pv 3) (pv 4) rfl)))), ?_⟩
  have nkc : k ≠ c := ne_of ob o.ca (by intro z; cases z)
  refine d_forM (K := K) (B0 := D) (n := pl.length) (P := fun N i x => ∃ d e, (pl.map PyData.int)[i]? = some d ∧ ds[i]? = some e ∧ Da K N x (.tuple [d, e])) ?_ eD (fun N i σ' H' => ∃ x4 x5 cd', σ' = [some (.ref k), some (.ref p), some v, x4, x5] ∧ cd'.length ≤ cd.length + i ∧ Mv L H (upd L c (.dK cd')) H') (fun N H3 g => ⟨none, none, cd, rfl, Nat.le_refl _, ?_⟩) (fun N H3 i x σ' B H' H4 g hi eN ⟨x4, x5, cd', es, hc, mv⟩ g2 px Nx nx => ?_) fun N H3 σ' H' g eN ⟨x4, x5, cd', es, hc, mv⟩ => ?_
  · have hz := wd_zipM (K := K) (B := D) (σ := L2.start ["self", "sheet", "cards", "place", "card"] [.ref k, .ref p, v]) (ta := tFld K (tVar 1) "places") (tb := tVar 2) (ds := pl.map PyData.int) (es := ds) (ed_of (ev_fld (ev_var rfl) hs TS.cl TS.n3 rfl) hs3) (fun N e => ed_var rfl (hv.ex e)) (by rw [List.length_map]; exact hl)
    rw [List.length_map] at hz
    exact hz
  · have e0 : upd L c (.dK cd) = L := by
      funext z
      by_cases e : z = c
      · subst e
        rw [upd_same, o.ca]
      · rw [upd_ne e]
    rw [e0]
    exact Mv.old eL g.act
  · subst es
    obtain ⟨d, e, hd, he, hx⟩ := px
    rw [List.getElem?_map, List.getElem?_eq_getElem hi] at hd
    cases hd
    obtain ⟨u, hu, kk⟩ := tg_two hx
    refine kk H4 g2.sub 3 4 _ _ ?_
    have mv2 := mv.to g2.act
    refine ⟨_, rfl, _, rfl, k, C, dx, _, _, rfl, mv2.sub _ _ (by rw [upd_ne nkc]; exact ob), T.cl, T.n8, rfl, _, rfl, c, _, rfl, DPut.k (k := .inl pl[i]) (mv2.sub _ _ upd_same) (sz_lt (by omega)), nx _ _ ?_ ⟨_, _, putK cd' (.inl pl[i]) u, rfl, ?_, ?_⟩⟩
    · exact Ex.put (eN.trans g2.act) (g.nil dj eL o.ca)
    · have := length_putK cd' (.inl pl[i]) u
      omega
    · have m3 := mv2.trans (Mv.put (p := c) (o := .dK (putK cd' (.inl pl[i]) u)) mv2.sub upd_same)
      rw [upd_upd] at m3
      exact m3
  · refine q _ _ mv ⟨l, s', c, t, cnt, sd, cd', sh, ⟨⟨dx, by rw [upd_ne nkc]; exact ob⟩, by rw [upd_ne (ne_of o.ld o.ca (by intro z; cases z))]; exact o.ld, by rw [upd_ne o.sc]; exact o.sa, upd_same, by rw [upd_ne (ne_of o.st o.ca (by intro z; cases z))]; exact o.st, o.sc, o.ks⟩, by omega, by omega, by omega⟩
abbrev s_Keeping_keep : Stmt := inClass (topS 44) 10
theorem sc_Keeping_keep : FnScope ["self", "key", "sheet", "said", "place", "words"] ["self", "key", "sheet", "said"] (defScope s_Keeping_keep) := ⟨rfl, rfl, rfl, by decide +kernel, rfl, by decide +kernel, by decide +kernel⟩
theorem ok_Keeping_keep (M : MgO mg) (MK : MgK mg) (T : TKeep K C) (TS : TSheet K CS) {f : Addr} {fd : FuncData} (F : Fun K "keep" "Keeping.keep" s_Keeping_keep f fd) : FnOk P w K mg base CX0 1 f fd ["self", "key", "sheet", "said"] (spKeep K C CS) := by
  refine F.ok sc_Keeping_keep (fun vs H Q E h => ?_) (fun cdv A outer s H vs Q E hr h => ?_)
  · obtain ⟨D, L, k, q, p, v4, me, ot, wr, b, j, pl, ds, rfl, _⟩ := h
    rfl
  obtain ⟨D, L, k, kq, p, v4, me, ot, wr, b, j, pl, ds, rfl, eD, eL, dj, hkq, ⟨dxs, s1, s2, s3, s4, hs, hs3⟩, hv, hl, ⟨l, s', c, t, cnt, sd, cd, sh, o, b1, b2, b3⟩, hb, q⟩ := h
  obtain ⟨dx, ob⟩ := o.ob
  refine ⟨_, (pss_cons (ps_dput (units1 hr) (pe_fldK (K := K) (pv 0) rfl) (pv 1) (pv 2) rfl)
      (pss_cons (ps_fldaug (pv 0) (pe_callB (call_lenK (K := K)) (by rfl) M.m_len boot_len (pa_cons (pe_fldK (K := K) (pv 2) rfl) pa_nil)) in_add)
      (pss_one (ps_for PassesOwn.never rfl (pi_zipM (K := K) (by rfl) MK.m_zip (pa_cons (pe_fldK (K := K) (pv 2) rfl) (pa_cons (pv 3) pa_nil))) (pg_tup rfl (pgs_cons (pg_name (i := 4) sc_Keeping_keep.nd rfl (by first | exact Or.inl rfl | exact Or.inr rfl)) (pgs_cons (pg_name (i := 5) sc_Keeping_keep.nd rfl (by first | exact Or.inl rfl | exact Or.inr rfl)) pgs_nil))) (pss_one (ps_dput (units1 hr) (pe_fldK (K := K) (pv 0) rfl) (pv 4) (pv 5) rfl)))))), ?_⟩
  have nkt : k ≠ t := ne_of ob o.st (by intro z; cases z)
  have nks : k ≠ s' := ne_of ob o.sa (by intro z; cases z)
  have nts : t ≠ s' := ne_of o.st o.sa (by intro z; cases z)
  have Dn : ∀ {x u}, L x = some u → D x = none := fun {x u} hx => (dj x).resolve_right (by rw [hx]; simp)
  -- self.sheets[key] = sheet
  refine ⟨_, rfl, _, rfl, k, C, dx, _, _, rfl, eL _ _ ob, T.cl, T.n9, rfl, _, rfl, t, _, rfl, DPut.t (k := [.inr me, .inl j]) (b := kq) (eL _ _ o.st) (eD _ _ hkq) (sz_lt (by omega)), ?_⟩
  -- self.count += len(sheet.places)
  cases hs3 with
  | @tup pp xs _ p1 p2 =>
  have eD1 : Ex D (upd H t (.dT (putK sh [.inr me, .inl j] (.ref p)))) := Ex.put eD (Dn o.st)
  refine ⟨_, rfl, k, C, dx, _, _, rfl, (by rw [upd_ne nkt]; exact eL _ _ ob), T.cl, T.n5, rfl, _, rfl, p, CS, dxs, _, _, rfl, eD1 _ _ hs, TS.cl, TS.n3, rfl, _, xs.length, rfl, .inr ⟨xs, ex_t eD1 p1, rfl⟩, cnt, _, rfl, rfl, dx, _, (by rw [upd_ne nkt]; exact eL _ _ ob), (by show 9 < 1000; decide), ?_⟩
  have ef : putF "count" (.int (cnt + ((xs.length : Nat) : Int))) (keepF me ot wr cnt l s' c t) = keepF me ot wr (cnt + ((xs.length : Nat) : Int)) l s' c t := rfl
  rw [ef]
  generalize cnt + ((xs.length : Nat) : Int) = cn
  have hs3' : Da K D (.ref pp) (.tuple (pl.map .int)) := .tup p1 p2
  have eD2 : Ex D (upd (upd H t (.dT (putK sh [.inr me, .inl j] (.ref p)))) k (.ins C dx (keepF me ot wr cn l s' c t))) := Ex.put eD1 (Dn ob)
  have m1 : Mv L H (upd L t (.dT (putK sh [.inr me, .inl j] (.ref p)))) (upd H t (.dT (putK sh [.inr me, .inl j] (.ref p)))) := Mv.put eL o.st
  have m2 := m1.trans (Mv.put (p := k) (o := .ins C dx (keepF me ot wr cn l s' c t)) m1.sub (by rw [upd_ne nkt]; exact ob))
  have hs2 : upd (upd L t (.dT (putK sh [.inr me, .inl j] (.ref p)))) k (.ins C dx (keepF me ot wr cn l s' c t)) s' = some (.dK sd) := by
    rw [upd_ne nks.symm, upd_ne nts.symm]
    exact o.sa
  show tFor (iZipM K (tCons (tFld K (tVar 2) "places") (tCons (tVar 3) tNil))) (gTup K 2 (gs [4, 5])) (sDPut (tFld K (tVar 0) "said") (tVar 4) (tVar 5)) { nx := fun x H' => Q V.non H', rt := Q } [some (.ref k), some (.ref kq), some (.ref p), some v4, none, none] _
  refine d_forM (K := K) (B0 := D) (n := pl.length) (P := fun N i x => ∃ d e, (pl.map PyData.int)[i]? = some d ∧ ds[i]? = some e ∧ Da K N x (.tuple [d, e])) ?_ eD2 (fun N i σ' H' => ∃ x4 x5 sd', σ' = [some (.ref k), some (.ref kq), some (.ref p), some v4, x4, x5] ∧ sd'.length ≤ sd.length + i ∧ Mv L H (upd (upd (upd L t (.dT (putK sh [.inr me, .inl j] (.ref p)))) k (.ins C dx (keepF me ot wr cn l s' c t))) s' (.dK sd')) H') (fun N H3 g => ⟨none, none, sd, rfl, Nat.le_refl _, ?_⟩) (fun N H3 i x σ' B H' H4 g hi eN ⟨x4, x5, sd', es, hc, mv⟩ g2 px Nx nx => ?_) fun N H3 σ' H' g eN ⟨x4, x5, sd', es, hc, mv⟩ => ?_
  · have hz := wd_zipM (K := K) (B := D) (σ := L2.start ["self", "key", "sheet", "said", "place", "words"] [.ref k, .ref kq, .ref p, v4]) (ta := tFld K (tVar 2) "places") (tb := tVar 3) (ds := pl.map PyData.int) (es := ds) (ed_of (ev_fld (ev_var rfl) hs TS.cl TS.n3 rfl) hs3') (fun N e => ed_var rfl (hv.ex e)) (by rw [List.length_map]; exact hl)
    rw [List.length_map] at hz
    exact hz
  · have e0 : upd (upd (upd L t (.dT (putK sh [.inr me, .inl j] (.ref p)))) k (.ins C dx (keepF me ot wr cn l s' c t))) s' (.dK sd) = upd (upd L t (.dT (putK sh [.inr me, .inl j] (.ref p)))) k (.ins C dx (keepF me ot wr cn l s' c t)) := by
      funext z
      by_cases e : z = s'
      · subst e
        rw [upd_same, hs2]
      · rw [upd_ne e]
    rw [e0]
    exact m2.to g.act
  · subst es
    obtain ⟨d, e, hd, he, hx⟩ := px
    rw [List.getElem?_map, List.getElem?_eq_getElem hi] at hd
    cases hd
    obtain ⟨u, hu, kk⟩ := tg_two hx
    refine kk H4 g2.sub 4 5 _ _ ?_
    have mv2 := mv.to g2.act
    refine ⟨_, rfl, _, rfl, k, C, dx, _, _, rfl, mv2.sub _ _ (by rw [upd_ne nks]; exact upd_same), T.cl, T.n7, rfl, _, rfl, s', _, rfl, DPut.k (k := .inl pl[i]) (mv2.sub _ _ upd_same) (sz_lt (by omega)), nx _ _ ?_ ⟨_, _, putK sd' (.inl pl[i]) u, rfl, ?_, ?_⟩⟩
    · refine Ex.put (eN.trans g2.act) (g.new s' (Dn o.sa) ?_)
      rw [m2.sub _ _ hs2]
      simp
    · have := length_putK sd' (.inl pl[i]) u
      omega
    · have m3 := mv2.trans (Mv.put (p := s') (o := .dK (putK sd' (.inl pl[i]) u)) mv2.sub upd_same)
      rw [upd_upd] at m3
      exact m3
  · have nlk : l ≠ k := ne_of o.ld ob (by intro z; cases z)
    have nlt : l ≠ t := ne_of o.ld o.st (by intro z; cases z)
    have nls : l ≠ s' := ne_of o.ld o.sa (by intro z; cases z)
    have nck : c ≠ k := ne_of o.ca ob (by intro z; cases z)
    have nct : c ≠ t := ne_of o.ca o.st (by intro z; cases z)
    have lsh := length_putK sh [.inr me, .inl j] (.ref p)
    refine q _ _ mv ⟨l, s', c, t, cn, sd', cd, putK sh [.inr me, .inl j] (.ref p), ⟨⟨dx, by rw [upd_ne nks]; exact upd_same⟩, by rw [upd_ne nls, upd_ne nlk, upd_ne nlt]; exact o.ld, upd_same, by rw [upd_ne o.sc.symm, upd_ne nck, upd_ne nct]; exact o.ca, by rw [upd_ne nts, upd_ne nkt.symm, upd_same], o.sc, ?_⟩, by omega, by omega, by omega⟩
    intro pr hp
    unfold putK at hp
    split at hp
    · obtain ⟨kv, hkv, rfl⟩ := List.mem_map.mp hp
      split
      · rename_i e
        exact ⟨j, e⟩
      · exact o.ks _ hkv
    · rcases List.mem_append.mp hp with h1 | h1
      · exact o.ks _ h1
      · rw [List.mem_singleton.mp h1]
        exact ⟨j, rfl⟩
end
end Sg
end
section
set_option maxRecDepth 100000
set_option maxHeartbeats 4000000
/-! A hand by itself: cards looked at. -/
namespace Sg
open PySem PySem.Spec PyProof.Rows L2 Evl
def handF (me : Str) (hv : V) (l kd : Addr) : List (Str × V) := [("hand", .str me), ("hands", hv), ("lots", .ref l), ("keepings", .ref kd)]
structure THand (K : PySem.W.Frag) (C : Addr) : Prop where
  cl : Cls K C
  n1 : NoAttr K C "hand"
  n2 : NoAttr K C "hands"
  n3 : NoAttr K C "lots"
  n4 : NoAttr K C "keepings"
/-- the hand's own object -/
def HandO (C : Addr) (D : Hp) (a l : Addr) : Prop := ∃ dx me hv kd, D a = some (.ins C dx (handF me hv l kd))
def isCard (n : Nat) : PyData → Bool
  | .int i => decide (0 ≤ i) && decide (i < (n : Int))
  | _ => false
def spCheck (K : PySem.W.Frag) (C CL CN : Addr) : Sp := fun vs H1 Q E => ∃ D a l h m w xs v d, vs = [.ref a, v] ∧ Ex D H1 ∧ HandO C D a l ∧ LotO CL D l h m w xs ∧ xs.length ≤ 1000 ∧ Da K D v d ∧
  (isCard xs.length d = true → ∀ H2, Ex H1 H2 → Q .non H2) ∧ (isCard xs.length d = false → ∀ H2, Ex H1 H2 → E (.ref CN) none H2)
section
variable {P : Program} {w : World} {K : PySem.W.Frag} {mg : Str → Option Value} {base : Heap} {C CL : Addr} {C_NoCard C_NoWords C_NoHand C_NoLines C_NoHands : Addr}
abbrev OwnX (P : Program) (w : World) (K : PySem.W.Frag) (mg : Str → Option Value) (base : Heap) (k : Nat) (C : Addr) (m : Str) (ps : List Str) (sp : Sp) : Prop := Okm P w K mg base (L2.CX P w) k C m ps [] sp
abbrev s_Hand_check_card : Stmt := inClass (topS 46) 10
theorem sc_Hand_check_card : FnScope ["self", "card"] ["self", "card"] (defScope s_Hand_check_card) := ⟨rfl, rfl, rfl, by decide +kernel, rfl, by decide +kernel, by decide +kernel⟩
theorem ok_Hand_check_card (T : THand K C) (G_is_whole1 : Own P w K mg base 1 "is_whole" ["thing", "least"] [.int 0] (spWhole K)) (G_Lots_has : OwnM P w K mg base 1 CL "has" ["self", "place"] (spHas CL)) (G_NoCard : Err0 K mg C_NoCard "NoCard") {f : Addr} {fd : FuncData} (F : Fun K "check_card" "Hand.check_card" s_Hand_check_card f fd) : FnOk P w K mg base (L2.CX P w) 2 f fd ["self", "card"] (spCheck K C CL C_NoCard) := by
  refine F.okX sc_Hand_check_card (fun vs H Q E h => ?_) (fun cdv A outer s H1 vs Q E hr h => ?_)
  · obtain ⟨D, a, l, h, m, w, xs, v, d, rfl, _⟩ := h
    rfl
  obtain ⟨D, a, l, h, m, w, xs, v, d, rfl, e, ⟨dx, me, hv, kd, ob⟩, lo, hx, hd, q1, q2⟩ := h
  obtain ⟨⟨dxl, lob⟩, lhd⟩ := id lo
  refine ⟨_, (pss_one (ps_if (PW.pt (pw_or (pt_not (pt_val (pe_own G_is_whole1 (hr.mono (by decide)) (pa_cons (pv 1) pa_nil) pass0))) (pw_or1 (pt_not (pt_val (pe_ownM G_Lots_has (hr.mono (by decide)) (pe_fldK (K := K) (pv 0) rfl) (pa_cons (pv 1) pa_nil) pass0)))))) (pss_one (ps_raise rfl (takes_of rfl rfl rfl rfl) (pmk_err0 G_NoCard))) pss_nil)), ?_⟩
  refine d_ifZ (H := D) (b := !(isWhole d 0) || !(isCard xs.length d)) (et_or (et_not (et_B (ev_whole1 (eds1 (ed_var rfl hd))))) fun hw => et_not (et_B ?_)) e (fun hb H2 e2 => ?_) fun hb H2 e2 => ?_
  · cases d with
    | int i =>
      cases hd
      have h0 : (0 : Int) ≤ i := by
        have : decide ((0 : Int) ≤ i) = true := by simpa [isWhole] using hw
        exact of_decide_eq_true this
      refine ev_is (ev_meth (z := .bl (decide (i < (xs.length : Int)))) (ev_fld (ev_var rfl) ob T.cl T.n3 rfl) lob rfl (ea_cons (ev_var rfl) ea_nil) fun H2 e2 Q q => ?_) ?_
      · exact ⟨D, l, h, m, w, xs, i, rfl, e2, lo, hx, q⟩
      · simp [isCard, h0]
    | _ => simp [isWhole] at hw
  · have hc : isCard xs.length d = false := by
      cases d with
      | int i =>
        cases hh : isCard xs.length (.int i) with
        | false => rfl
        | true =>
          rw [hh] at hb
          have h0 : (0 : Int) ≤ i := by
            have : decide ((0 : Int) ≤ i) = true := by
              have h9 : (decide (0 ≤ i) && decide (i < (xs.length : Int))) = true := hh
              exact (Bool.and_eq_true _ _ ▸ h9).1
            exact of_decide_eq_true this
          simp [isWhole, h0] at hb
      | _ => rfl
    exact q2 hc H2 e2
  · have hc : isCard xs.length d = true := by
      have : (!(isWhole d 0) || !(isCard xs.length d)) = false := hb
      simp only [Bool.or_eq_false_iff, Bool.not_eq_false'] at this
      exact this.2
    exact q1 hc H2 e2
end
end Sg
end
section
set_option maxRecDepth 100000
set_option maxHeartbeats 4000000
/-! A hand by itself: what it sees, finds, tells. -/
namespace Sg
open PySem PySem.Spec PyProof.Rows L2 Evl
/-- the hand's own objects that never change -/
structure HandK (K : PySem.W.Frag) (C : Addr) (D : Hp) (a l : Addr) (me : Str) (hv : V) (kd : Addr) (kvs : List (Key × V)) (hs : List PyData) : Prop where
  ob : ∃ dx, D a = some (.ins C dx (handF me hv l kd))
  hh : Da K D hv (.tuple hs)
  ko : D kd = some (.dK kvs)
  ok : OkD (.tuple hs)
  sm : SeqAt.shaped (.str me) = true
theorem HandK.ex {K : PySem.W.Frag} {C : Addr} {D D' : Hp} {a l : Addr} {me : Str} {hv : V} {kd : Addr} {kvs : List (Key × V)} {hs : List PyData} (o : HandK K C D a l me hv kd kvs hs) (e : Ex D D') : HandK K C D' a l me hv kd kvs hs := by
  obtain ⟨⟨dx, h1⟩, h2, h3, h4, h5⟩ := o
  exact ⟨⟨dx, e _ _ h1⟩, h2.ex e, e _ _ h3, h4, h5⟩
theorem HandK.handO {K : PySem.W.Frag} {C : Addr} {D : Hp} {a l : Addr} {me : Str} {hv : V} {kd : Addr} {kvs : List (Key × V)} {hs : List PyData} (o : HandK K C D a l me hv kd kvs hs) : HandO C D a l := by
  obtain ⟨⟨dx, h1⟩, _⟩ := o
  exact ⟨dx, me, hv, kd, h1⟩
def isOther (me : Str) (hs : List PyData) (d : PyData) : Bool := inD d hs && !PyData.eqv d (.str me)
def spKeeping (K : PySem.W.Frag) (C CN : Addr) : Sp := fun vs H1 Q E => ∃ D a l me hv kd kvs hs v d, vs = [.ref a, v] ∧ Ex D H1 ∧ HandK K C D a l me hv kd kvs hs ∧ Da K D v d ∧ OkD d ∧
  (isOther me hs d = false → ∀ H2, Ex H1 H2 → E (.ref CN) none H2) ∧ (isOther me hs d = true → ∃ o p, d = .str o ∧ valV kvs (.inr o) = some (.ref p) ∧ ∀ H2, Ex H1 H2 → Q (.ref p) H2)
def putsW (ws : List Str) : List (Key × V) := puts (fun s => .inr s) (fun _ => .bl true) ws
def spSee (K : PySem.W.Frag) (C CL CN : Addr) : Sp := fun vs H1 Q E => (∃ D a l v d, vs = [.ref a, v] ∧ Ex D H1 ∧ HandO C D a l ∧ Da K D v d ∧ OkD d ∧ isWords d = false ∧ ∀ H2, Ex H1 H2 → E (.ref CN) none H2) ∨
  (∃ D L a l n wk v ws, vs = [.ref a, v] ∧ Ex D H1 ∧ Ex L H1 ∧ Dj D L ∧ HandO C D a l ∧ LotsAt CL L l n wk ∧ n ≤ 1000 ∧ Da K D v (wordsD ws) ∧ OkD (wordsD ws) ∧ isWords (wordsD ws) = true ∧ ws.length ≤ 1000 ∧ ∀ L' H', Mv L H1 L' H' → LotsAt CL L' l (n + 1) (setN wk n (putsW ws)) → Q (.int (n : Int)) H')
def spLook (K : PySem.W.Frag) (C CL CC CW : Addr) : Sp := fun vs H1 Q E => (∃ D a l h m w xs v1 v2 d1 d2, vs = [.ref a, v1, v2] ∧ Ex D H1 ∧ HandO C D a l ∧ LotO CL D l h m w xs ∧ xs.length ≤ 1000 ∧ Da K D v1 d1 ∧ Da K D v2 d2 ∧ OkD d2 ∧
    ((isCard xs.length d1 = false ∧ ∀ H2, Ex H1 H2 → E (.ref CC) none H2) ∨ (isCard xs.length d1 = true ∧ isWords d2 = false ∧ ∀ H2, Ex H1 H2 → E (.ref CW) none H2))) ∨
  (∃ D L a l n wk k v ws, vs = [.ref a, .int ((k : Nat) : Int), v] ∧ Ex D H1 ∧ Ex L H1 ∧ Dj D L ∧ HandO C D a l ∧ LotsAt CL L l n wk ∧ n ≤ 1000 ∧ k < n ∧ (wk k).length + ws.length ≤ 5000 ∧ Da K D v (wordsD ws) ∧ OkD (wordsD ws) ∧ isWords (wordsD ws) = true ∧ ∀ L' H', Mv L H1 L' H' → LotsAt CL L' l n (setN wk k (putW (wk k) ws)) → Q .non H')
def spOne (K : PySem.W.Frag) (C CL CC : Addr) : Sp := fun vs H1 Q E => (∃ D a l h m w xs v1 v2 d1 d2, vs = [.ref a, v1, v2] ∧ Ex D H1 ∧ HandO C D a l ∧ LotO CL D l h m w xs ∧ xs.length ≤ 1000 ∧ Da K D v1 d1 ∧ Da K D v2 d2 ∧
    (isCard xs.length d1 && isCard xs.length d2) = false ∧ ∀ H2, Ex H1 H2 → E (.ref CC) none H2) ∨
  (∃ D L a l n g wk ks, vs = [.ref a, .int 0, .int ((g : Nat) : Int)] ∧ Ex D H1 ∧ Ex L H1 ∧ Dj D L ∧ HandO C D a l ∧ LotsAt CL L l n wk ∧ n = g + 1 ∧ 1 ≤ g ∧ n ≤ 1000 ∧ (wk g).map (·.1) = (ks : List Str).map (fun s : Str => (Sum.inr s : Key)) ∧ (wk 0).length ≤ 1000 ∧ (wk g).length ≤ 1000 ∧ ∀ L' H', Mv L H1 L' H' → LotU CL L' l n (hasW (wk 0)) → Q .non H')
def spFile (K : PySem.W.Frag) (C CL : Addr) : Sp := fun vs H1 Q _ => ∃ (L : Hp) (a l : Addr) (n : Nat) (wk : Nat → List (Key × V)), vs = [.ref a] ∧ Ex L H1 ∧ HandO C L a l ∧ LotsAt CL L l n wk ∧ n < 64 ∧ (∀ i, i < n → TextKeys (wk i) ∧ (keysW (wk i)).length < 64) ∧ ∀ v N H2, Gr L H1 N H2 → Da K N v (listedD n wk) → Q v H2
section
variable {P : Program} {w : World} {K : PySem.W.Frag} {mg : Str → Option Value} {base : Heap} {C CL : Addr} {C_NoCard C_NoWords C_NoHand C_NoLines C_NoHands : Addr}
abbrev s_Hand_keeping : Stmt := inClass (topS 46) 11
theorem sc_Hand_keeping : FnScope ["self", "other"] ["self", "other"] (defScope s_Hand_keeping) := ⟨rfl, rfl, rfl, by decide +kernel, rfl, by decide +kernel, by decide +kernel⟩
theorem ok_Hand_keeping (T : THand K C) (G_NoHand : Err0 K mg C_NoHand "NoHand") {f : Addr} {fd : FuncData} (F : Fun K "keeping" "Hand.keeping" s_Hand_keeping f fd) : FnOk P w K mg base (L2.CX P w) 1 f fd ["self", "other"] (spKeeping K C C_NoHand) := by
  refine F.okX sc_Hand_keeping (fun vs H Q E h => ?_) (fun cdv A outer s H1 vs Q E hr h => ?_)
  · obtain ⟨D, a, l, me, hv, kd, kvs, hs, v, d, rfl, _⟩ := h
    rfl
  obtain ⟨D, a, l, me, hv, kd, kvs, hs, v, d, rfl, e, o, hd, okd, q1, q2⟩ := h
  obtain ⟨dx, ob⟩ := o.ob
  refine ⟨_, (pss_cons (ps_if (PW.pt (pw_or (pt_cmpR (op_notInTK (K := K) (room65 hr)) (pv 1) (pe_fldK (K := K) (pv 0) rfl) (by with_unfolding_all rfl)) (pw_or1 (pt_cmpR (op_eqDK (K := K) hr.units) (pv 1) (pe_fldK (K := K) (pv 0) rfl) (nomark _))))) (pss_one (ps_raise rfl (takes_of rfl rfl rfl rfl) (pmk_err0 G_NoHand))) pss_nil)
      (pss_one (ps_ret (pe_dget (units1 hr) (pe_fldK (K := K) (pv 0) rfl) (pv 1) (fun _ _ => rfl))))), ?_⟩
  refine d_when (H := D) (b := !(inD d hs) || PyData.eqv d (.str me)) (et_or (et_test (ev_notIn (K := K) (ed_var rfl hd) (fun N a => ed_of (ev_fld (ev_var rfl) (a _ _ ob) T.cl T.n2 rfl) (o.hh.ex a)) okd.2 o.ok.2)) fun _ => et_test (ev_eqD (K := K) (ed_var rfl hd) (fun N a => ed_of (ev_fld (ev_var rfl) (a _ _ ob) T.cl T.n1 rfl) (.str _)) okd.2 o.sm)) e (fun hb H2 e2 => ?_) fun hb H2 e2 => ?_
  · refine q1 ?_ H2 e2
    unfold isOther
    cases h1 : inD d hs <;> cases h2 : PyData.eqv d (.str me) <;> simp [h1, h2] at hb ⊢
  · have hi : isOther me hs d = true := by
      unfold isOther
      cases h1 : inD d hs <;> cases h2 : PyData.eqv d (.str me) <;> simp [h1, h2] at hb ⊢
    obtain ⟨on, p, rfl, hp, q⟩ := q2 hi
    cases hd
    have e3 := e.trans e2
    exact ⟨_, rfl, a, C, dx, _, _, rfl, e3 _ _ ob, T.cl, T.n4, rfl, _, rfl, kd, _, rfl, hp ▸ DGet.k (k := .inr on) (e3 _ _ o.ko), q H2 e2⟩
abbrev s_Hand_see : Stmt := inClass (topS 46) 1
theorem sc_Hand_see : FnScope ["self", "words"] ["self", "words"] (defScope s_Hand_see) := ⟨rfl, rfl, rfl, by decide +kernel, rfl, by decide +kernel, by decide +kernel⟩
theorem ok_Hand_see (T : THand K C) (G_is_words : Own P w K mg base 2 "is_words" ["thing"] [] (spOf1 K isWords)) (G_Lots_new : OwnM P w K mg base 1 CL "new" ["self", "words"] (spNew K CL)) (G_NoWords : Err0 K mg C_NoWords "NoWords") {f : Addr} {fd : FuncData} (F : Fun K "see" "Hand.see" s_Hand_see f fd) : FnOk P w K mg base (L2.CX P w) 3 f fd ["self", "words"] (spSee K C CL C_NoWords) := by
  refine F.okX sc_Hand_see (fun vs H Q E h => ?_) (fun cdv A outer s H1 vs Q E hr h => ?_)
  · rcases h with ⟨D, a, l, v, d, rfl, _⟩ | ⟨D, L, a, l, n, wk, v, ws, rfl, _⟩ <;> rfl
  rcases h with ⟨D, a, l, v, d, rfl, e, ho, hd, okd, hw, q⟩ | ⟨D, L, a, l, n, wk, v, ws, rfl, eD, eL, dj, ⟨dx, me, hv, kd, ob⟩, lo, hn, hd, okd, hw, hz, q⟩
  · refine ⟨_, (pss_cons (ps_if (pt_not (pt_val (pe_own G_is_words (hr.mono (by decide)) (pa_cons (pv 1) pa_nil) pass0))) (pss_one (ps_raise rfl (takes_of rfl rfl rfl rfl) (pmk_err0 G_NoWords))) pss_nil)
      (pss_one (ps_ret (pe_ownM G_Lots_new (hr.mono (by decide)) (pe_fldK (K := K) (pv 0) rfl) (pa_cons (pv 1) pa_nil) pass0)))), ?_⟩
    refine d_when (H := D) (b := !(isWords d)) (et_not (et_B (ev_own1 (eds1 (ed_var rfl hd)) okd))) e (fun hb H2 e2 => q H2 e2) fun hb => by rw [hw] at hb; cases hb
  · refine ⟨_, (pss_cons (ps_if (pt_not (pt_val (pe_own G_is_words (hr.mono (by decide)) (pa_cons (pv 1) pa_nil) pass0))) (pss_one (ps_raise rfl (takes_of rfl rfl rfl rfl) (pmk_err0 G_NoWords))) pss_nil)
      (pss_one (ps_ret (pe_ownM G_Lots_new (hr.mono (by decide)) (pe_fldK (K := K) (pv 0) rfl) (pa_cons (pv 1) pa_nil) pass0)))), ?_⟩
    refine d_when (H := D) (b := !(isWords (wordsD ws))) (et_not (et_B (ev_own1 (eds1 (ed_var rfl hd)) okd))) eD (fun hb => by rw [hw] at hb; cases hb) fun hb H2 e2 => ?_
    obtain ⟨h, m, w', ma, wa, oi⟩ := id lo
    obtain ⟨dxl, lob⟩ := oi.ob
    exact ⟨_, rfl, a, C, dx, _, _, rfl, e2 _ _ (eD _ _ ob), T.cl, T.n3, rfl, l, dxl, _, rfl, e2 _ _ (eL _ _ lob), rfl, _, rfl, D, L, l, n, wk, _, ws, rfl, eD.trans e2, eL.trans e2, dj, lo, hn, hd, hz, fun L' H' mv lo' => q L' H' ((Mv.old eL e2).trans mv) lo'⟩
abbrev s_Hand_look : Stmt := inClass (topS 46) 2
theorem sc_Hand_look : FnScope ["self", "card", "words"] ["self", "card", "words"] (defScope s_Hand_look) := ⟨rfl, rfl, rfl, by decide +kernel, rfl, by decide +kernel, by decide +kernel⟩
theorem ok_Hand_look (T : THand K C) (G_is_words : Own P w K mg base 2 "is_words" ["thing"] [] (spOf1 K isWords)) (G_Lots_learn : OwnM P w K mg base 1 CL "learn" ["self", "place", "words"] (spLearn K CL)) (G_Hand_check_card : OwnX P w K mg base 2 C "check_card" ["self", "card"] (spCheck K C CL C_NoCard)) (G_NoWords : Err0 K mg C_NoWords "NoWords") {f : Addr} {fd : FuncData} (F : Fun K "look" "Hand.look" s_Hand_look f fd) : FnOk P w K mg base (L2.CX P w) 3 f fd ["self", "card", "words"] (spLook K C CL C_NoCard C_NoWords) := by
  refine F.okX sc_Hand_look (fun vs H Q E h => ?_) (fun cdv A outer s H1 vs Q E hr h => ?_)
  · rcases h with ⟨D, a, l, h, m, w, xs, v1, v2, d1, d2, rfl, _⟩ | ⟨D, L, a, l, n, wk, k, v, ws, rfl, _⟩ <;> rfl
  rcases h with ⟨D, a, l, h, m, w, xs, v1, v2, d1, d2, rfl, e, ho, lo, hx, hd1, hd2, okd, q⟩ | ⟨D, L, a, l, n, wk, k, v, ws, rfl, eD, eL, dj, ho, lo, hn, hk, hz, hd, okd, hw, q⟩
  · refine ⟨_, (pss_cons (ps_expr (pe_ownMS G_Hand_check_card (hr.mono (by decide)) (pv 0) (pa_cons (pv 1) pa_nil) (fun σ => passAt (takes_of rfl rfl rfl rfl) σ)))
      (pss_cons (ps_if (pt_not (pt_val (pe_own G_is_words (hr.mono (by decide)) (pa_cons (pv 2) pa_nil) pass0))) (pss_one (ps_raise rfl (takes_of rfl rfl rfl rfl) (pmk_err0 G_NoWords))) pss_nil)
      (pss_one (ps_expr (pe_ownM G_Lots_learn (hr.mono (by decide)) (pe_fldK (K := K) (pv 0) rfl) (pa_cons (pv 1) (pa_cons (pv 2) pa_nil)) pass0))))), ?_⟩
    obtain ⟨dx, me, hv, kd, ob⟩ := id ho
    refine ⟨_, rfl, a, dx, _, rfl, e _ _ ob, rfl, _, rfl, D, a, l, h, m, w, xs, _, d1, rfl, e, ho, lo, hx, hd1, fun hc H2 e2 => ?_, fun hc H2 e2 => ?_⟩
    · rcases q with ⟨hc', _⟩ | ⟨_, hw, q⟩
      · rw [hc'] at hc
        cases hc
      · dsimp only
        refine d_when (σ := [some (.ref a), some v1, some v2]) (H := D) (b := !(isWords d2)) (et_not (et_B (ev_own1 (eds1 (ed_var rfl hd2)) okd))) (e.trans e2) (fun hb H3 e3 => ?_) fun hb => by rw [hw] at hb; cases hb
        exact q H3 (e2.trans e3)
    · rcases q with ⟨_, q⟩ | ⟨hc', _⟩
      · exact q H2 e2
      · rw [hc'] at hc
        cases hc
  · refine ⟨_, (pss_cons (ps_expr (pe_ownMS G_Hand_check_card (hr.mono (by decide)) (pv 0) (pa_cons (pv 1) pa_nil) (fun σ => passAt (takes_of rfl rfl rfl rfl) σ)))
      (pss_cons (ps_if (pt_not (pt_val (pe_own G_is_words (hr.mono (by decide)) (pa_cons (pv 2) pa_nil) pass0))) (pss_one (ps_raise rfl (takes_of rfl rfl rfl rfl) (pmk_err0 G_NoWords))) pss_nil)
      (pss_one (ps_expr (pe_ownM G_Lots_learn (hr.mono (by decide)) (pe_fldK (K := K) (pv 0) rfl) (pa_cons (pv 1) (pa_cons (pv 2) pa_nil)) pass0))))), ?_⟩
    obtain ⟨dx, me, hv, kd, ob⟩ := id ho
    obtain ⟨h, m, w', ma, wa, oi⟩ := id lo
    obtain ⟨dxl, lob⟩ := oi.ob
    have eJ : Ex (join D L) H1 := join_ex eD eL
    have jL : Ex L (join D L) := ex_r dj
    have hoJ : HandO C (join D L) a l := ⟨dx, me, hv, kd, ex_l _ _ ob⟩
    refine ⟨_, rfl, a, dx, _, rfl, eD _ _ ob, rfl, _, rfl, join D L, a, l, h, m, w', headsV n, _, .int (k : Int), rfl, eJ, hoJ, oi.lotO.ex jL, (by rw [headsV_len]; exact hn), .int _, fun hc H2 e2 => ?_, fun hc H2 e2 => ?_⟩
    · dsimp only
      refine d_when (σ := [some (.ref a), some (.int (k : Int)), some v]) (H := D) (b := !(isWords (wordsD ws))) (et_not (et_B (ev_own1 (eds1 (ed_var rfl hd)) okd))) (eD.trans e2) (fun hb => by rw [hw] at hb; cases hb) fun hb H3 e3 => ?_
      have e13 := e2.trans e3
      have vk : valV (placeV n wa) (.inl (k : Int)) = some (.ref (wa k)) := by rw [valV_place, if_pos ⟨by omega, by omega⟩, Int.toNat_natCast]
      refine ⟨_, rfl, a, C, dx, _, _, rfl, e13 _ _ (eD _ _ ob), T.cl, T.n3, rfl, l, dxl, _, rfl, e13 _ _ (eL _ _ lob), rfl, _, rfl, _, rfl, D, L, l, (k : Int), _, ws, h, m, w', headsV n, (k : Int), _, wa k, wk k, rfl, eD.trans e13, eL.trans e13, dj, oi.lotO, atI_nat (headsV_at hk), oi.wd, vk, oi.wl k hk, hz, .inl hd, fun H' mv => ?_⟩
      refine q _ H' ((Mv.old eL e13).trans mv) ⟨h, m, w', ma, wa, ?_⟩
      have ne1 : ∀ {x u}, L x = some u → x ≠ wa k → upd L (wa k) (.dK (putW (wk k) ws)) x = some u := fun hx ne => by rw [upd_ne ne]; exact hx
      refine ⟨⟨dxl, ne1 lob (ne_of lob (oi.wl k hk) (by intro z; cases z))⟩, ne1 oi.hd (ne_of oi.hd (oi.wl k hk) (by intro z; cases z)), ne1 oi.mb (oi.wm k hk).1.symm, ne1 oi.wd (oi.wm k hk).2.symm, fun i hi => ne1 (oi.ml i hi) (ne_of (oi.ml i hi) (oi.wl k hk) (by intro z; cases z)), fun i hi => ?_, oi.inj, oi.mh, oi.mw, oi.wm⟩
      by_cases ei : i = k
      · subst ei
        rw [upd_same, setN_same]
      · rw [setN_ne ei]
        exact ne1 (oi.wl i hi) fun z => ei (oi.inj i k hi hk z)
    · have hc2 : isCard (headsV n).length (.int (k : Int)) = true := by
        rw [headsV_len]
        simp [isCard, hk]
      rw [hc2] at hc
      cases hc
abbrev s_Hand_one : Stmt := inClass (topS 46) 3
theorem sc_Hand_one : FnScope ["self", "card", "other"] ["self", "card", "other"] (defScope s_Hand_one) := ⟨rfl, rfl, rfl, by decide +kernel, rfl, by decide +kernel, by decide +kernel⟩
theorem ok_Hand_one (T : THand K C) (G_Lots_unite : OwnM P w K mg base 2 CL "unite" ["self", "place", "other"] (spUnite K CL)) (G_Hand_check_card : OwnX P w K mg base 2 C "check_card" ["self", "card"] (spCheck K C CL C_NoCard)) {f : Addr} {fd : FuncData} (F : Fun K "one" "Hand.one" s_Hand_one f fd) : FnOk P w K mg base (L2.CX P w) 3 f fd ["self", "card", "other"] (spOne K C CL C_NoCard) := by
  refine F.okX sc_Hand_one (fun vs H Q E h => ?_) (fun cdv A outer s H1 vs Q E hr h => ?_)
  · rcases h with ⟨D, a, l, h, m, w, xs, v1, v2, d1, d2, rfl, _⟩ | ⟨D, L, a, l, n, g, wk, ks, rfl, _⟩ <;> rfl
  rcases h with ⟨D, a, l, h, m, w, xs, v1, v2, d1, d2, rfl, e, ho, lo, hx, hd1, hd2, hc, q⟩ | ⟨D, L, a, l, n, g, wk, ks, rfl, eD, eL, dj, ho, lo, rfl, hg, hn, hks, h0, hgl, q⟩
  · refine ⟨_, (pss_cons (ps_expr (pe_ownMS G_Hand_check_card (hr.mono (by decide)) (pv 0) (pa_cons (pv 1) pa_nil) (fun σ => passAt (takes_of rfl rfl rfl rfl) σ)))
      (pss_cons (ps_expr (pe_ownMS G_Hand_check_card (hr.mono (by decide)) (pv 0) (pa_cons (pv 2) pa_nil) (fun σ => passAt (takes_of rfl rfl rfl rfl) σ)))
      (pss_one (ps_expr (pe_ownM G_Lots_unite (hr.mono (by decide)) (pe_fldK (K := K) (pv 0) rfl) (pa_cons (pv 1) (pa_cons (pv 2) pa_nil)) pass0))))), ?_⟩
    obtain ⟨dx, me, hv, kd, ob⟩ := id ho
    refine ⟨_, rfl, a, dx, _, rfl, e _ _ ob, rfl, _, rfl, D, a, l, h, m, w, xs, _, d1, rfl, e, ho, lo, hx, hd1, fun hc1 H2 e2 => ?_, fun hc1 H2 e2 => q H2 e2⟩
    refine ⟨_, rfl, a, dx, _, rfl, e2 _ _ (e _ _ ob), rfl, _, rfl, D, a, l, h, m, w, xs, _, d2, rfl, e.trans e2, ho, lo, hx, hd2, fun hc2 H3 e3 => ?_, fun hc2 H3 e3 => q H3 (e2.trans e3)⟩
    rw [hc1, hc2] at hc
    cases hc
  · refine ⟨_, (pss_cons (ps_expr (pe_ownMS G_Hand_check_card (hr.mono (by decide)) (pv 0) (pa_cons (pv 1) pa_nil) (fun σ => passAt (takes_of rfl rfl rfl rfl) σ)))
      (pss_cons (ps_expr (pe_ownMS G_Hand_check_card (hr.mono (by decide)) (pv 0) (pa_cons (pv 2) pa_nil) (fun σ => passAt (takes_of rfl rfl rfl rfl) σ)))
      (pss_one (ps_expr (pe_ownM G_Lots_unite (hr.mono (by decide)) (pe_fldK (K := K) (pv 0) rfl) (pa_cons (pv 1) (pa_cons (pv 2) pa_nil)) pass0))))), ?_⟩
    obtain ⟨dx, me, hv, kd, ob⟩ := id ho
    obtain ⟨h, m, w', ma, wa, oi⟩ := id lo
    obtain ⟨dxl, lob⟩ := oi.ob
    have eJ : Ex (join D L) H1 := join_ex eD eL
    have jL : Ex L (join D L) := ex_r dj
    have hoJ : HandO C (join D L) a l := ⟨dx, me, hv, kd, ex_l _ _ ob⟩
    have c0 : isCard (headsV (g + 1)).length (.int 0) = true := by
      rw [headsV_len]
      simp [isCard]
    have cg : isCard (headsV (g + 1)).length (.int (g : Int)) = true := by
      rw [headsV_len]
      simp only [isCard, Bool.and_eq_true, decide_eq_true_eq]
      omega
    refine ⟨_, rfl, a, dx, _, rfl, eD _ _ ob, rfl, _, rfl, join D L, a, l, h, m, w', headsV (g + 1), _, .int 0, rfl, eJ, hoJ, oi.lotO.ex jL, (by rw [headsV_len]; exact hn), .int _, fun hc H2 e2 => ?_, fun hc => by rw [c0] at hc; cases hc⟩
    refine ⟨_, rfl, a, dx, _, rfl, e2 _ _ (eD _ _ ob), rfl, _, rfl, join D L, a, l, h, m, w', headsV (g + 1), _, .int (g : Int), rfl, eJ.trans e2, hoJ, oi.lotO.ex jL, (by rw [headsV_len]; exact hn), .int _, fun hc H3 e3 => ?_, fun hc => by rw [cg] at hc; cases hc⟩
    have e13 := e2.trans e3
    exact ⟨_, rfl, a, C, dx, _, _, rfl, e13 _ _ (eD _ _ ob), T.cl, T.n3, rfl, l, dxl, _, rfl, e13 _ _ (eL _ _ lob), rfl, _, rfl, _, rfl, L, l, g + 1, g, wk, ks, rfl, eL.trans e13, lo, rfl, hg, hn, hks, h0, hgl, fun L' H' mv lu => q L' H' ((Mv.old eL e13).trans mv) lu⟩
abbrev s_Hand_file : Stmt := inClass (topS 46) 6
theorem sc_Hand_file : FnScope ["self"] ["self"] (defScope s_Hand_file) := ⟨rfl, rfl, rfl, by decide +kernel, rfl, by decide +kernel, by decide +kernel⟩
theorem ok_Hand_file (T : THand K C) (G_Lots_listed : OwnM P w K mg base 1 CL "listed" ["self"] (spListed K CL)) {f : Addr} {fd : FuncData} (F : Fun K "file" "Hand.file" s_Hand_file f fd) : FnOk P w K mg base CX0 2 f fd ["self"] (spFile K C CL) := by
  refine F.ok sc_Hand_file (fun vs H Q E h => ?_) (fun cdv A outer s H1 vs Q E hr h => ?_)
  · obtain ⟨L, a, l, n, wk, rfl, _⟩ := h
    rfl
  obtain ⟨L, a, l, n, wk, rfl, e, ⟨dx, me, hv, kd, ob⟩, lo, hn, hk, q⟩ := h
  obtain ⟨h, m, w', ma, wa, oi⟩ := id lo
  obtain ⟨dxl, lob⟩ := oi.ob
  refine ⟨_, (pss_one (ps_ret (pe_ownM0 G_Lots_listed (hr.mono (by decide)) (pe_fldK (K := K) (pv 0) rfl) pass0))), ?_⟩
  exact ⟨_, rfl, a, C, dx, _, _, rfl, e _ _ ob, T.cl, T.n3, rfl, l, dxl, _, rfl, e _ _ lob, rfl, L, l, n, wk, rfl, e, lo, hn, hk, q⟩
end
end Sg
end
section
set_option maxRecDepth 100000
set_option maxHeartbeats 4000000
/-! A hand by itself: what it keeps, names. -/
namespace Sg
open PySem PySem.Spec PyProof.Rows L2 Evl
/-- two fors, the inner one of nothing -/
theorem ed_lc2i {K : PySem.W.Frag} {σ : L2.St} {B : Hp} {β : Type} {wi wi1 : TI} {g g1 : TG} {tt tt1 : TT} {te : TE} {vs vs1 : List Nat} {P : Hp → Nat → V → Prop} {P1 : Hp → Nat → V → Prop} (ys : List β) (pf : β → Bool) (hwi : WiD wi σ B ys.length P)
    (hg : ∀ (i : Nat) (x : V) (y : β) N, Ex B N → ys[i]? = some y → P N i x → ∃ σ2 : L2.St, wipe σ2 vs = wipe σ vs ∧ (∀ H2, Ex N H2 → ∀ R : L2.St → Hp → Prop, R σ2 H2 → g x (wipe σ vs) H2 R) ∧ EvT tt σ2 N (pf y) ∧ (pf y = true → WiD wi1 σ2 N 0 P1)) :
    EvD K (tLc2 wi g tt wi1 g1 tt1 te vs vs1) σ B (.list []) := fun H0 e Q q => hwi H0 e _ fun J N1 H1 G F D hD => by
  have hD1 : N1 D = none := fresh_back G.sub hD
  refine ⟨fun i m H' => m = ys.length - i ∧ i ≤ ys.length ∧ ∃ B2, Gr N1 H1 B2 H' ∧ B2 D = none ∧ H' D = some (.lst []), ⟨ys.length, by simp, Nat.zero_le _, N1, .old G.sub (Ex.new hD), hD1, upd_same⟩, ?_⟩
  rintro i m H' ⟨rfl, hi, B2, c1, c2, c3⟩
  by_cases lt : i < ys.length
  · refine .inr ⟨F.go H' (c1.bas.trans c1.sub) i lt, fun H2 => ∃ B3, Gr N1 H1 B3 H2 ∧ B3 D = none ∧ H2 D = some (.lst []), fun H2 z => ⟨ys.length - (i + 1), by omega, rfl, lt, z⟩, fun x H2 y => ?_⟩
    obtain ⟨B3, f, px⟩ := F.yld B2 H' i x H2 c1.bas c1.sub lt y
    have d1 := c1.trans f
    have d2 : B3 D = none := f.new D c2 (by rw [c3]; simp)
    have d3 : H2 D = some (.lst []) := f.act _ _ c3
    have ey : ys[i]? = some ys[i] := List.getElem?_eq_getElem lt
    obtain ⟨σ2, w2, gg, ht, hw⟩ := hg i x ys[i] B3 (G.bas.trans d1.bas) ey px
    refine gg _ d1.sub _ ⟨w2, ?_⟩
    refine ht H2 d1.sub _ fun H3 e3 => ?_
    cases hf : pf ys[i] with
    | false => exact ⟨B3, d1.trans (.old d1.sub e3), d2, e3 _ _ d3⟩
    | true =>
      refine hw hf H3 (d1.sub.trans e3) _ fun J1 N4 H4 g4 F4 => ?_
      refine ⟨fun j k H => j = 0 ∧ H = H4, ⟨0, rfl, rfl⟩, ?_⟩
      rintro j k H ⟨rfl, rfl⟩
      exact .inl ⟨F4.stop _ g4.sub, N4, (d1.trans (.old d1.sub e3)).trans g4, g4.new D d2 (by rw [e3 _ _ d3]; simp), g4.act _ _ (e3 _ _ d3)⟩
  · have ei : i = ys.length := by omega
    subst ei
    refine .inl ⟨F.stop H' (c1.bas.trans c1.sub), q _ (upd B2 D (.lst [])) H' (G.trans ⟨c1.act, c1.bas.trans (Ex.new c2), fun b u hb => ?_, fun b h1 h2 => ?_⟩) (.lst upd_same .nil)⟩
    · by_cases eb : b = D
      · subst eb
        rw [upd_same] at hb
        rw [c3]
        exact hb
      · rw [upd_ne eb] at hb
        exact c1.sub b u hb
    · have eb : b ≠ D := fun z => h2 (z ▸ hD)
      rw [upd_ne eb]
      exact c1.new b h1 h2
theorem d_retT {K : PySem.W.Frag} {te : TE} {D : Ends} {σ : L2.St} {B H1 : Hp} {ds : List PyData} (h : EvTn K te σ B ds) (a : Ex B H1) (k : ∀ p xs N H2, H1 p = none → Gr B H1 N H2 → N p = some (.tup xs) → DaAll K N xs ds → D.rt (.ref p) H2) : tRet te D σ H1 := h H1 a _ k
def spKept (K : PySem.W.Frag) (C CK CN : Addr) : Sp := fun vs H1 Q E => ∃ D a l me hv kd kvs hs v d, vs = [.ref a, v] ∧ Ex D H1 ∧ HandK K C D a l me hv kd kvs hs ∧ Da K D v d ∧ OkD d ∧
  (isOther me hs d = false → ∀ H2, Ex H1 H2 → E (.ref CN) none H2) ∧ (isOther me hs d = true → ∃ o p wr b, d = .str o ∧ valV kvs (.inr o) = some (.ref p) ∧ KeepAt CK D p me o wr b ∧ ∀ (z : Nat) H2, z ≤ b → Ex H1 H2 → Q (.int (z : Int)) H2)
/-- refused -/
def spGroundX (K : PySem.W.Frag) (C CN : Addr) : Sp := fun vs H1 Q E => ∃ D a l me hv kd kvs hs v d, vs = [.ref a, v] ∧ Ex D H1 ∧ HandK K C D a l me hv kd kvs hs ∧ Da K D v d ∧ OkD d ∧ isOther me hs d = false ∧ ∀ H2, Ex H1 H2 → E (.ref CN) none H2
def spNames (K : PySem.W.Frag) (C CK : Addr) : Sp := fun vs H1 Q _ => ∃ D a l me hv kd kvs hss, vs = [.ref a] ∧ Ex D H1 ∧ HandK K C D a l me hv kd kvs ((hss : List Str).map .str) ∧ hss.length ≤ 5 ∧ (∀ o ∈ hss, SeqAt.shaped (.str o) = true ∧ (PyData.eqv (.str o) (.str me) = false → ∃ p wr b, valV kvs (.inr o) = some (.ref p) ∧ KeepAt CK D p me o wr b ∧ TwoH me o)) ∧ ∀ p H2, H1 p = none → Ex H1 H2 → H2 p = some (.tup []) → Q (.ref p) H2
section
variable {P : Program} {w : World} {K : PySem.W.Frag} {mg : Str → Option Value} {base : Heap} {C CL CK : Addr} {C_NoCard C_NoWords C_NoHand C_NoLines C_NoHands : Addr}
abbrev s_Hand_kept : Stmt := inClass (topS 46) 8
theorem sc_Hand_kept : FnScope ["self", "other"] ["self", "other"] (defScope s_Hand_kept) := ⟨rfl, rfl, rfl, by decide +kernel, rfl, by decide +kernel, by decide +kernel⟩
theorem ok_Hand_kept (M : MgO mg) (TK : TKeep K CK) (G_Hand_keeping : OwnX P w K mg base 1 C "keeping" ["self", "other"] (spKeeping K C C_NoHand)) {f : Addr} {fd : FuncData} (F : Fun K "kept" "Hand.kept" s_Hand_kept f fd) : FnOk P w K mg base (L2.CX P w) 2 f fd ["self", "other"] (spKept K C CK C_NoHand) := by
  refine F.okX sc_Hand_kept (fun vs H Q E h => ?_) (fun cdv A outer s H1 vs Q E hr h => ?_)
  · obtain ⟨D, a, l, me, hv, kd, kvs, hs, v, d, rfl, _⟩ := h
    rfl
  obtain ⟨D, a, l, me, hv, kd, kvs, hs, v, d, rfl, e, o, hd, okd, q1, q2⟩ := h
  obtain ⟨dx, ob⟩ := o.ob
  refine ⟨_, (pss_one (ps_ret (pe_callB call_len_dT (by rfl) M.m_len boot_len (pa_cons (pe_fldK (K := K) (pe_ownMS G_Hand_keeping (hr.mono (by decide)) (pv 0) (pa_cons (pv 1) pa_nil) (fun σ => passAt (takes_of rfl rfl rfl rfl) σ)) rfl) pa_nil)))), ?_⟩
  refine ⟨_, rfl, a, dx, _, rfl, e _ _ ob, rfl, _, rfl, D, a, l, me, hv, kd, kvs, hs, _, d, rfl, e, o, hd, okd, fun hn H2 e2 => q1 hn H2 e2, fun hi => ?_⟩
  obtain ⟨on, p, wr, b, ed, hp, ⟨l2, s2, c2, t2, cnt, sd, cd, sh, oi, z1, z2, z3⟩, q⟩ := q2 hi
  refine ⟨on, p, ed, hp, fun H2 e2 => ?_⟩
  obtain ⟨dxk, obk⟩ := oi.ob
  have e3 := e.trans e2
  exact ⟨p, CK, dxk, _, _, rfl, e3 _ _ obk, TK.cl, TK.n9, rfl, t2, sh, rfl, e3 _ _ oi.st, q sh.length H2 z3 e2⟩
abbrev s_Hand_ground : Stmt := inClass (topS 46) 7
theorem sc_Hand_ground : FnScope ["self", "other", "keeping", "places", "words"] ["self", "other"] (defScope s_Hand_ground) := ⟨rfl, rfl, rfl, by decide +kernel, rfl, by decide +kernel, by decide +kernel⟩
theorem ok_Hand_ground (G_Hand_keeping : OwnX P w K mg base 1 C "keeping" ["self", "other"] (spKeeping K C C_NoHand)) {f : Addr} {fd : FuncData} (F : Fun K "ground" "Hand.ground" s_Hand_ground f fd) : FnOk P w K mg base (L2.CX P w) 2 f fd ["self", "other"] (spGroundX K C C_NoHand) := by
  refine F.okX sc_Hand_ground (fun vs H Q E h => ?_) (fun cdv A outer s H1 vs Q E hr h => ?_)
  · obtain ⟨D, a, l, me, hv, kd, kvs, hs, v, d, rfl, _⟩ := h
    rfl
  obtain ⟨D, a, l, me, hv, kd, kvs, hs, v, d, rfl, e, o, hd, okd, hn, q⟩ := h
  obtain ⟨dx, ob⟩ := o.ob
  refine ⟨_, (pss_cons (ps_set (i := 2) sc_Hand_ground.nd rfl (by first | exact Or.inl rfl | exact Or.inr rfl) (pe_ownMS G_Hand_keeping (hr.mono (by decide)) (pv 0) (pa_cons (pv 1) pa_nil) (fun σ => passAt (takes_of rfl rfl rfl rfl) σ)))
      (pss_one (ps_ret pe_never))), ?_⟩
  exact ⟨_, rfl, a, dx, _, rfl, e _ _ ob, rfl, _, rfl, D, a, l, me, hv, kd, kvs, hs, _, d, rfl, e, o, hd, okd, fun _ H2 e2 => q H2 e2, fun hi => by rw [hn] at hi; cases hi⟩
abbrev s_Hand_names : Stmt := inClass (topS 46) 13
theorem sc_Hand_names : FnScope ["self", "read", "other", "number"] ["self"] (defScope s_Hand_names) := ⟨rfl, rfl, rfl, by decide +kernel, rfl, by decide +kernel, by decide +kernel⟩
theorem ok_Hand_names (M : MgO mg) (T : THand K C) (G_Keeping_read_numbers : OwnM P w K mg base 2 CK "read_numbers" ["self"] (spK0 K CK 1 preN)) {f : Addr} {fd : FuncData} (F : Fun K "names" "Hand.names" s_Hand_names f fd) : FnOk P w K mg base CX0 3 f fd ["self"] (spNames K C CK) := by
  refine F.ok sc_Hand_names (fun vs H Q E h => ?_) (fun cdv A outer s H1 vs Q E hr h => ?_)
  · obtain ⟨D, a, l, me, hv, kd, kvs, hss, rfl, _⟩ := h
    rfl
  obtain ⟨D, a, l, me, hv, kd, kvs, hss, rfl, e, o, hl, hk, q⟩ := h
  obtain ⟨dx, ob⟩ := o.ob
  refine ⟨_, (pss_cons (ps_setLc2 (i := 1) (own := [("other", 2), ("number", 3)]) (vs1 := [3]) rfl sc_Hand_names.nd rfl rfl (sw_true rfl rfl rfl (by decide +kernel)) (pi_tupK (K := K) (pe_fldK (K := K) (pv 0) rfl)) (blkOk_by (N := ["self", "read", "other", "number"]) (sc := defScope s_Hand_names) (by decide +kernel)) (by decide) (fun _ _ _ _ _ => (pg_name (i := 2) sc_Hand_names.nd rfl (by first | exact Or.inl rfl | exact Or.inr rfl))) (fun _ _ _ _ _ => pts_one (pt_cmpR (op_neDK (K := K) hr.units) (pv 2) (pe_fldK (K := K) (pv 0) rfl) (nomark _))) (fun _ _ _ _ _ => (pi_listK (K := K) (pe_ownM0 G_Keeping_read_numbers (hr.mono (by decide)) (pe_dget (units1 hr) (pe_fldK (K := K) (pv 0) rfl) (pv 2) (fun _ _ => rfl)) pass0))) (fun _ _ _ _ _ => (pg_name (i := 3) sc_Hand_names.nd rfl (by first | exact Or.inl rfl | exact Or.inr rfl))) (fun _ _ _ _ _ => pts_nil) (fun _ _ _ _ _ => (pe_tup (pa_cons (pv 2) (pa_cons (pv 3) pa_nil)))))
      (pss_one (ps_ret (pe_callTy (cr_tupOf (K := K)) (by rfl) M.m_tuple (by decide +kernel) (pa_cons (pv 1) pa_nil))))), ?_⟩
  refine d_asg (K := K) (H := D) (d := .list []) (ed_lc2i (P1 := PD K []) hss (fun o => !PyData.eqv (.str o) (.str me)) (wd_tupM (f := PyData.str) (ed_of (ev_fld (ev_var rfl) ob T.cl T.n2 rfl) o.hh)) fun i x y N e1 hy hx => ?_) e fun v N H2 g hv => ?_
  · have hxs : Da K N x (.str y) := pd_map hy hx
    cases hxs
    have hky := hk y (List.mem_of_getElem? hy)
    refine ⟨[some (.ref a), none, some (.str y), none], rfl, fun _ _ _ r => r, et_test (ev_neD (K := K) (d := .str y) (e := .str me) (ed_var rfl (.str _)) (fun N2 a2 => ed_of (ev_fld (ev_var rfl) (a2 _ _ (e1 _ _ ob)) T.cl T.n1 rfl) (.str _)) hky.1 o.sm), fun hp => ?_⟩
    have hne : PyData.eqv (.str y) (.str me) = false := by simpa using hp
    obtain ⟨p, wr, b, k1, k2, k3⟩ := hky.2 hne
    obtain ⟨l2, s2, c2, t2, cnt, sd, cd, sh, oi, _⟩ := id k2
    obtain ⟨dxk, obk⟩ := oi.ob
    refine wd_lst (ds := []) (ed_meth (ev_dget (k := .inr y) (ev_fld (ev_var rfl) (e1 _ _ ob) T.cl T.n4 rfl) (ev_var rfl) (e1 _ _ o.ko) k1) (e1 _ _ obk) rfl eds_nil fun vs N2 H3 a2 b2 hvs Q q' => ?_)
    cases hvs
    exact ⟨N2, p, me, y, wr, b, b2, k2.ex (e1.trans a2), k3, rfl, rfl, trivial, q'⟩
  · refine d_retT (K := K) (B := N) (ds := []) (et_tupL (ed_var rfl hv)) g.sub fun p xs N2 H3 hp g2 hN hd => ?_
    cases hd
    exact q p H3 (fresh_back g.act hp) (g.act.trans g2.act) (g2.sub _ _ hN)
end
end Sg
end
section
set_option maxRecDepth 100000
set_option maxHeartbeats 4000000
/-! A hand by itself: what it writes. -/
namespace Sg
open PySem PySem.Spec PyProof.Rows L2 Evl
/-- lines read back -/
def strOf : PyData → Str
  | .str s => s
  | _ => Str.empty
def lineOf : PyData → Int × List Str
  | .tuple [.int i, .tuple ws] => (i, ws.map strOf)
  | _ => (0, [])
def linesOf : PyData → List (Int × List Str)
  | .tuple ls => ls.map lineOf
  | _ => []
theorem words_back : ∀ {ws : List PyData}, ws.all isWord = true → (ws.map strOf).map PyData.str = ws
  | [], _ => rfl
  | x :: r, h => by
    have h' : (isWord x && r.all isWord) = true := h
    rw [Bool.and_eq_true] at h'
    obtain ⟨s, rfl⟩ := isWord_str h'.1
    have ih := words_back h'.2
    show PyData.str s :: (r.map strOf).map PyData.str = _
    rw [ih]
theorem line_back {d : PyData} (h : isLine d = true) : lineD (lineOf d) = d ∧ 0 ≤ (lineOf d).1 := by
  cases d with
  | tuple l =>
    match l, h with
    | [a, b], h =>
      have h' : (isWhole a 0 && isWords b) = true := h
      rw [Bool.and_eq_true] at h'
      cases a with
      | int i =>
        cases b with
        | tuple ws =>
          have h2 : (ws.all isWord && pairsB ltD ws) = true := h'.2
          rw [Bool.and_eq_true] at h2
          refine ⟨?_, ?_⟩
          · show PyData.tuple [.int i, .tuple ((ws.map strOf).map PyData.str)] = _
            rw [words_back h2.1]
          · have : decide ((0 : Int) ≤ i) = true := h'.1
            exact of_decide_eq_true this
        | _ => exact absurd h'.2 (by simp [isWords])
      | _ => exact absurd h'.1 (by simp [isWhole])
    | [], h => cases h
    | [_], h => cases h
    | _ :: _ :: _ :: _, h => cases h
  | _ => cases h
theorem lines_back {d : PyData} (h : areLines d = true) : linesD (linesOf d) = d ∧ ∀ l ∈ linesOf d, 0 ≤ l.1 := by
  cases d with
  | tuple ls =>
    have h' : ls.all isLine = true := h
    refine ⟨?_, fun l hl => ?_⟩
    · show PyData.tuple ((ls.map lineOf).map lineD) = _
      rw [List.map_map]
      congr 1
      conv => rhs; rw [← List.map_id ls]
      exact List.map_congr_left fun x hx => (line_back (List.all_eq_true.mp h' x hx)).1
    · obtain ⟨x, hx, rfl⟩ := List.mem_map.mp hl
      exact (line_back (List.all_eq_true.mp h' x hx)).2
  | _ => cases h
/-- what keeps a letter from being written: 0 a hand that is none, 1 no lines, 2 a card that isn't there, 3 nothing -/
def writeX (me : Str) (hs : List PyData) (n : Nat) (hf : Int → Int) (kn : Int → List (Key × V)) (d1 d2 : PyData) : Nat :=
  if isOther me hs d1 = false then 0
  else if areLines d2 = false then 1
  else if (linesOf d2).all (fun l => decide (l.1 < (n : Int))) = false then 2
  else if mayB hf kn (linesOf d2) = false then 1
  else 3
/-- places read -/
def PlacesR (L : Hp) (w : Addr) (xs : List V) (hf : Int → Int) (kn : Int → List (Key × V)) : Prop := ∀ i : Int, 0 ≤ i → i < (xs.length : Int) → atI xs i = some (.int (hf i)) ∧ LotW L w xs i (kn i)
theorem LotW.ex {L L' : Hp} {w : Addr} {xs : List V} {i : Int} {kv : List (Key × V)} (o : LotW L w xs i kv) (e : Ex L L') : LotW L' w xs i kv := by
  obtain ⟨j, kvs, p, h1, h2, h3, h4⟩ := o
  exact ⟨j, kvs, p, h1, e _ _ h2, h3, e _ _ h4⟩
def spWriteX (K : PySem.W.Frag) (C CL CH CN CC : Addr) : Sp := fun vs H1 Q E => ∃ D a l me hv kd kvs hs h m w xs hf kn v1 v2 d1 d2, vs = [.ref a, v1, v2] ∧ Ex D H1 ∧ HandK K C D a l me hv kd kvs hs ∧ (∀ o, isOther me hs (.str o) = true → ∃ p, valV kvs (.inr o) = some (.ref p)) ∧ (∀ d, isOther me hs d = true → ∃ o, d = .str o) ∧ LotO CL D l h m w xs ∧ xs.length ≤ 1000 ∧ PlacesR D w xs hf kn ∧ Da K D v1 d1 ∧ Da K D v2 d2 ∧ OkD d1 ∧ OkD d2 ∧ (linesOf d2).length ≤ 1000 ∧
  ((writeX me hs xs.length hf kn d1 d2 = 0 ∧ ∀ H2, Ex H1 H2 → E (.ref CH) none H2) ∨ (writeX me hs xs.length hf kn d1 d2 = 1 ∧ ∀ H2, Ex H1 H2 → E (.ref CN) none H2) ∨ (writeX me hs xs.length hf kn d1 d2 = 2 ∧ ∀ H2, Ex H1 H2 → E (.ref CC) none H2))
theorem Ex.nn {H H' : Hp} (e : Ex H H') {x : Addr} (h : H x ≠ none) : H' x ≠ none := fun z => h (fresh_back e z)
theorem ne_nn {H : Hp} {x p : Addr} (h : H x ≠ none) (g : H p = none) : x ≠ p := fun z => h (z ▸ g)
theorem upd_nn {H : Hp} {p x : Addr} {o : HO} (h : H x ≠ none) : upd H p o x ≠ none := fun z => h (upd_none z).2
/-- a new list -/
def EvLn (K : PySem.W.Frag) (te : TE) (σ : L2.St) (B : Hp) (ds : List PyData) : Prop := ∀ H1, Ex B H1 → ∀ Q : VK, (∀ p xs N H2, H1 p = none → Gr B H1 N H2 → N p = some (.lst xs) → DaAll K N xs ds → Q (.ref p) H2) → te σ H1 Q
theorem el_lc0 {K : PySem.W.Frag} {σ : L2.St} {B : Hp} {wi : TI} {g : TG} {tt : TT} {te : TE} {vs : List Nat} {P : Hp → Nat → V → Prop} (hwi : WiD wi σ B 0 P) : EvLn K (tLc wi g tt te vs) σ B [] := fun H0 e Q q => hwi H0 e _ fun J N H1 G F D hD => by
  refine ⟨fun i m H' => i = 0 ∧ H' = upd H1 D (.lst []), ⟨0, rfl, rfl⟩, ?_⟩
  rintro i m H' ⟨rfl, rfl⟩
  exact .inl ⟨F.stop _ (G.sub.trans (Ex.new hD)), q _ [] _ _ (fresh_back G.act hD) (G.trans (.alloc G.sub hD)) upd_same .nil⟩
theorem d_asgL {K : PySem.W.Frag} {i : Nat} {te : TE} {tz : TS} {D : Ends} {σ : L2.St} {B H1 : Hp} {ds : List PyData} (h : EvLn K te σ B ds) (a : Ex B H1) (k : ∀ p xs N H2, H1 p = none → Gr B H1 N H2 → N p = some (.lst xs) → DaAll K N xs ds → tz D (σ.set i (some (.ref p))) H2) : tSeq (tAsg te (gName i)) tz D σ H1 := h H1 a _ k
theorem ta_consD {K : PySem.W.Frag} {te : TE} {tr : TA} {σ : L2.St} {B H1 : Hp} {d : PyData} {Q : List V → Hp → Prop} (h : EvD K te σ B d) (a : Ex B H1) (k : ∀ v N H2, Gr B H1 N H2 → Da K N v d → tr σ H2 fun xs H3 => Q (v :: xs) H3) : tCons te tr σ H1 Q := h H1 a _ k
section
variable {P : Program} {w : World} {K : PySem.W.Frag} {mg : Str → Option Value} {base : Heap} {C CL CK CS : Addr} {C_NoCard C_NoWords C_NoHand C_NoLines C_NoHands : Addr}
abbrev s_Hand_write : Stmt := inClass (topS 46) 4
theorem sc_Hand_write : FnScope ["self", "to", "lines", "keeping", "file", "lots", "told", "names", "sheet", "places", "words", "card", "line"] ["self", "to", "lines"] (defScope s_Hand_write) := ⟨rfl, rfl, rfl, by decide +kernel, rfl, by decide +kernel, by decide +kernel⟩
/-- what a writing hand wants, where it may write -/
def spWriteOk (K : PySem.W.Frag) (C CL CK : Addr) : Sp := fun vs H1 Q _ => ∃ D Lk a l me hv kd kvs hss h m w xs hf kn o p wr b v1 v2 ls, vs = [.ref a, v1, v2] ∧ Ex D H1 ∧ Ex Lk H1 ∧ Dj D Lk ∧ HandK K C D a l me hv kd kvs ((hss : List Str).map .str) ∧ hss.length ≤ 5 ∧ LotO CL D l h m w xs ∧ xs.length ≤ 1000 ∧ PlacesR D w xs hf kn ∧
  v1 = .str o ∧ OkD (.str o) ∧ isOther me (hss.map .str) (.str o) = true ∧ valV kvs (.inr o) = some (.ref p) ∧ KeepAt CK Lk p me o wr b ∧ TwoH me o ∧ b ≤ 1000 ∧
  (∀ o' ∈ hss, SeqAt.shaped (.str o') = true ∧ (PyData.eqv (.str o') (.str me) = false → o' = o ∨ ∃ p' wr' b', valV kvs (.inr o') = some (.ref p') ∧ KeepAt CK D p' me o' wr' b' ∧ TwoH me o')) ∧
  Da K D v2 (linesD ls) ∧ OkD (linesD ls) ∧ areLines (linesD ls) = true ∧ (∀ l ∈ ls, 0 ≤ l.1 ∧ l.1 < (xs.length : Int)) ∧ ls.length ≤ 1000 ∧ mayB hf kn ls = true ∧
  ∀ v L' N H', Mv Lk H1 L' H' → KeepAt CK L' p me o (wr + 1) (b + 2 * ls.length + 1) → Ex D N → Ex N H' → Dj N L' → (∀ x, D x = none → Lk x = none → H1 x ≠ none → N x = none) → Da K N v (.tuple [.str me, .str o, .int (wr + 1), .tuple [], .tuple (ls.map fun l => .tuple [.none, wordsD l.2])]) → Q v H'
theorem ok_Hand_write (M : MgO mg) (T : THand K C) (TK : TKeep K CK) (G_Hand_keeping : OwnX P w K mg base 1 C "keeping" ["self", "other"] (spKeeping K C C_NoHand)) (G_are_lines : Own P w K mg base 4 "are_lines" ["thing"] [] (spOf1 K areLines))
    (G_Lots_has_all : OwnM P w K mg base 2 CL "has_all" ["self", "lines"] (spHasAll K CL)) (G_Lots_may_stand : OwnM P w K mg base 2 CL "may_stand" ["self", "lines"] (spMay K CL)) (G_Lots_head : OwnM P w K mg base 1 CL "head" ["self", "place"] (spHead CL))
    (G_Keeping_own_ground : OwnM P w K mg base 3 CK "own_ground" ["self"] (spK0 K CK 1 preN)) (G_Keeping_file : OwnM P w K mg base 4 CK "file" ["self", "keys"] (spK0 K CK 2 fun vs L => ∃ v, vs = [v] ∧ Da K L v (.list [])))
    (G_name_in : Own P w K mg base 3 "name_in" ["lots", "held"] [] (fun vs H1 Q _ => ∃ L v1 v2, vs = [v1, v2] ∧ Ex L H1 ∧ Da K L v1 (.list []) ∧ ∀ N H2, Gr L H1 N H2 → Q .non H2))
    (G_Hand_names : OwnM P w K mg base 3 C "names" ["self"] (spNames K C CK)) (G_Keeping_next_sheet : OwnM P w K mg base 3 CK "next_sheet" ["self", "names", "descriptions", "lots"] (spNext K CK CS))
    (G_Keeping_keep : OwnM P w K mg base 1 CK "keep" ["self", "key", "sheet", "said"] (spKeep K CK CS)) (G_Keeping_give_cards : OwnM P w K mg base 1 CK "give_cards" ["self", "sheet", "cards"] (spGive K CK CS))
    (G_NoLines : Err0 K mg C_NoLines "NoLines") (G_NoCard : Err0 K mg C_NoCard "NoCard") {f : Addr} {fd : FuncData} (F : Fun K "write" "Hand.write" s_Hand_write f fd) : FnOk P w K mg base (L2.CX P w) 5 f fd ["self", "to", "lines"] (fun vs H Q E => spWriteX K C CL C_NoHand C_NoLines C_NoCard vs H Q E ∨ spWriteOk K C CL CK vs H Q E) := by
  refine F.okX sc_Hand_write (fun vs H Q E h => ?_) (fun cdv A outer s H1 vs Q E hr h => ?_)
  · rcases h with ⟨D, a, l, me, hv, kd, kvs, hs, h, m, w, xs, hf, kn, v1, v2, d1, d2, rfl, _⟩ | ⟨D, Lk, a, l, me, hv, kd, kvs, hss, h, m, w, xs, hf, kn, o, p, wr, b, v1, v2, ls, rfl, _⟩ <;> rfl
  rcases h with ⟨D, a, l, me, hv, kd, kvs, hs, h, m, w', xs, hf, kn, v1, v2, d1, d2, rfl, e, o, hkv, hst, lo, hx, hpl, hd1, hd2, ok1, ok2, hz, q⟩ | hok
  · obtain ⟨dx, ob⟩ := o.ob
    obtain ⟨⟨dxl, lob⟩, lhd⟩ := id lo
    refine ⟨_, (pss_cons (ps_set (i := 3) sc_Hand_write.nd rfl (by first | exact Or.inl rfl | exact Or.inr rfl) (pe_ownMS G_Hand_keeping (hr.mono (by decide)) (pv 0) (pa_cons (pv 1) pa_nil) (fun σ => passAt (takes_of rfl rfl rfl rfl) σ)))
      (pss_cons (ps_if (pt_not (pt_val (pe_own G_are_lines (hr.mono (by decide)) (pa_cons (pv 2) pa_nil) pass0))) (pss_one (ps_raise rfl (takes_of rfl rfl rfl rfl) (pmk_err0 G_NoLines))) pss_nil)
      (pss_cons (ps_if (pt_not (pt_val (pe_ownM G_Lots_has_all (hr.mono (by decide)) (pe_fldK (K := K) (pv 0) rfl) (pa_cons (pv 2) pa_nil) pass0))) (pss_one (ps_raise rfl (takes_of rfl rfl rfl rfl) (pmk_err0 G_NoCard))) pss_nil)
      (pss_cons (ps_if (pt_not (pt_val (pe_ownM G_Lots_may_stand (hr.mono (by decide)) (pe_fldK (K := K) (pv 0) rfl) (pa_cons (pv 2) pa_nil) pass0))) (pss_one (ps_raise rfl (takes_of rfl rfl rfl rfl) (pmk_err0 G_NoLines))) pss_nil)
      (pss_cons (ps_set (i := 4) sc_Hand_write.nd rfl (by first | exact Or.inl rfl | exact Or.inr rfl) (pe_ownM G_Keeping_file (hr.mono (by decide)) (pv 3) (pa_cons (pe_ownM0 G_Keeping_own_ground (hr.mono (by decide)) (pv 3) pass0) pa_nil) pass0))
      (pss_cons (ps_set (i := 5) sc_Hand_write.nd rfl (by first | exact Or.inl rfl | exact Or.inr rfl) (pe_lc (own := [("places", 9), ("words", 10)]) rfl sc_Hand_write.nd (pi_listK (K := K) (pv 4)) (blkOk_by (N := ["self", "to", "lines", "keeping", "file", "lots", "told", "names", "sheet", "places", "words", "card", "line"]) (sc := defScope s_Hand_write) (by decide +kernel)) (fun _ _ _ _ _ => (pg_tupK (K := K) (n := 2) rfl (pgs_cons (pg_name (i := 9) sc_Hand_write.nd rfl (by first | exact Or.inl rfl | exact Or.inr rfl)) (pgs_cons (pg_name (i := 10) sc_Hand_write.nd rfl (by first | exact Or.inl rfl | exact Or.inr rfl)) pgs_nil)))) (fun _ _ _ _ _ => pts_nil) (fun _ _ _ _ _ => (pe_tup (pa_cons pe_never (pa_cons (pv 10) pa_nil))))))
      (pss_cons (ps_set (i := 6) sc_Hand_write.nd rfl (by first | exact Or.inl rfl | exact Or.inr rfl) (pe_callTy (cr_tupOf (K := K)) (by rfl) M.m_tuple (by decide +kernel) (pa_cons (pe_lc (own := [("card", 11), ("words", 10)]) rfl sc_Hand_write.nd (pi_tupK (K := K) (pv 2)) (blkOk_by (N := ["self", "to", "lines", "keeping", "file", "lots", "told", "names", "sheet", "places", "words", "card", "line"]) (sc := defScope s_Hand_write) (by decide +kernel)) (fun _ _ _ _ _ => (pg_tupK (K := K) (n := 2) rfl (pgs_cons (pg_name (i := 11) sc_Hand_write.nd rfl (by first | exact Or.inl rfl | exact Or.inr rfl)) (pgs_cons (pg_name (i := 10) sc_Hand_write.nd rfl (by first | exact Or.inl rfl | exact Or.inr rfl)) pgs_nil)))) (fun _ _ _ _ _ => pts_nil) (fun _ _ _ _ _ => (pe_tup (pa_cons (pe_own G_name_in (hr.mono (by decide)) (pa_cons (pv 5) (pa_cons (pe_ownM G_Lots_head (hr.mono (by decide)) (pe_fldK (K := K) (pv 0) rfl) (pa_cons (pv 11) pa_nil) pass0) pa_nil)) pass0) (pa_cons (pv 10) pa_nil))))) pa_nil)))
      (pss_cons (ps_set (i := 7) sc_Hand_write.nd rfl (by first | exact Or.inl rfl | exact Or.inr rfl) (pe_ownM0 G_Hand_names (hr.mono (by decide)) (pv 0) pass0))
      (pss_cons (ps_set (i := 8) sc_Hand_write.nd rfl (by first | exact Or.inl rfl | exact Or.inr rfl) (pe_ownM G_Keeping_next_sheet (hr.mono (by decide)) (pv 3) (pa_cons (pv 7) (pa_cons (pe_callTy (cr_tupOf (K := K)) (by rfl) M.m_tuple (by decide +kernel) (pa_cons (pe_lc (own := [("line", 12)]) rfl sc_Hand_write.nd (pi_tupK (K := K) (pv 6)) (blkOk_by (N := ["self", "to", "lines", "keeping", "file", "lots", "told", "names", "sheet", "places", "words", "card", "line"]) (sc := defScope s_Hand_write) (by decide +kernel)) (fun _ _ _ _ _ => (pg_name (i := 12) sc_Hand_write.nd rfl (by first | exact Or.inl rfl | exact Or.inr rfl))) (fun _ _ _ _ _ => pts_nil) (fun _ _ _ _ _ => (pe_ix (ix_tupK (K := K)) (pv 12) pe_int (fun _ _ => rfl)))) pa_nil)) (pa_cons (pv 4) pa_nil))) pass0))
      (pss_cons (ps_fldaug (pv 3) pe_int in_add)
      (pss_cons (ps_expr (pe_ownM G_Keeping_keep (hr.mono (by decide)) (pv 3) (pa_cons (pe_tup (pa_cons (pe_fldK (K := K) (pv 0) rfl) (pa_cons (pe_fldK (K := K) (pv 3) rfl) pa_nil))) (pa_cons (pv 8) (pa_cons (pe_lc (own := [("card", 11), ("words", 10)]) rfl sc_Hand_write.nd (pi_tupK (K := K) (pv 2)) (blkOk_by (N := ["self", "to", "lines", "keeping", "file", "lots", "told", "names", "sheet", "places", "words", "card", "line"]) (sc := defScope s_Hand_write) (by decide +kernel)) (fun _ _ _ _ _ => (pg_tupK (K := K) (n := 2) rfl (pgs_cons (pg_name (i := 11) sc_Hand_write.nd rfl (by first | exact Or.inl rfl | exact Or.inr rfl)) (pgs_cons (pg_name (i := 10) sc_Hand_write.nd rfl (by first | exact Or.inl rfl | exact Or.inr rfl)) pgs_nil)))) (fun _ _ _ _ _ => pts_nil) (fun _ _ _ _ _ => (pv 10))) pa_nil))) pass0))
      (pss_cons (ps_expr (pe_ownM G_Keeping_give_cards (hr.mono (by decide)) (pv 3) (pa_cons (pv 8) (pa_cons (pe_lc (own := [("card", 11), ("words", 10)]) rfl sc_Hand_write.nd (pi_tupK (K := K) (pv 2)) (blkOk_by (N := ["self", "to", "lines", "keeping", "file", "lots", "told", "names", "sheet", "places", "words", "card", "line"]) (sc := defScope s_Hand_write) (by decide +kernel)) (fun _ _ _ _ _ => (pg_tupK (K := K) (n := 2) rfl (pgs_cons (pg_name (i := 11) sc_Hand_write.nd rfl (by first | exact Or.inl rfl | exact Or.inr rfl)) (pgs_cons (pg_name (i := 10) sc_Hand_write.nd rfl (by first | exact Or.inl rfl | exact Or.inr rfl)) pgs_nil)))) (fun _ _ _ _ _ => pts_nil) (fun _ _ _ _ _ => (pv 11))) pa_nil)) pass0))
      (pss_one (ps_ret (pe_tup (pa_cons (pe_fldK (K := K) (pv 0) rfl) (pa_cons (pv 1) (pa_cons (pe_fldK (K := K) (pv 3) rfl) (pa_cons (pv 7) (pa_cons (pv 6) pa_nil)))))))))))))))))))), ?_⟩
    refine ⟨_, rfl, a, dx, _, rfl, e _ _ ob, rfl, _, rfl, D, a, l, me, hv, kd, kvs, hs, _, d1, rfl, e, o, hd1, ok1, fun hn H2 e2 => ?_, fun hi => ?_⟩
    · rcases q with ⟨_, q⟩ | ⟨hx, _⟩ | ⟨hx, _⟩
      · exact q H2 e2
      · unfold writeX at hx
        rw [if_pos hn] at hx
        cases hx
      · unfold writeX at hx
        rw [if_pos hn] at hx
        cases hx
    obtain ⟨on, rfl⟩ := hst d1 hi
    obtain ⟨p, hp⟩ := hkv on hi
    refine ⟨on, p, rfl, hp, fun H2 e2 => ?_⟩
    have eD2 := e.trans e2
    unfold writeX at q
    rw [if_neg (by rw [hi]; simp)] at q
    dsimp only
    refine d_when (H := D) (b := !(areLines d2)) (et_not (et_B (ev_own1 (eds1 (ed_var rfl hd2)) ok2))) eD2 (fun hb H3 e3 => ?_) fun hb H3 e3 => ?_
    · have hb' : areLines d2 = false := by simpa using hb
      rw [if_pos hb'] at q
      rcases q with ⟨hx, _⟩ | ⟨_, q⟩ | ⟨hx, _⟩
      · cases hx
      · exact q H3 (e2.trans e3)
      · cases hx
    have hal : areLines d2 = true := by simpa using hb
    rw [if_neg (by rw [hal]; simp)] at q
    obtain ⟨hlb, hpos⟩ := lines_back hal
    have hd2' : Da K D v2 (linesD (linesOf d2)) := by rw [hlb]; exact hd2
    have e23 := e2.trans e3
    refine d_when (H := D) (b := !((linesOf d2).all fun l => decide (l.1 < (xs.length : Int)))) (et_not (et_B (ev_meth (vs := [v2]) (ev_fld (ev_var rfl) ob T.cl T.n3 rfl) lob rfl (ea_cons (ev_var rfl) ea_nil) fun H4 e4 Q4 q4 => ⟨D, l, h, m, w', xs, v2, linesOf d2, rfl, e4, lo, hx, hd2', Nat.le_trans hz (by decide), q4⟩))) (eD2.trans e3) (fun hb H4 e4 => ?_) fun hb H4 e4 => ?_
    · have hb' : ((linesOf d2).all fun l => decide (l.1 < (xs.length : Int))) = false := by simpa using hb
      rw [if_pos hb'] at q
      rcases q with ⟨hx, _⟩ | ⟨hx, _⟩ | ⟨_, q⟩
      · cases hx
      · cases hx
      · exact q H4 (e23.trans e4)
    have hall : ((linesOf d2).all fun l => decide (l.1 < (xs.length : Int))) = true := by simpa using hb
    rw [if_neg (by rw [hall]; simp)] at q
    have hmem : ∀ l ∈ linesOf d2, l.2.length ≤ 30000 ∧ atI xs l.1 = some (.int (hf l.1)) ∧ LotW D w' xs l.1 (kn l.1) := fun l hl => by
      have h2 : decide (l.1 < (xs.length : Int)) = true := List.all_eq_true.mp hall l hl
      have h3 := hpl l.1 (hpos l hl) (of_decide_eq_true h2)
      refine ⟨?_, h3.1, h3.2⟩
      have hm : lineD l ∈ (linesOf d2).map lineD := List.mem_map.mpr ⟨l, hl, rfl⟩
      have okl : OkD (lineD l) := OkD.mem (ds := (linesOf d2).map lineD) (by
        have : OkD (linesD (linesOf d2)) := by rw [hlb]; exact ok2
        exact this) hm
      have okw : OkD (wordsD l.2) := OkD.mem (ds := [.int l.1, wordsD l.2]) okl (by simp)
      have := OkD.len okw
      rw [List.length_map] at this
      exact this
    refine d_when (H := D) (b := !(mayB hf kn (linesOf d2))) (et_not (et_B (ev_meth (vs := [v2]) (ev_fld (ev_var rfl) ob T.cl T.n3 rfl) lob rfl (ea_cons (ev_var rfl) ea_nil) fun H5 e5 Q5 q5 => ⟨D, l, h, m, w', xs, v2, linesOf d2, hf, kn, rfl, e5, lo, hd2', hz, hmem, fun N H6 g => q5 H6 g.act⟩))) ((eD2.trans e3).trans e4) (fun hb H5 e5 => ?_) fun hb H5 e5 => ?_
    · have hb' : mayB hf kn (linesOf d2) = false := by simpa using hb
      rw [if_pos hb'] at q
      rcases q with ⟨hx, _⟩ | ⟨_, q⟩ | ⟨hx, _⟩
      · cases hx
      · exact q H5 ((e23.trans e4).trans e5)
      · cases hx
    · have hm : mayB hf kn (linesOf d2) = true := by simpa using hb
      rw [if_neg (by rw [hm]; simp)] at q
      rcases q with ⟨hx, _⟩ | ⟨hx, _⟩ | ⟨hx, _⟩ <;> cases hx
  · obtain ⟨D, Lk, a, l, me, hv, kd, kvs, hss, h, m, w', xs, hf, kn, o, p, wr, b, v1, v2, ls, rfl, eD, eK, dj, ho, hss5, lo, hx, hpl, rfl, oko, hio, hp, ka, two, hb, hoth, hd2, ok2, hal, hpos, hz, hmay, q⟩ := hok
    obtain ⟨dx, ob⟩ := ho.ob
    obtain ⟨⟨dxl, lob⟩, lhd⟩ := id lo
    have djL : ∀ {x u}, Lk x = some u → D x = none := fun {x u} hx => (dj x).resolve_right (by rw [hx]; simp)
    refine ⟨_, (pss_cons (ps_set (i := 3) sc_Hand_write.nd rfl (by first | exact Or.inl rfl | exact Or.inr rfl) (pe_ownMS G_Hand_keeping (hr.mono (by decide)) (pv 0) (pa_cons (pv 1) pa_nil) (fun σ => passAt (takes_of rfl rfl rfl rfl) σ)))
      (pss_cons (ps_if (pt_not (pt_val (pe_own G_are_lines (hr.mono (by decide)) (pa_cons (pv 2) pa_nil) pass0))) (pss_one (ps_raise rfl (takes_of rfl rfl rfl rfl) (pmk_err0 G_NoLines))) pss_nil)
      (pss_cons (ps_if (pt_not (pt_val (pe_ownM G_Lots_has_all (hr.mono (by decide)) (pe_fldK (K := K) (pv 0) rfl) (pa_cons (pv 2) pa_nil) pass0))) (pss_one (ps_raise rfl (takes_of rfl rfl rfl rfl) (pmk_err0 G_NoCard))) pss_nil)
      (pss_cons (ps_if (pt_not (pt_val (pe_ownM G_Lots_may_stand (hr.mono (by decide)) (pe_fldK (K := K) (pv 0) rfl) (pa_cons (pv 2) pa_nil) pass0))) (pss_one (ps_raise rfl (takes_of rfl rfl rfl rfl) (pmk_err0 G_NoLines))) pss_nil)
      (pss_cons (ps_set (i := 4) sc_Hand_write.nd rfl (by first | exact Or.inl rfl | exact Or.inr rfl) (pe_ownM G_Keeping_file (hr.mono (by decide)) (pv 3) (pa_cons (pe_ownM0 G_Keeping_own_ground (hr.mono (by decide)) (pv 3) pass0) pa_nil) pass0))
      (pss_cons (ps_set (i := 5) sc_Hand_write.nd rfl (by first | exact Or.inl rfl | exact Or.inr rfl) (pe_lc (own := [("places", 9), ("words", 10)]) rfl sc_Hand_write.nd (pi_listK (K := K) (pv 4)) (blkOk_by (N := ["self", "to", "lines", "keeping", "file", "lots", "told", "names", "sheet", "places", "words", "card", "line"]) (sc := defScope s_Hand_write) (by decide +kernel)) (fun _ _ _ _ _ => (pg_tupK (K := K) (n := 2) rfl (pgs_cons (pg_name (i := 9) sc_Hand_write.nd rfl (by first | exact Or.inl rfl | exact Or.inr rfl)) (pgs_cons (pg_name (i := 10) sc_Hand_write.nd rfl (by first | exact Or.inl rfl | exact Or.inr rfl)) pgs_nil)))) (fun _ _ _ _ _ => pts_nil) (fun _ _ _ _ _ => (pe_tup (pa_cons pe_never (pa_cons (pv 10) pa_nil))))))
      (pss_cons (ps_set (i := 6) sc_Hand_write.nd rfl (by first | exact Or.inl rfl | exact Or.inr rfl) (pe_callTy (cr_tupOf (K := K)) (by rfl) M.m_tuple (by decide +kernel) (pa_cons (pe_lc (own := [("card", 11), ("words", 10)]) rfl sc_Hand_write.nd (pi_tupK (K := K) (pv 2)) (blkOk_by (N := ["self", "to", "lines", "keeping", "file", "lots", "told", "names", "sheet", "places", "words", "card", "line"]) (sc := defScope s_Hand_write) (by decide +kernel)) (fun _ _ _ _ _ => (pg_tupK (K := K) (n := 2) rfl (pgs_cons (pg_name (i := 11) sc_Hand_write.nd rfl (by first | exact Or.inl rfl | exact Or.inr rfl)) (pgs_cons (pg_name (i := 10) sc_Hand_write.nd rfl (by first | exact Or.inl rfl | exact Or.inr rfl)) pgs_nil)))) (fun _ _ _ _ _ => pts_nil) (fun _ _ _ _ _ => (pe_tup (pa_cons (pe_own G_name_in (hr.mono (by decide)) (pa_cons (pv 5) (pa_cons (pe_ownM G_Lots_head (hr.mono (by decide)) (pe_fldK (K := K) (pv 0) rfl) (pa_cons (pv 11) pa_nil) pass0) pa_nil)) pass0) (pa_cons (pv 10) pa_nil))))) pa_nil)))
      (pss_cons (ps_set (i := 7) sc_Hand_write.nd rfl (by first | exact Or.inl rfl | exact Or.inr rfl) (pe_ownM0 G_Hand_names (hr.mono (by decide)) (pv 0) pass0))
      (pss_cons (ps_set (i := 8) sc_Hand_write.nd rfl (by first | exact Or.inl rfl | exact Or.inr rfl) (pe_ownM G_Keeping_next_sheet (hr.mono (by decide)) (pv 3) (pa_cons (pv 7) (pa_cons (pe_callTy (cr_tupOf (K := K)) (by rfl) M.m_tuple (by decide +kernel) (pa_cons (pe_lc (own := [("line", 12)]) rfl sc_Hand_write.nd (pi_tupK (K := K) (pv 6)) (blkOk_by (N := ["self", "to", "lines", "keeping", "file", "lots", "told", "names", "sheet", "places", "words", "card", "line"]) (sc := defScope s_Hand_write) (by decide +kernel)) (fun _ _ _ _ _ => (pg_name (i := 12) sc_Hand_write.nd rfl (by first | exact Or.inl rfl | exact Or.inr rfl))) (fun _ _ _ _ _ => pts_nil) (fun _ _ _ _ _ => (pe_ix (ix_tupK (K := K)) (pv 12) pe_int (fun _ _ => rfl)))) pa_nil)) (pa_cons (pv 4) pa_nil))) pass0))
      (pss_cons (ps_fldaug (pv 3) pe_int in_add)
      (pss_cons (ps_expr (pe_ownM G_Keeping_keep (hr.mono (by decide)) (pv 3) (pa_cons (pe_tup (pa_cons (pe_fldK (K := K) (pv 0) rfl) (pa_cons (pe_fldK (K := K) (pv 3) rfl) pa_nil))) (pa_cons (pv 8) (pa_cons (pe_lc (own := [("card", 11), ("words", 10)]) rfl sc_Hand_write.nd (pi_tupK (K := K) (pv 2)) (blkOk_by (N := ["self", "to", "lines", "keeping", "file", "lots", "told", "names", "sheet", "places", "words", "card", "line"]) (sc := defScope s_Hand_write) (by decide +kernel)) (fun _ _ _ _ _ => (pg_tupK (K := K) (n := 2) rfl (pgs_cons (pg_name (i := 11) sc_Hand_write.nd rfl (by first | exact Or.inl rfl | exact Or.inr rfl)) (pgs_cons (pg_name (i := 10) sc_Hand_write.nd rfl (by first | exact Or.inl rfl | exact Or.inr rfl)) pgs_nil)))) (fun _ _ _ _ _ => pts_nil) (fun _ _ _ _ _ => (pv 10))) pa_nil))) pass0))
      (pss_cons (ps_expr (pe_ownM G_Keeping_give_cards (hr.mono (by decide)) (pv 3) (pa_cons (pv 8) (pa_cons (pe_lc (own := [("card", 11), ("words", 10)]) rfl sc_Hand_write.nd (pi_tupK (K := K) (pv 2)) (blkOk_by (N := ["self", "to", "lines", "keeping", "file", "lots", "told", "names", "sheet", "places", "words", "card", "line"]) (sc := defScope s_Hand_write) (by decide +kernel)) (fun _ _ _ _ _ => (pg_tupK (K := K) (n := 2) rfl (pgs_cons (pg_name (i := 11) sc_Hand_write.nd rfl (by first | exact Or.inl rfl | exact Or.inr rfl)) (pgs_cons (pg_name (i := 10) sc_Hand_write.nd rfl (by first | exact Or.inl rfl | exact Or.inr rfl)) pgs_nil)))) (fun _ _ _ _ _ => pts_nil) (fun _ _ _ _ _ => (pv 11))) pa_nil)) pass0))
      (pss_one (ps_ret (pe_tup (pa_cons (pe_fldK (K := K) (pv 0) rfl) (pa_cons (pv 1) (pa_cons (pe_fldK (K := K) (pv 3) rfl) (pa_cons (pv 7) (pa_cons (pv 6) pa_nil)))))))))))))))))))), ?_⟩
    -- keeping = self.keeping(to)
    refine ⟨_, rfl, a, dx, _, rfl, eD _ _ ob, rfl, _, rfl, D, a, l, me, hv, kd, kvs, _, _, .str o, rfl, eD, ho, .str o, oko, (fun hn => by rw [hio] at hn; cases hn), fun hi => ⟨o, p, rfl, hp, fun H2 e2 => ?_⟩⟩
    have eD2 := eD.trans e2
    dsimp only
    refine d_when (H := D) (b := !(areLines (linesD ls))) (et_not (et_B (ev_own1 (eds1 (ed_var rfl hd2)) ok2))) eD2 (fun hb => by rw [hal] at hb; cases hb) fun _ H3 e3 => ?_
    have hall : (ls.all fun l => decide (l.1 < (xs.length : Int))) = true := List.all_eq_true.mpr fun l hl => decide_eq_true (hpos l hl).2
    refine d_when (H := D) (b := !(ls.all fun l => decide (l.1 < (xs.length : Int)))) (et_not (et_B (ev_meth (vs := [v2]) (ev_fld (ev_var rfl) ob T.cl T.n3 rfl) lob rfl (ea_cons (ev_var rfl) ea_nil) fun H4 e4 Q4 q4 => ⟨D, l, h, m, w', xs, v2, ls, rfl, e4, lo, hx, hd2, Nat.le_trans hz (by decide), q4⟩))) (eD2.trans e3) (fun hb => by rw [hall] at hb; cases hb) fun _ H4 e4 => ?_
    have hmem : ∀ l ∈ ls, l.2.length ≤ 30000 ∧ atI xs l.1 = some (.int (hf l.1)) ∧ LotW D w' xs l.1 (kn l.1) := fun l hl => by
      have h3 := hpl l.1 (hpos l hl).1 (hpos l hl).2
      refine ⟨?_, h3.1, h3.2⟩
      have okl : OkD (lineD l) := OkD.mem (ds := ls.map lineD) ok2 (List.mem_map.mpr ⟨l, hl, rfl⟩)
      have okw : OkD (wordsD l.2) := OkD.mem (ds := [.int l.1, wordsD l.2]) okl (by simp)
      have := OkD.len okw
      rw [List.length_map] at this
      exact this
    refine d_when (H := D) (b := !(mayB hf kn ls)) (et_not (et_B (ev_meth (vs := [v2]) (ev_fld (ev_var rfl) ob T.cl T.n3 rfl) lob rfl (ea_cons (ev_var rfl) ea_nil) fun H5 e5 Q5 q5 => ⟨D, l, h, m, w', xs, v2, ls, hf, kn, rfl, e5, lo, hd2, hz, hmem, fun N H6 g => q5 H6 g.act⟩))) ((eD2.trans e3).trans e4) (fun hb => by rw [hmay] at hb; cases hb) fun _ H5 e5 => ?_
    have e15 := ((e2.trans e3).trans e4).trans e5
    have eD5 := eD.trans e15
    have eK5 := eK.trans e15
    -- file = keeping.file(keeping.own_ground())
    obtain ⟨l2, s2, c2, t2, cnt, sd, cd, sh, oi, z1, z2, z3⟩ := id ka
    obtain ⟨dxk, obk⟩ := oi.ob
    have kaJ : KeepAt CK (join D Lk) p me o wr b := ka.ex (ex_r dj)
    have obJ := ex_r dj _ _ obk
    refine d_asg (K := K) (H := join D Lk) (d := .list []) (ed_meth (ev_var rfl) obJ rfl (eds1 (d := .list []) (ed_meth (ev_var rfl) obJ rfl eds_nil fun vs N H6 a6 b6 hvs Q6 q6 => by
        cases hvs
        exact ⟨N, p, me, o, wr, b, b6, kaJ.ex a6, two, rfl, rfl, trivial, q6⟩)) fun vs N H6 a6 b6 hvs Q6 q6 => by
        cases hvs with
        | cons u1 u2 =>
        cases u2
        exact ⟨N, p, me, o, wr, b, b6, kaJ.ex a6, two, rfl, rfl, ⟨_, rfl, u1⟩, q6⟩) (join_ex eD5 eK5) fun vf N5 H6 g5 hvf => ?_
    -- lots
    refine d_asgL (K := K) (B := N5) (ds := []) (el_lc0 (P := PD K []) (wd_lst (ds := []) (ed_var rfl hvf))) g5.sub fun pl xl N6 H7 hpl7 g6 hN6 hdl => ?_
    cases hdl
    have e17 := (e15.trans g5.act).trans g6.act
    have eD7 := eD.trans e17
    have eK7 := eK.trans e17
    have D6L : Ex (upd D pl (.lst [])) H7 := fun x u hx => by
      by_cases ex : x = pl
      · subst ex
        rw [upd_same] at hx
        rw [← hx]
        exact g6.sub _ _ hN6
      · rw [upd_ne ex] at hx
        exact eD7 _ _ hx
    have npl : ∀ {x u}, H6 x = some u → x ≠ pl := fun hx => ne_of_none hx hpl7
    have eD6 : Ex D (upd D pl (.lst [])) := Ex.new (fresh_back ((eD.trans e15).trans g5.act) hpl7)
    have dj6 : ∀ {x u}, Lk x = some u → upd D pl (.lst []) x = none := fun {x u} hx => by
      rw [upd_ne (npl (g5.act _ _ (eK5 _ _ hx)))]
      exact djL hx
    -- told
    have ho6 := ho.ex eD6
    have lo6 := lo.ex eD6
    obtain ⟨dx6, ob6⟩ := ho6.ob
    obtain ⟨⟨dxl6, lob6⟩, lhd6⟩ := id lo6
    refine d_asgT (K := K) (B := upd D pl (.lst [])) (ds := ls.map fun l => .tuple [.none, wordsD l.2]) (et_tupL (ed_mapA ls _ (by omega) (wd_tupM (f := lineD) (ed_var rfl (hd2.ex eD6))) fun i x y N e1 hy hx => ?_)) D6L fun pt xt N7 H8 hpt g7 hN7 hdt => ?_
    · have hxl : Da K N x (lineD y) := pd_map hy hx
      obtain ⟨z, hz2, kk⟩ := tg_line hxl
      have hly := List.mem_of_getElem? hy
      refine ⟨[some (.ref a), some (.str o), some v2, some (.ref p), some vf, some (.ref pl), none, none, none, none, some z, some (.int y.1), none], rfl, fun H2 e2 R r => kk H2 e2 11 10 _ R r, ?_⟩
      refine ed_tup (eds2 (d := .none) (ed_callG (ds := [.list [], .int (hf y.1)]) (eds2 (ed_var rfl (.lst (e1 _ _ upd_same) .nil)) fun N2 a2 => ed_of (ev_meth (vs := [.int y.1]) (ev_fld (ev_var rfl) (a2 _ _ (e1 _ _ ob6)) T.cl T.n3 rfl) (a2 _ _ (e1 _ _ lob6)) rfl (ea_cons (ev_var rfl) ea_nil) fun H9 e9 Q9 q9 => ⟨N2, l, h, m, w', xs, y.1, .int (hf y.1), rfl, e9, lo6.ex (e1.trans a2), (hmem y hly).2.1, q9⟩) (.int _)) fun vs N2 H9 a2 b2 hvs Q9 q9 => ?_) fun N2 a2 => ed_var rfl (hz2.ex a2)) (by show 2 ≤ 100000; decide)
      cases hvs with
      | cons u1 u2 =>
      cases u2 with
      | cons u2 u3 =>
      cases u3
      exact ⟨N2, _, _, rfl, b2, u1, fun N3 H10 g => q9 _ N3 H10 g .non⟩
    have e18 := e17.trans g7.act
    have eK8 := eK.trans e18
    have eN7 : Ex D N7 := eD6.trans g7.bas
    have djN7 : ∀ {x u}, Lk x = some u → N7 x = none := fun {x u} hx => g7.new x (dj6 hx) (by rw [eK7 _ _ hx]; simp)
    -- names
    have eJ8 : Ex (join D Lk) H8 := join_ex (eD.trans e18) eK8
    refine ⟨_, rfl, a, dx, _, rfl, (eD.trans e18) _ _ ob, rfl, join D Lk, a, l, me, hv, kd, kvs, hss, rfl, eJ8, ho.ex ex_l, hss5, fun o' ho' => ⟨(hoth o' ho').1, fun hn => ?_⟩, fun p8 H9 hp8 e9 hN9 => ?_⟩
    · rcases (hoth o' ho').2 hn with rfl | ⟨p', wr', b', k1, k2, k3⟩
      · exact ⟨p, wr, b, hp, kaJ, two⟩
      · exact ⟨p', wr', b', k1, k2.ex ex_l, k3⟩
    have e19 := e18.trans e9
    have eK9 := eK.trans e19
    have eN79 : Ex N7 H9 := g7.sub.trans e9
    -- sheet
    refine ⟨_, rfl, p, dxk, _, rfl, eK9 _ _ obk, rfl, _, rfl, ?_⟩
    have hpt7 : Da K N7 (.ref pt) (.tuple (ls.map fun l => .tuple [.none, wordsD l.2])) := .tup (st_of hN7) hdt
    refine ta_consD (K := K) (B := N7) (d := .tuple (List.replicate ls.length .none)) (ed_tupL (ed_is (ed_mapA ls (fun _ => .none) (by omega) (wd_tupM (f := fun l => .tuple [.none, wordsD l.2]) (ed_var rfl hpt7)) fun i x y N e1 hy hx => ?_) (by rw [List.map_const']))) eN79 fun vd N8 H10 g8 hvd => ⟨_, rfl, ?_⟩
    · have hxl : Da K N x (.tuple [.none, wordsD y.2]) := pd_map (f := fun l : Int × List Str => .tuple [.none, wordsD l.2]) hy hx
      exact ⟨[some (.ref a), some (.str o), some v2, some (.ref p), some vf, some (.ref pl), some (.ref pt), some (.ref p8), none, none, none, none, some x], rfl, fun _ _ _ r => r, ed_ixT (j := 0) (ed_var rfl hxl) (fun _ _ => ev_c) rfl rfl⟩
    have e110 := e19.trans g8.act
    have eK10 := eK.trans e110
    have djN8 : ∀ {x u}, Lk x = some u → N8 x = none := fun {x u} hx => g8.new x (djN7 hx) (by rw [eK9 _ _ hx]; simp)
    have dj8 : Dj N8 Lk := fun x => by
      cases z : Lk x with
      | none => exact .inr rfl
      | some u => exact .inl (djN8 z)
    refine ⟨join N8 Lk, p, me, o, wr, b, _, _, _, ls.length, rfl, join_ex g8.sub eK10, ka.ex (ex_r dj8), hvd.ex ex_l, hz, fun p9 pp dxs u1 u2 u4 H11 plc hp9 hpp np9 e11 h9 hpp2 hplc => ?_⟩
    have e111 := e110.trans e11
    have eK11 := eK.trans e111
    obtain ⟨D9, hD9⟩ : ∃ D9, D9 = upd (upd (upd N8 p8 (.tup [])) p9 (.ins CS dxs (sheetF u1 u2 (.ref pp) u4))) pp (.tup (plc.map V.int)) := ⟨_, rfl⟩
    have n8p8 : N8 p8 = none := g8.new p8 (fresh_back g7.sub hp8) (by rw [hN9]; simp)
    have n8p9 : N8 p9 = none := fresh_back g8.sub hp9
    have n8pp : N8 pp = none := fresh_back g8.sub hpp
    have p8p9 : p8 ≠ p9 := ne_of_none (g8.act _ _ hN9) hp9
    have p8pp : p8 ≠ pp := ne_of_none (g8.act _ _ hN9) hpp
    have eN8 : Ex N8 D9 := fun x u hx => by
      rw [hD9, upd_ne (ne_of_none hx n8pp), upd_ne (ne_of_none hx n8p9), upd_ne (ne_of_none hx n8p8)]
      exact hx
    have d9pp : D9 pp = some (.tup (plc.map V.int)) := by rw [hD9, upd_same]
    have d9p9 : D9 p9 = some (.ins CS dxs (sheetF u1 u2 (.ref pp) u4)) := by rw [hD9, upd_ne np9, upd_same]
    have d9p8 : D9 p8 = some (.tup []) := by rw [hD9, upd_ne p8pp, upd_ne p8p9, upd_same]
    have eD9 : Ex D9 H11 := fun x u hx => by
      by_cases z1 : x = pp
      · subst z1
        rw [d9pp] at hx
        rw [hpp2]
        exact hx
      by_cases z2 : x = p9
      · subst z2
        rw [d9p9] at hx
        rw [h9]
        exact hx
      by_cases z3 : x = p8
      · subst z3
        rw [d9p8] at hx
        rw [← hx]
        exact e11 _ _ (g8.act _ _ hN9)
      rw [hD9, upd_ne z1, upd_ne z2, upd_ne z3] at hx
      exact e11 _ _ (g8.sub _ _ hx)
    have new9 : ∀ {x}, D x = none → H1 x ≠ none → D9 x = none := fun {x} h1 h2 => by
      have h6 : upd D pl (.lst []) x = none := by
        rw [upd_ne (ne_nn (Ex.nn (Ex.trans e15 g5.act) h2) hpl7)]
        exact h1
      have h7 := g7.new x h6 (Ex.nn e17 h2)
      have h8 := g8.new x h7 (Ex.nn e19 h2)
      rw [hD9, upd_ne (ne_nn (Ex.nn (Ex.trans e110 (Ex.refl _)) h2) hpp), upd_ne (ne_nn (Ex.nn e110 h2) hp9), upd_ne (ne_nn (Ex.nn e18 h2) hp8)]
      exact h8
    have dj9 : ∀ {x u}, Lk x = some u → D9 x = none := fun {x u} hx => new9 (djL hx) (by rw [eK _ _ hx]; simp)
    have eDD9 : Ex D D9 := eN7.trans (g8.bas.trans eN8)
    -- keeping.written += 1
    refine ⟨_, rfl, p, CK, dxk, _, _, rfl, eK11 _ _ obk, TK.cl, TK.n3, rfl, wr, 1, rfl, rfl, dxk, _, eK11 _ _ obk, (by show 9 < 1000; decide), ?_⟩
    have ef : putF "written" (.int (wr + 1)) (keepF me o wr cnt l2 s2 c2 t2) = keepF me o (wr + 1) cnt l2 s2 c2 t2 := rfl
    rw [ef]
    have eD12 : Ex D9 (upd H11 p (.ins CK dxk (keepF me o (wr + 1) cnt l2 s2 c2 t2))) := Ex.put eD9 (dj9 obk)
    have mv1 := (Mv.old eK e111).trans (Mv.put (o := .ins CK dxk (keepF me o (wr + 1) cnt l2 s2 c2 t2)) eK11 obk)
    have ka1 : KeepAt CK (upd Lk p (.ins CK dxk (keepF me o (wr + 1) cnt l2 s2 c2 t2))) p me o (wr + 1) b := by
      refine ⟨l2, s2, c2, t2, cnt, sd, cd, sh, ⟨⟨dxk, upd_same⟩, ?_, ?_, ?_, ?_, oi.sc, oi.ks⟩, z1, z2, z3⟩
      · rw [upd_ne (ne_of oi.ld obk (by intro z; cases z))]
        exact oi.ld
      · rw [upd_ne (ne_of oi.sa obk (by intro z; cases z))]
        exact oi.sa
      · rw [upd_ne (ne_of oi.ca obk (by intro z; cases z))]
        exact oi.ca
      · rw [upd_ne (ne_of oi.st obk (by intro z; cases z))]
        exact oi.st
    -- keeping.keep(..)
    have obA12 : upd H11 p (.ins CK dxk (keepF me o (wr + 1) cnt l2 s2 c2 t2)) a = some (.ins C dx (handF me hv l kd)) := eD12 _ _ (eDD9 _ _ ob)
    refine ⟨_, rfl, p, dxk, _, rfl, upd_same, rfl, _, rfl, a, C, dx, _, _, rfl, obA12, T.cl, T.n1, rfl, _, rfl, p, CK, dxk, _, _, rfl, upd_same, TK.cl, TK.n3, rfl, (by show 2 ≤ sizeLine; decide), fun kq hkq => ⟨_, rfl, ?_⟩⟩
    have n9kq : D9 kq = none := fresh_back eD12 hkq
    have eD13 : Ex (upd D9 kq (.tup [.str me, .int (wr + 1)])) (upd (upd H11 p (.ins CK dxk (keepF me o (wr + 1) cnt l2 s2 c2 t2))) kq (.tup [.str me, .int (wr + 1)])) := (Gr.alloc eD12 hkq).sub
    have hd13 : Da K (upd D9 kq (.tup [.str me, .int (wr + 1)])) v2 (linesD ls) := hd2.ex (eDD9.trans (Ex.new n9kq))
    refine ta_consD (K := K) (B := upd D9 kq (.tup [.str me, .int (wr + 1)])) (ed_mapA ls (fun l => wordsD l.2) (by omega) (wd_tupM (f := lineD) (ed_var rfl hd13)) fun i x y N e1 hy hx => ?_) eD13 fun vs4 N14 H14 g14 hvs4 => ?_
    · have hxl : Da K N x (lineD y) := pd_map hy hx
      obtain ⟨z, hz2, kk⟩ := tg_line hxl
      exact ⟨[some (.ref a), some (.str o), some v2, some (.ref p), some vf, some (.ref pl), some (.ref pt), some (.ref p8), some (.ref p9), none, some z, some (.int y.1), none], rfl, fun H2 e2 R r => kk H2 e2 11 10 _ R r, ed_var rfl hz2⟩
    have K1 : ∀ {x u}, upd Lk p (.ins CK dxk (keepF me o (wr + 1) cnt l2 s2 c2 t2)) x = some u → ∃ u', Lk x = some u' := fun {x u} hx => by
      by_cases z : x = p
      · exact ⟨_, z ▸ obk⟩
      · rw [upd_ne z] at hx
        exact ⟨_, hx⟩
    have dj14 : Dj N14 (upd Lk p (.ins CK dxk (keepF me o (wr + 1) cnt l2 s2 c2 t2))) := fun x => by
      cases z : upd Lk p (.ins CK dxk (keepF me o (wr + 1) cnt l2 s2 c2 t2)) x with
      | none => exact .inr rfl
      | some u =>
        obtain ⟨u', hu'⟩ := K1 z
        have n13 : upd D9 kq (.tup [.str me, .int (wr + 1)]) x = none := by
          rw [upd_ne (fun z2 => by have := mv1.sub _ _ z; rw [z2, hkq] at this; cases this)]
          exact dj9 hu'
        exact .inl (g14.new x n13 (upd_nn (by rw [mv1.sub _ _ z]; simp)))
    have eK14 : Ex (upd Lk p (.ins CK dxk (keepF me o (wr + 1) cnt l2 s2 c2 t2))) H14 := fun x u hx => g14.act _ _ (by rw [upd_ne (ne_of_none (mv1.sub _ _ hx) hkq)]; exact mv1.sub _ _ hx)
    have mv2 : Mv Lk H1 (upd Lk p (.ins CK dxk (keepF me o (wr + 1) cnt l2 s2 c2 t2))) H14 := mv1.to ((Ex.new hkq).trans g14.act)
    have eD9N : Ex D9 N14 := (Ex.new n9kq).trans g14.bas
    have sh14 : SheetAt K CS N14 p9 plc := ⟨dxs, u1, u2, .ref pp, u4, eD9N _ _ d9p9, .tup (st_of (eD9N _ _ d9pp)) (da_ints _ _)⟩
    refine ⟨N14, _, p, kq, p9, vs4, me, o, wr + 1, b, wr + 1, plc, ls.map fun l => wordsD l.2, rfl, g14.sub, eK14, dj14, g14.bas _ _ upd_same, sh14, hvs4, (by rw [List.length_map]; exact hplc), ka1, (by omega), fun L2 H15 mv3 ka2 => ?_⟩
    obtain ⟨mf3, djL2, eN15⟩ := Mv.frame g14.sub dj14.symm mv3
    -- keeping.give_cards(..)
    obtain ⟨l3, s3, c3, t3, cnt3, sd3, cd3, sh3, oi3, y1, y2, y3⟩ := id ka2
    obtain ⟨dx3, ob3⟩ := oi3.ob
    refine ⟨_, rfl, p, dx3, _, rfl, mv3.sub _ _ ob3, rfl, _, rfl, ?_⟩
    have hd15 : Da K N14 v2 (linesD ls) := hd13.ex g14.bas
    refine ta_consD (K := K) (B := N14) (ed_mapA ls (fun l => .int l.1) (by omega) (wd_tupM (f := lineD) (ed_var rfl hd15)) fun i x y N e1 hy hx => ?_) eN15 fun vs5 N16 H16 g16 hvs5 => ?_
    · have hxl : Da K N x (lineD y) := pd_map hy hx
      obtain ⟨z, hz2, kk⟩ := tg_line hxl
      exact ⟨[some (.ref a), some (.str o), some v2, some (.ref p), some vf, some (.ref pl), some (.ref pt), some (.ref p8), some (.ref p9), none, some z, some (.int y.1), none], rfl, fun H2 e2 R r => kk H2 e2 11 10 _ R r, ed_var rfl (.int _)⟩
    have dj16 : Dj N16 L2 := fun x => by
      cases z : L2 x with
      | none => exact .inr rfl
      | some u => exact .inl (g16.new x ((djL2 x).resolve_left (by rw [z]; simp)) (by rw [mv3.sub _ _ z]; simp))
    have eK16 : Ex L2 H16 := fun x u hx => g16.act _ _ (mv3.sub _ _ hx)
    have mv4 := (mv2.trans mv3).to g16.act
    refine ⟨N16, L2, p, p9, vs5, me, o, wr + 1, b + plc.length + 1, plc, ls.map fun l => .int l.1, rfl, g16.sub, eK16, dj16, sh14.ex g16.bas, hvs5, (by rw [List.length_map]; exact hplc), ka2, (by omega), fun L3 H17 mv5 ka3 => ?_⟩
    obtain ⟨mf5, djL3, eN17⟩ := Mv.frame g16.sub dj16.symm mv5
    obtain ⟨l4, s4, c4, t4, cnt4, sd4, cd4, sh4, oi4, _⟩ := id ka3
    obtain ⟨dx4, ob4⟩ := oi4.ob
    have eD16 : Ex D N16 := eDD9.trans (eD9N.trans g16.bas)
    -- return
    refine ⟨_, rfl, a, C, dx, _, _, rfl, eN17 _ _ (eD16 _ _ ob), T.cl, T.n1, rfl, _, rfl, _, rfl, p, CK, dx4, _, _, rfl, mv5.sub _ _ ob4, TK.cl, TK.n3, rfl, _, rfl, _, rfl, (by show 5 ≤ sizeLine; decide), fun pz hpz => ?_⟩
    have n16 : N16 pz = none := fresh_back eN17 hpz
    have mv6 := (mv4.trans mv5).to (Ex.new (o := .tup [.str me, .str o, .int (wr + 1), .ref p8, .ref pt]) hpz)
    have ebn : b + plc.length + 1 + plc.length = b + 2 * ls.length + 1 := by omega
    rw [ebn] at ka3
    refine q (.ref pz) L3 (upd N16 pz (.tup [.str me, .str o, .int (wr + 1), .ref p8, .ref pt])) _ mv6 ka3 (eD16.trans (Ex.new n16)) (Gr.alloc eN17 hpz).sub (fun x => ?_) (fun x h1 h2 h3 => ?_) ?_
    · cases z : L3 x with
      | none => exact .inr rfl
      | some u =>
        refine .inl ?_
        rw [upd_ne (ne_of_none (mv5.sub _ _ z) hpz)]
        exact (djL3 x).resolve_left (by rw [z]; simp)
    · have h9 := new9 h1 h3
      have n12 : upd H11 p (.ins CK dxk (keepF me o (wr + 1) cnt l2 s2 c2 t2)) x ≠ none := upd_nn (Ex.nn e111 h3)
      have h13 : upd D9 kq (.tup [.str me, .int (wr + 1)]) x = none := by
        rw [upd_ne (ne_nn n12 hkq)]
        exact h9
      have n14 : H14 x ≠ none := Ex.nn g14.act (upd_nn n12)
      have h14 := g14.new x h13 (upd_nn n12)
      have hLk1 : upd Lk p (.ins CK dxk (keepF me o (wr + 1) cnt l2 s2 c2 t2)) x = none := by
        rw [upd_ne (fun z => by rw [z, obk] at h2; cases h2)]
        exact h2
      have r3 := mv3.rest x hLk1 n14
      have n15 : H15 x ≠ none := by rw [r3.1]; exact n14
      have h16 := g16.new x h14 n15
      have n16' : H16 x ≠ none := Ex.nn g16.act n15
      have r5 := mv5.rest x r3.2 n16'
      have n17 : H17 x ≠ none := by rw [r5.1]; exact n16'
      rw [upd_ne (ne_nn n17 hpz)]
      exact h16
    · have eN : Ex N16 (upd N16 pz (.tup [.str me, .str o, .int (wr + 1), .ref p8, .ref pt])) := Ex.new n16
      have e9N := (eD9N.trans g16.bas).trans eN
      have e7N : Ex N7 (upd N16 pz (.tup [.str me, .str o, .int (wr + 1), .ref p8, .ref pt])) := (g8.bas.trans eN8).trans e9N
      exact .tup (st_of upd_same) (.cons (.str _) (.cons (.str _) (.cons (.int _) (.cons (.tup (st_of (e9N _ _ d9p8)) .nil) (.cons (hpt7.ex e7N) .nil)))))
end
end Sg
end
section
set_option maxRecDepth 100000
set_option maxHeartbeats 4000000
/-! A hand made. -/
namespace Sg
open PySem PySem.Spec PyProof.Rows L2 Evl
abbrev KP : Type := Str × Addr × Hp
def kpsD (kps : List KP) : List (Key × V) := kps.map fun x => ((Sum.inr x.1 : Key), V.ref x.2.1)
/-- keepings, each with what it owns: nothing that stood at H0, nothing at kd, nothing of one another -/
structure Kps (CK : Addr) (me : Str) (H0 H' : Hp) (kd : Addr) (kps : List KP) : Prop where
  at_ : ∀ x ∈ kps, KeepAt CK x.2.2 x.2.1 me x.1 0 0
  ex : ∀ x ∈ kps, Ex x.2.2 H'
  new : ∀ x ∈ kps, ∀ y, H0 y ≠ none → x.2.2 y = none
  nkd : ∀ x ∈ kps, x.2.2 kd = none
  dj : kps.Pairwise fun x y => Dj x.2.2 y.2.2
theorem valV_kps {kps : List KP} {o : Str} (h : o ∉ kps.map (·.1)) : valV (kpsD kps) (.inr o) = none := by
  induction kps with
  | nil => rfl
  | cons x r ih =>
    have h1 : x.1 ≠ o := fun z => h (by rw [← z]; simp)
    have h2 : o ∉ r.map (·.1) := fun z => h (by rw [List.map_cons]; exact List.mem_cons_of_mem _ z)
    show valV (((Sum.inr x.1 : Key), V.ref x.2.1) :: kpsD r) (.inr o) = none
    rw [valV_neg (fun z => h1 (by cases z; rfl))]
    exact ih h2
theorem d_fldV {K : PySem.W.Frag} {ta tv : TE} {f : Str} {D : Ends} {σ : L2.St} {H1 : Hp} (h : tv σ H1 fun y H2 => ta σ H2 fun x H3 => ∃ a C dx fs, x = .ref a ∧ H3 a = some (.ins C dx fs) ∧ Cls K C ∧ NoAttr K C f ∧ fs.length < 1000 ∧ D.nx σ (upd H3 a (.ins C dx (putF f y fs)))) : sFld K ta tv f D σ H1 := h
/-- what a new hand is: all that stood stays -/
structure HandNew (C CL CK : Addr) (H0 H' : Hp) (a l kd : Addr) (me : Str) (v2 : V) (hs : List Str) (Ll : Hp) (kps : List KP) : Prop where
  keep : Ex H0 H'
  ob : ∃ dx, H' a = some (.ins C dx (handF me v2 l kd))
  ko : H' kd = some (.dK (kpsD kps))
  k0 : H0 kd = none
  ka : kd ≠ a
  lo : LotsAt CL Ll l 0 (fun _ => [])
  le : Ex Ll H'
  ln : ∀ y, H0 y ≠ none → Ll y = none
  la : Ll a = none
  lk : Ll kd = none
  ns : kps.map (·.1) = hs.filter (fun o => !PyData.eqv (.str o) (.str me))
  kp : Kps CK me H0 H' kd kps
  pa : ∀ x ∈ kps, x.2.2 a = none
  dl : ∀ x ∈ kps, Dj Ll x.2.2
def spHandI (K : PySem.W.Frag) (C CL CK CH CN : Addr) : Sp := fun vs H Q E => ∃ H0 D a dx v1 v2, vs = [.ref a, v1, v2] ∧ H0 a = none ∧ H0 dx = none ∧ dx ≠ a ∧ H = upd (upd H0 dx (.own a)) a (.ins C dx []) ∧ Ex D H0 ∧
  ((∃ d1 d2, Da K D v1 d1 ∧ Da K D v2 d2 ∧ OkD d1 ∧ OkD d2 ∧ ((areHands d2 = false ∧ ∀ H2, Ex H H2 → E (.ref CH) none H2) ∨ ∃ hs, d2 = .tuple hs ∧ areHands d2 = true ∧ inD d1 hs = false ∧ ∀ H2, Ex H H2 → E (.ref CN) none H2)) ∨
   ∃ (me : Str) (hs : List Str), v1 = .str me ∧ Da K D v2 (.tuple (hs.map .str)) ∧ OkD (.str me) ∧ OkD (.tuple (hs.map .str)) ∧ areHands (.tuple (hs.map .str)) = true ∧ inD (.str me) (hs.map .str) = true ∧ hs.Nodup ∧ hs.length ≤ 5 ∧ (∀ o ∈ hs, SeqAt.shaped (.str o) = true) ∧
     ∀ H' l kd Ll kps, HandNew C CL CK H0 H' a l kd me v2 hs Ll kps → Q .non H')
section
variable {P : Program} {w : World} {K : PySem.W.Frag} {mg : Str → Option Value} {base : Heap} {C CL CK CS : Addr} {C_NoCard C_NoWords C_NoHand C_NoLines C_NoHands : Addr}
theorem keep_loop {a : Addr} {me : Str} {v2 : V} {hs : List Str} {D H1 : Hp} {E : XK} {Q : VK} (hd : Da K D v2 (.tuple (hs.map .str))) (e : Ex D H1) (nd : hs.Nodup) (hz : hs.length ≤ 1000) (sh : ∀ o ∈ hs, SeqAt.shaped (.str o) = true) (sm : SeqAt.shaped (.str me) = true)
    (k : ∀ kd H' kps, H1 kd = none → Ex H1 H' → H' kd = some (.dK (kpsD kps)) → Kps CK me H1 H' kd kps → kps.map (·.1) = hs.filter (fun o => !PyData.eqv (.str o) (.str me)) → Q (.ref kd) H') :
    tDc (iTup K (tVar 2)) (gName 3) (tTest (tOp (rNeD K) (tVar 3) (tVar 1))) (tVar 3) (tMake CK (spKeepI CK) [] E (tCons (tVar 1) (tCons (tVar 3) tNil))) [3] [some (.ref a), some (.str me), some v2, none] H1 Q := by
  refine (wd_tupM (σ := [some (.ref a), some (.str me), some v2, none]) (H := D) (tl := tVar 2) (f := PyData.str) (ys := hs) (ed_var rfl hd)) H1 e _ fun J N H2 g F kd hkd => ?_
  have n1kd : H1 kd = none := fresh_back g.act hkd
  refine ⟨fun i m H' => m = hs.length - i ∧ i ≤ hs.length ∧ ∃ kps : List KP, kps.map (·.1) = (hs.take i).filter (fun o => !PyData.eqv (.str o) (.str me)) ∧ Ex H2 H' ∧ H' kd = some (.dK (kpsD kps)) ∧ Kps CK me H1 H' kd kps, ⟨hs.length, by simp, Nat.zero_le _, [], rfl, Ex.new hkd, upd_same, ⟨(fun x hx => nomatch hx), (fun x hx => nomatch hx), (fun x hx => nomatch hx), (fun x hx => nomatch hx), .nil⟩⟩, ?_⟩
  rintro i m H' ⟨rfl, hi, kps, hk, e2, hkd2, ok⟩
  have eN : Ex N H' := g.sub.trans e2
  by_cases lt : i < hs.length
  · refine .inr ⟨F.go H' eN i lt, fun H3 => ∃ kps : List KP, kps.map (·.1) = (hs.take (i + 1)).filter (fun o => !PyData.eqv (.str o) (.str me)) ∧ Ex H2 H3 ∧ H3 kd = some (.dK (kpsD kps)) ∧ Kps CK me H1 H3 kd kps, fun H3 z => ⟨hs.length - (i + 1), by omega, rfl, lt, z⟩, fun x H3 y => ?_⟩
    obtain ⟨B2, g2, px⟩ := F.yld N H' i x H3 (Ex.refl _) eN lt y
    have ey : hs[i]? = some hs[i] := List.getElem?_eq_getElem lt
    have hx : Da K B2 x (.str hs[i]) := pd_map ey px
    cases hx
    have tk' : hs.take (i + 1) = hs.take i ++ [hs[i]] := by rw [List.take_succ, ey]; rfl
    have e3 : Ex H' H3 := g2.act
    have okup : ∀ {H4}, Ex H3 H4 → Kps CK me H1 H4 kd kps := fun e4 => ⟨ok.at_, fun x hx => (ok.ex x hx).trans (e3.trans e4), ok.new, ok.nkd, ok.dj⟩
    refine ⟨rfl, ?_⟩
    refine (et_test (ev_neD (K := K) (σ := [some (.ref a), some (.str me), some v2, some (.str hs[i])]) (H := N) (d := .str hs[i]) (e := .str me) (ta := tVar 3) (tb := tVar 1) (ed_var rfl (.str _)) (fun N2 a2 => ed_var rfl (.str _)) (sh _ (List.getElem_mem lt)) sm)) H3 (eN.trans e3) _ fun H4 e4 => ?_
    cases hp : PyData.eqv (.str hs[i]) (.str me) with
    | true => exact ⟨kps, by rw [tk', List.filter_append, hk]; simp [hp], e2.trans (e3.trans e4), e4 _ _ (e3 _ _ hkd2), okup e4⟩
    | false =>
      refine ⟨_, rfl, _, rfl, _, rfl, fun x dx hx hdx nex => ?_⟩
      refine ⟨H4, x, dx, me, hs[i], rfl, hx, hdx, nex, rfl, fun L H5 mv ka => ⟨rfl, ?_⟩⟩
      have kd4 : H4 kd = some (.dK (kpsD kps)) := e4 _ _ (e3 _ _ hkd2)
      have r := mv.rest kd rfl (by rw [kd4]; simp)
      have e45 : Ex H4 H5 := fun b u hb => by rw [(mv.rest b rfl (by rw [hb]; simp)).1]; exact hb
      have fr : ∀ y, H4 y ≠ none → L y = none := fun y hy => (mv.rest y rfl hy).2
      have nin : hs[i] ∉ kps.map (·.1) := fun z => by
        rw [hk] at z
        have z := (List.mem_filter.mp z).1
        obtain ⟨j, hj, ej⟩ := List.getElem_of_mem z
        rw [List.length_take] at hj
        rw [List.getElem_take] at ej
        have := (List.getElem_inj nd).mp ej
        omega
      have lk : kps.length ≤ hs.length := by
        have l1 := congrArg List.length hk
        rw [List.length_map] at l1
        have l2 := List.length_filter_le (fun o => !PyData.eqv (.str o) (.str me)) (hs.take i)
        have l3 := List.length_take_le i hs
        omega
      have eput : putK (kpsD kps) (.inr hs[i]) (.ref x) = kpsD (kps ++ [(hs[i], x, L)]) := by
        rw [putK_new _ (valV_kps nin)]
        unfold kpsD
        rw [List.map_append]
        rfl
      have eputE : ∀ {M : Hp}, M kd = none → Ex M H5 → Ex M (upd H5 kd (.dK (putK (kpsD kps) (.inr hs[i]) (.ref x)))) := fun hM eM => Ex.put eM hM
      refine ⟨_, .inr hs[i], rfl, by rw [r.1]; exact kd4, sz_lt (by unfold kpsD; rw [List.length_map]; omega), kps ++ [(hs[i], x, L)], ?_, ?_, ?_, ⟨fun y hy => ?_, fun y hy => ?_, fun y hy => ?_, fun y hy => ?_, ?_⟩⟩
      · rw [tk', List.map_append, List.filter_append, hk]
        simp [hp]
      · exact Ex.put (e2.trans (e3.trans (e4.trans e45))) hkd
      · rw [upd_same, eput]
      · rcases List.mem_append.mp hy with hy | hy
        · exact ok.at_ y hy
        · rw [List.mem_singleton.mp hy]
          exact ka
      · rcases List.mem_append.mp hy with hy | hy
        · exact eputE (ok.nkd y hy) ((ok.ex y hy).trans (e3.trans (e4.trans e45)))
        · rw [List.mem_singleton.mp hy]
          exact eputE r.2 mv.sub
      · rcases List.mem_append.mp hy with hy | hy
        · exact ok.new y hy
        · rw [List.mem_singleton.mp hy]
          exact fun z hz => fr z (Ex.nn (g.act.trans (e2.trans (e3.trans e4))) hz)
      · rcases List.mem_append.mp hy with hy | hy
        · exact ok.nkd y hy
        · rw [List.mem_singleton.mp hy]
          exact r.2
      · refine List.pairwise_append.mpr ⟨ok.dj, List.pairwise_singleton _ _, fun y hy z hz => ?_⟩
        rw [List.mem_singleton.mp hz]
        intro b
        cases q : y.2.2 b with
        | none => exact .inl rfl
        | some u => exact .inr (fr b (by rw [e4 _ _ (e3 _ _ (ok.ex y hy _ _ q))]; simp))
  · have ei : i = hs.length := by omega
    subst ei
    rw [List.take_length] at hk
    exact .inl ⟨F.stop H' eN, k kd H' kps n1kd (g.act.trans e2) hkd2 ok hk⟩
abbrev s_Hand___init__ : Stmt := inClass (topS 46) 0
theorem sc_Hand___init__ : FnScope ["self", "name", "hands", "other"] ["self", "name", "hands"] (defScope s_Hand___init__) := ⟨rfl, rfl, rfl, by decide +kernel, rfl, by decide +kernel, by decide +kernel⟩
theorem ok_Hand___init__ (T : THand K C) (G_are_hands : Own P w K mg base 3 "are_hands" ["thing"] [] (spOf1 K areHands)) (G_Lots : Okc P w K mg base CX0 1 CL "Lots" ["self"] [] (spLotsInit CL)) (G_Keeping : Okc P w K mg base CX0 1 CK "Keeping" ["self", "hand", "other"] [] (spKeepI CK)) (G_NoHands : Err0 K mg C_NoHands "NoHands") (G_NoHand : Err0 K mg C_NoHand "NoHand") {f : Addr} {fd : FuncData} (F : Fun K "__init__" "Hand.__init__" s_Hand___init__ f fd) : FnOk P w K mg base (L2.CX P w) 4 f fd ["self", "name", "hands"] (spHandI K C CL CK C_NoHands C_NoHand) := by
  refine F.okX sc_Hand___init__ (fun vs H Q E h => ?_) (fun cdv A outer s H vs Q E hr h => ?_)
  · obtain ⟨H0, D, a, dx, v1, v2, rfl, _⟩ := h
    rfl
  obtain ⟨H0, D, a, dx, v1, v2, rfl, a0, d0, da, rfl, eD0, h⟩ := h
  have e0 : Ex H0 (upd (upd H0 dx (.own a)) a (.ins C dx [])) := fun b u hb => by
    rw [upd_ne (ne_of_none hb a0), upd_ne (ne_of_none hb d0)]
    exact hb
  have eD := eD0.trans e0
  rcases h with ⟨d1, d2, h1, h2, ok1, ok2, q⟩ | ⟨me, hs, rfl, h2, ok1, ok2, hah, hin, nd, hz, sh, q⟩
  · refine ⟨_, (pss_cons (ps_if (pt_not (pt_val (pe_own G_are_hands (hr.mono (by decide)) (pa_cons (pv 2) pa_nil) pass0))) (pss_one (ps_raise rfl (takes_of rfl rfl rfl rfl) (pmk_err0 G_NoHands))) pss_nil)
      (pss_cons (ps_if (pt_cmpR (op_notInTK (K := K) (room65 hr)) (pv 1) (pv 2) (by with_unfolding_all rfl)) (pss_one (ps_raise rfl (takes_of rfl rfl rfl rfl) (pmk_err0 G_NoHand))) pss_nil)
      (pss_cons (ps_fld (pv 0) (pv 1) rfl)
      (pss_cons (ps_fld (pv 0) (pv 2) rfl)
      (pss_cons (ps_fld (pv 0) (pe_ownC0 G_Lots (hr.mono (by decide)) pass0) rfl)
      (pss_one (ps_fld (pv 0) (pe_dc (own := [("other", 3)]) rfl sc_Hand___init__.nd (pi_tupK (K := K) (pv 2)) (blkOk_by (N := ["self", "name", "hands", "other"]) (sc := defScope s_Hand___init__) (by decide +kernel)) (fun _ _ _ _ _ => (pg_name (i := 3) sc_Hand___init__.nd rfl (by first | exact Or.inl rfl | exact Or.inr rfl))) (fun _ _ _ _ _ => pts_one (pt_cmpR (op_neDK (K := K) hr.units) (pv 3) (pv 1) (nomark _))) (fun _ _ _ _ _ => (pv 3)) (fun _ _ _ _ _ => (pe_ownC G_Keeping (hr.mono (by decide)) (pa_cons (pv 1) (pa_cons (pv 3) pa_nil)) pass0))) rfl))))))), ?_⟩
    refine d_when (H := D) (b := !(areHands d2)) (et_not (et_B (ev_own1 (eds1 (ed_var rfl h2)) ok2))) eD (fun hb H2 e2 => ?_) fun hb H2 e2 => ?_
    · rcases q with ⟨_, q⟩ | ⟨hs, rfl, hah, _⟩
      · exact q H2 e2
      · rw [hah] at hb
        cases hb
    · rcases q with ⟨hah, _⟩ | ⟨hs, rfl, hah, hin, q⟩
      · rw [hah] at hb
        cases hb
      · refine d_when (H := D) (b := !(inD d1 hs)) (et_test (ev_notIn (K := K) (ed_var rfl h1) (fun N a => ed_var rfl (h2.ex a)) ok1.2 ok2.2)) (eD.trans e2) (fun _ H3 e3 => q H3 (e2.trans e3)) fun hb2 => ?_
        rw [hin] at hb2
        cases hb2
  · refine ⟨_, (pss_cons (ps_if (pt_not (pt_val (pe_own G_are_hands (hr.mono (by decide)) (pa_cons (pv 2) pa_nil) pass0))) (pss_one (ps_raise rfl (takes_of rfl rfl rfl rfl) (pmk_err0 G_NoHands))) pss_nil)
      (pss_cons (ps_if (pt_cmpR (op_notInTK (K := K) (room65 hr)) (pv 1) (pv 2) (by with_unfolding_all rfl)) (pss_one (ps_raise rfl (takes_of rfl rfl rfl rfl) (pmk_err0 G_NoHand))) pss_nil)
      (pss_cons (ps_fld (pv 0) (pv 1) rfl)
      (pss_cons (ps_fld (pv 0) (pv 2) rfl)
      (pss_cons (ps_fld (pv 0) (pe_ownC0 G_Lots (hr.mono (by decide)) pass0) rfl)
      (pss_one (ps_fld (pv 0) (pe_dc (own := [("other", 3)]) rfl sc_Hand___init__.nd (pi_tupK (K := K) (pv 2)) (blkOk_by (N := ["self", "name", "hands", "other"]) (sc := defScope s_Hand___init__) (by decide +kernel)) (fun _ _ _ _ _ => (pg_name (i := 3) sc_Hand___init__.nd rfl (by first | exact Or.inl rfl | exact Or.inr rfl))) (fun _ _ _ _ _ => pts_one (pt_cmpR (op_neDK (K := K) hr.units) (pv 3) (pv 1) (nomark _))) (fun _ _ _ _ _ => (pv 3)) (fun _ _ _ _ _ => (pe_ownC G_Keeping (hr.mono (by decide)) (pa_cons (pv 1) (pa_cons (pv 3) pa_nil)) pass0))) rfl))))))), ?_⟩
    refine d_when (H := D) (b := !(areHands (.tuple (hs.map .str)))) (et_not (et_B (ev_own1 (eds1 (ed_var rfl h2)) ok2))) eD (fun hb => by rw [hah] at hb; cases hb) fun _ H2 e2 => ?_
    refine d_when (H := D) (b := !(inD (.str me) (hs.map .str))) (et_test (ev_notIn (K := K) (ed_var rfl (.str _)) (fun N a => ed_var rfl (h2.ex a)) ok1.2 ok2.2)) (eD.trans e2) (fun hb => by rw [hin] at hb; cases hb) fun _ H3 e3 => ?_
    have e13 := e2.trans e3
    have hA : H3 a = some (.ins C dx []) := e13 _ _ upd_same
    have hX : H3 dx = some (.own a) := e13 _ _ (by rw [upd_ne da]; exact upd_same)
    refine ⟨_, rfl, _, rfl, a, C, dx, [], rfl, hA, T.cl, T.n1, (by show 0 < 1000; decide), ?_⟩
    refine ⟨_, rfl, _, rfl, a, C, dx, _, rfl, upd_same, T.cl, T.n2, (by show 1 < 1000; decide), ?_⟩
    rw [upd_upd]
    intro l dxl hl hdxl nexl
    refine ⟨_, l, dxl, rfl, hl, hdxl, nexl, rfl, fun Ll H4 mv lo => ⟨rfl, ?_⟩⟩
    have rA := mv.rest a rfl (by rw [upd_same]; simp)
    refine ⟨_, rfl, a, C, dx, _, rfl, (by rw [rA.1]; exact upd_same), T.cl, T.n3, (by show 2 < 1000; decide), ?_⟩
    have e34 : ∀ {b u}, b ≠ a → H3 b = some u → H4 b = some u := fun {b u} n hb => by
      rw [(mv.rest b rfl (by rw [upd_ne n, hb]; simp)).1, upd_ne n]
      exact hb
    have fr : ∀ y, H3 y ≠ none → Ll y = none := fun y hy => (mv.rest y rfl (upd_nn hy)).2
    have e05 : ∀ {b u o}, H0 b = some u → upd H4 a o b = some u := fun {b u o} hb => by
      have n := ne_of_none hb a0
      rw [upd_ne n]
      exact e34 n (e13 _ _ (e0 _ _ hb))
    have eD5 : Ex D (upd H4 a (.ins C dx (putF "lots" (.ref l) (putF "hands" v2 (putF "hand" (.str me) []))))) := fun b u hb => e05 (eD0 _ _ hb)
    show sFld K (tVar 0) (tDc (iTup K (tVar 2)) (gName 3) (tTest (tOp (rNeD K) (tVar 3) (tVar 1))) (tVar 3) (tMake CK (spKeepI CK) [] E0 (tCons (tVar 1) (tCons (tVar 3) tNil))) [3]) "keepings" { nx := fun x H' => Q V.non H', rt := Q } [some (.ref a), some (.str me), some v2, none] _
    refine d_fldV (K := K) ?_
    refine keep_loop (D := D) (hs := hs) h2 eD5 nd (by omega) sh ok1.2 fun kd H6 kps hkd e6 hko ok hns => ?_
    have n5a : ∀ {o}, upd H4 a o a ≠ none := by simp [upd_same]
    obtain ⟨kda, h4kd⟩ := upd_none hkd
    refine ⟨_, rfl, a, C, dx, _, rfl, e6 _ _ upd_same, T.cl, T.n4, (by show 3 < 1000; decide), ?_⟩
    have nn5 : ∀ {y}, H0 y ≠ none → ∀ {o}, upd H4 a o y ≠ none := fun {y} hy {o} => by
      cases z : H0 y with
      | none => exact absurd z hy
      | some u =>
        rw [e05 z]
        simp
    have pa : ∀ x ∈ kps, x.2.2 a = none := fun x hx => ok.new x hx a n5a
    refine q _ l kd Ll kps ⟨fun b u hb => ?_, ⟨dx, upd_same⟩, ?_, ?_, kda, lo, fun b u hb => ?_, fun y hy => ?_, rA.2, ?_, hns, ⟨ok.at_, fun x hx => Ex.put (ok.ex x hx) (pa x hx), fun x hx y hy => ok.new x hx y (nn5 hy), ok.nkd, ok.dj⟩, pa, fun x hx b => ?_⟩
    · rw [upd_ne (ne_of_none hb a0)]
      exact e6 _ _ (e05 hb)
    · rw [upd_ne kda]
      exact hko
    · cases z : H0 kd with
      | none => rfl
      | some u =>
        have := e34 kda (e13 _ _ (e0 _ _ z))
        rw [h4kd] at this
        cases this
    · have n : b ≠ a := fun z => by rw [z, rA.2] at hb; cases hb
      rw [upd_ne n]
      exact e6 _ _ (by rw [upd_ne n]; exact mv.sub _ _ hb)
    · exact fr y (Ex.nn (e0.trans e13) hy)
    · cases z : Ll kd with
      | none => rfl
      | some u =>
        have := mv.sub _ _ z
        rw [h4kd] at this
        cases this
    · cases z : Ll b with
      | none => exact .inl rfl
      | some u =>
        refine .inr (ok.new x hx b ?_)
        have n : b ≠ a := fun z2 => by rw [z2, rA.2] at z; cases z
        rw [upd_ne n, mv.sub _ _ z]
        simp
end
end Sg
end
section
set_option maxRecDepth 100000
set_option maxHeartbeats 4000000
/-! The law: what a hand tells when it is asked, or how it refuses. -/
namespace Sg
open PySem PySem.Spec PyProof.Rows L2 Evl
theorem passF {X : Cx} : Passes (L2.CX X.prog X.w) X (fun _ _ _ => False) := fun pins σ H s e s' I c => by
  obtain ⟨_, _, _, _, _, _, _, _, _, _, _, _, z⟩ := c
  exact z.elim
theorem mt_indexDK {X : Cx} {K : PySem.W.Frag} (hu : X.A.units + 65 < cLine) (h : X.K = K := by rfl) : MtR X "list.index" (rIndexD K) := by
  subst h
  exact mt_indexD hu
/-- an instance made; what its __init__ lets out is wished at the slots there -/
def tMkS (C : Addr) (sp : Sp) (dvs : List V) (E : L2.St → XK) (t : TA) : TE := fun σ H Q => t σ H fun vs H1 => ∀ x dx, H1 x = none → H1 dx = none → dx ≠ x →
  sp (.ref x :: (vs ++ dvs)) (upd (upd H1 dx (.own x)) x (.ins C dx [])) (fun v H2 => v = .non ∧ Q (.ref x) H2) (E σ)
section
variable {X : Cx} {CX : CXT} {k : Nat} {C : Addr} {ps : List Str} {sp : Sp} {dvs : List V} {E : L2.St → XK} {x : Str} {p pos : Pos} {e : Expr} {es : List Expr} {t : TA}
theorem pe_mkS (F : Okc X.prog X.w X.K X.mg X.base CX k C x ps dvs sp) (hr : Room (k + 1) X.A) (ha : PA X (e :: es) t) (hx : ∀ σ, PassesAt CX X σ (E σ)) (hg : Gl X x := by rfl) (hdb : (x == ("__debug__" : Str)) = false := by decide)
    (he : starEach (e :: es) X.env = (false, eval e X.env) :: starEach es X.env := by rfl) (hpl : (backTo pos (starEach es X.env)).any (·.1) = false := by rfl) : PE X (.Call (.Name x p) (e :: es) [] pos) (tMkS C sp dvs E t) := by
  obtain ⟨f, fd, ds, hC, hM, hm, hb, hd, F⟩ := F
  refine ⟨fun pins s0 σ H0 Q I0 h0 => wpAny_Call_Name_kw (ld_glob I0 hg hm ?_ hdb)⟩
  refine PySem.W.callWith_K (h₀ := X.base) I0.ok.mod.kin hM.kp (thn (ha.run pos pins s0 σ H0 _ I0 h0) fun us s ⟨vs, H, I, r, h⟩ => ⟨I.kIn, ?_⟩) he hpl
  generalize en : s.heap.objs.size = n
  have f0 : H n = none := I.hok.fresh (by rw [en]; exact Nat.le_refl _)
  have f1 : H (n + 1) = none := I.hok.fresh (by rw [en]; exact Nat.le_succ _)
  have want := h (n + 1) n f1 f0 (Nat.ne_of_lt (Nat.lt_succ_self n))
  have J := Inv.made (C := C) I
  rw [en] at J
  have rr : Vals (V.ref (n + 1) :: (vs ++ dvs)) (Value.ref (n + 1) :: (us ++ ds)) := .cons rfl (r.append hd)
  have len : (Value.ref (n + 1) :: us ++ ds).length = ps.length := (rr.length.symm.trans (F.len _ _ _ _ want))
  refine wpAny_call (make_map (f := f) I.kIn hM.makes hM.init (beq_iff_eq.mp hM.fn) ?_)
  rw [en]
  refine codeAny_mono (F.run _ X.stack _ _ ⟨Value.ref (n + 1) :: us, []⟩ _ _ _ (E σ) (hr.make C us []) (J.env0.make C us []) (hb _ (Value.ref (n + 1) :: us) J.kIn len) rr want) fun out s2 got => ?_
  cases out with
  | error e9 => exact hx σ pins _ _ e9 s2 J got
  | ok fl =>
    cases fl with
    | ret u =>
      obtain ⟨v, H2, J2, rv, rfl, q⟩ := J.after got
      exact ⟨rv, ⟨V.ref (n + 1), H2, J2, rfl, q⟩⟩
    | next => exact got.elim
    | brk => exact got.elim
    | cont => exact got.elim
end
end Sg
end
section
set_option maxRecDepth 100000
set_option maxHeartbeats 4000000
/-! The law: a hand asked in one of six ways. -/
namespace Sg
open PySem PySem.Spec PyProof.Rows L2 Evl
def errA (c0 c1 c2 c3 : Addr) : Nat → Addr
  | 0 => c0
  | 1 => c1
  | 2 => c2
  | _ => c3
def errN : Nat → Str
  | 0 => "NoCard"
  | 1 => "NoWords"
  | 2 => "NoHand"
  | _ => "NoLines"
structure KitT (K : PySem.W.Frag) (A : Nat → Addr) (S : Addr) : Prop where
  exc : ∀ j, j < 4 → ExcC K (A j)
  sup : ∀ j, j < 4 → PySem.W.exmOne K (.ref (A j)) (.ref S) = some true
  kit : ∀ i j, i < 4 → j < 4 → PySem.W.kitOne K (.ref (A i)) (.ref (A j)) = some (decide (i = j))
structure MgL (mg : Str → Option Value) : Prop where
  m_isinstance : mg "isinstance" = none
section
variable {P : Program} {w : World} {K : PySem.W.Frag} {mg : Str → Option Value} {base : Heap} {C CL CK CS : Addr} {C_NoCard C_NoWords C_NoHand C_NoLines C_NoHands C_SaidError : Addr}
theorem q_cst {i : Nat} {v : V} {tz : TS} {D : Ends} {σ : L2.St} {H : Hp} (h : tz D (σ.set i (some v)) H) : tSeq (tAsg (tC v) (gName i)) tz D σ H := h
theorem q_seq {t tz : TS} {D : Ends} {σ : L2.St} {H : Hp} (h : t { D with nx := tz D } σ H) : tSeq t tz D σ H := h
theorem q_ifI {n m : Int} {t u : TS} {D : Ends} {σ : L2.St} {H : Hp} {i : Nat} (hv : σ[i]? = some (some (.int n))) (h1 : n = m → t D σ H) (h2 : n ≠ m → u D σ H) : tIfS (tTest (tOp (rEqD K) (tVar i) (tC (.int m)))) t u D σ H := by
  refine ⟨_, hv, .int n, .int m, .int _, .int _, rfl, rfl, _, rfl, ?_⟩
  have e : PyData.eqv (.int n) (.int m) = decide (n = m) := rfl
  rw [e]
  by_cases h : n = m
  · rw [decide_eq_true h]
    show (if true = true then t D σ H else u D σ H)
    rw [if_pos rfl]
    exact h1 h
  · rw [decide_eq_false h]
    show (if false = true then t D σ H else u D σ H)
    rw [if_neg (by simp)]
    exact h2 h
/-- what is asked, by the way -/
def ask (K : PySem.W.Frag) (C CL CK cC cW cH cN : Addr) (a : Addr) (one two : V) : Nat → Hp → VK → XK → Prop
  | 0 => spSee K C CL cW [.ref a, one]
  | 1 => spLook K C CL cC cW [.ref a, one, two]
  | 2 => spOne K C CL cC [.ref a, one, two]
  | 3 => fun H Q E => spWriteX K C CL cH cN cC [.ref a, one, two] H Q E ∨ spWriteOk K C CL CK [.ref a, one, two] H Q E
  | 4 => spGroundX K C cH [.ref a, one]
  | _ => spKept K C CK cH [.ref a, one]
def spTold (K : PySem.W.Frag) (C CL CK cC cW cH cN : Addr) : Sp := fun vs H Q _ => ∃ (a : Addr) (way : Nat) (one two : V) (dx : Addr) (me : Str) (hv : V) (l kd : Addr), vs = [.ref a, .int (way : Int), one, two] ∧ way ≤ 5 ∧ H a = some (.ins C dx (handF me hv l kd)) ∧
  ∀ (Q' : VK) (E' : XK), (∀ v H2, (∀ p, H2 p = none → Q (.ref p) (upd H2 p (.lst [.str "ok", v]))) → Q' v H2) →
    (∀ j H2, j < 4 → (∀ p H3, H2 p = none → Ex H2 H3 → H3 p = some (.lst [.str (errN j)]) → Q (.ref p) H3) → E' (.ref (errA cC cW cH cN j)) none H2) → ask K C CL CK cC cW cH cN a one two way H Q' E'
abbrev s__law_told : Stmt := topS 52
theorem sc__law_told : FnScope ["alone", "way", "one", "two", "error", "told", "caught", "got"] ["alone", "way", "one", "two"] (defScope s__law_told) := ⟨rfl, rfl, rfl, by decide +kernel, rfl, by decide +kernel, by decide +kernel⟩
theorem ok__law_told (M : MgL mg) (B : KitT K (errA C_NoCard C_NoWords C_NoHand C_NoLines) C_SaidError) (G_cls_SaidError : mg "SaidError" = some (.ref C_SaidError)) (G_cls_NoCard : mg "NoCard" = some (.ref C_NoCard)) (G_cls_NoWords : mg "NoWords" = some (.ref C_NoWords)) (G_cls_NoHand : mg "NoHand" = some (.ref C_NoHand)) (G_cls_NoLines : mg "NoLines" = some (.ref C_NoLines))
    (G_Hand_see : OwnX P w K mg base 3 C "see" ["self", "words"] (spSee K C CL C_NoWords)) (G_Hand_look : OwnX P w K mg base 3 C "look" ["self", "card", "words"] (spLook K C CL C_NoCard C_NoWords)) (G_Hand_one : OwnX P w K mg base 3 C "one" ["self", "card", "other"] (spOne K C CL C_NoCard))
    (G_Hand_write : OwnX P w K mg base 5 C "write" ["self", "to", "lines"] (fun vs H Q E => spWriteX K C CL C_NoHand C_NoLines C_NoCard vs H Q E ∨ spWriteOk K C CL CK vs H Q E)) (G_Hand_ground : OwnX P w K mg base 2 C "ground" ["self", "other"] (spGroundX K C C_NoHand)) (G_Hand_kept : OwnX P w K mg base 2 C "kept" ["self", "other"] (spKept K C CK C_NoHand))
    {f : Addr} {fd : FuncData} (F : Fun K "_law_told" "_law_told" s__law_told f fd) : FnOk P w K mg base CX0 6 f fd ["alone", "way", "one", "two"] (spTold K C CL CK C_NoCard C_NoWords C_NoHand C_NoLines) := by
  refine F.ok sc__law_told (fun vs H Q E h => ?_) (fun cdv A outer s H vs Q E hr h => ?_)
  · obtain ⟨a, way, one, two, dx, me, hv, l, kd, rfl, _⟩ := h
    rfl
  obtain ⟨a, way, one, two, dx, me, hv, l, kd, rfl, hw, ob, ha⟩ := h
  refine ⟨_, (pss_cons (ps_set (i := 4) sc__law_told.nd rfl (by first | exact Or.inl rfl | exact Or.inr rfl) pe_non)
      (pss_cons (ps_set (i := 5) sc__law_told.nd rfl (by first | exact Or.inl rfl | exact Or.inr rfl) pe_non)
      (pss_cons (ps_try_keep (i := 6) rfl rfl sc__law_told.nd rfl rfl ⟨rfl, by decide, Or.inl G_cls_SaidError⟩ takes0 (fun W pn xe tk po => (pss_one (ps_if (pt_cmpR (op_eqDK (K := K) hr.units) (pv 1) pe_int (nomark _)) (pss_one (ps_set (i := 5) sc__law_told.nd rfl (by first | exact Or.inl rfl | exact Or.inr rfl) (pe_ownMS G_Hand_see (hr.mono (by decide)) (pv 0) (pa_cons (pv 2) pa_nil) (fun σ => passAt tk σ)))) (pss_one (ps_if (pt_cmpR (op_eqDK (K := K) hr.units) (pv 1) pe_int (nomark _)) (pss_one (ps_set (i := 5) sc__law_told.nd rfl (by first | exact Or.inl rfl | exact Or.inr rfl) (pe_ownMS G_Hand_look (hr.mono (by decide)) (pv 0) (pa_cons (pv 2) (pa_cons (pv 3) pa_nil)) (fun σ => passAt tk σ)))) (pss_one (ps_if (pt_cmpR (op_eqDK (K := K) hr.units) (pv 1) pe_int (nomark _)) (pss_one (ps_set (i := 5) sc__law_told.nd rfl (by first | exact Or.inl rfl | exact Or.inr rfl) (pe_ownMS G_Hand_one (hr.mono (by decide)) (pv 0) (pa_cons (pv 2) (pa_cons (pv 3) pa_nil)) (fun σ => passAt tk σ)))) (pss_one (ps_if (pt_cmpR (op_eqDK (K := K) hr.units) (pv 1) pe_int (nomark _)) (pss_one (ps_set (i := 5) sc__law_told.nd rfl (by first | exact Or.inl rfl | exact Or.inr rfl) (pe_ownMS G_Hand_write (hr.mono (by decide)) (pv 0) (pa_cons (pv 2) (pa_cons (pv 3) pa_nil)) (fun σ => passAt tk σ)))) (pss_one (ps_if (pt_cmpR (op_eqDK (K := K) hr.units) (pv 1) pe_int (nomark _)) (pss_one (ps_set (i := 5) sc__law_told.nd rfl (by first | exact Or.inl rfl | exact Or.inr rfl) (pe_ownMS G_Hand_ground (hr.mono (by decide)) (pv 0) (pa_cons (pv 2) pa_nil) (fun σ => passAt tk σ)))) (pss_one (ps_set (i := 5) sc__law_told.nd rfl (by first | exact Or.inl rfl | exact Or.inr rfl) (pe_ownMS G_Hand_kept (hr.mono (by decide)) (pv 0) (pa_cons (pv 2) pa_nil) (fun σ => passAt tk σ))))))))))))))) (fun a oe cls d pn hz hf => (pss_one (ps_set (i := 4) sc__law_told.nd rfl (by first | exact Or.inl rfl | exact Or.inr rfl) (pv 6)))))
      (pss_cons (ps_if (pt_cmp (pc_isN (pv 4))) (pss_one (ps_ret (pe_lst (pa_cons pe_str (pa_cons (pv 5) pa_nil))))) pss_nil)
      (pss_cons (ps_set (i := 7) sc__law_told.nd rfl (by first | exact Or.inl rfl | exact Or.inr rfl) (pe_lst (pa_cons (pe_callB (call_isTK (K := K)) (by rfl) M.m_isinstance boot_isinstance (pa_cons (pv 4) (pa_cons (pe_cst (v := .ref C_NoCard) ⟨_, G_cls_NoCard, rfl⟩) pa_nil))) (pa_cons (pe_callB (call_isTK (K := K)) (by rfl) M.m_isinstance boot_isinstance (pa_cons (pv 4) (pa_cons (pe_cst (v := .ref C_NoWords) ⟨_, G_cls_NoWords, rfl⟩) pa_nil))) (pa_cons (pe_callB (call_isTK (K := K)) (by rfl) M.m_isinstance boot_isinstance (pa_cons (pv 4) (pa_cons (pe_cst (v := .ref C_NoHand) ⟨_, G_cls_NoHand, rfl⟩) pa_nil))) pa_nil)))))
      (pss_cons (ps_set (i := 7) sc__law_told.nd rfl (by first | exact Or.inl rfl | exact Or.inr rfl) (pe_op op_cat (pv 7) (pe_lst (pa_cons (pe_callB (call_isTK (K := K)) (by rfl) M.m_isinstance boot_isinstance (pa_cons (pv 4) (pa_cons (pe_cst (v := .ref C_NoLines) ⟨_, G_cls_NoLines, rfl⟩) pa_nil))) pa_nil))))
      (pss_one (ps_ret (pe_lst (pa_cons (pe_ix (ix_listK (K := K)) (pe_lst (pa_cons pe_str (pa_cons pe_str (pa_cons pe_str (pa_cons pe_str (pa_cons pe_str pa_nil)))))) (pe_bm PySem.F.plainAttrs_list PySem.F.slot_list_index PySem.F.type_list_index (mt_indexDK (K := K) (room65 hr)) (pe_op op_cat (pv 7) (pe_lst (pa_cons pe_bl pa_nil))) (pa_cons pe_bl pa_nil)) (fun _ _ => rfl)) pa_nil)))))))))), ?_⟩
  refine q_cst (q_cst (q_seq ?_))
  dsimp only
  have step : ∀ {m : Int} {t u : TS} {D : Ends}, ((way : Int) = m → t D [some (.ref a), some (.int (way : Int)), some one, some two, some .non, some .non, none, none] H) → ((way : Int) ≠ m → u D [some (.ref a), some (.int (way : Int)), some one, some two, some .non, some .non, none, none] H) → tIfS (tTest (tOp (rEqD K) (tVar 1) (tC (.int m)))) t u D [some (.ref a), some (.int (way : Int)), some one, some two, some .non, some .non, none, none] H := fun h1 h2 => q_ifI (K := K) rfl h1 h2
  refine step (fun h0 => ?_) fun n0 => step (fun h1 => ?_) fun n1 => step (fun h2 => ?_) fun n2 => step (fun h3 => ?_) fun n3 => step (fun h4 => ?_) fun n4 => ?_
  · obtain rfl : way = 0 := by omega
    refine ⟨_, rfl, a, dx, _, rfl, ob, rfl, _, rfl, ha _ _ (fun v H2 hq => ?ok) fun j H2 hj he => ?er⟩
    case ok => exact ⟨.non, rfl, true, rfl, _, rfl, (by show 2 ≤ sizeLine; decide), fun p hp => hq p hp⟩
    case er =>
      refine ⟨true, B.sup j hj, fun _ e9 he9 => ⟨_, rfl, fun _ => ?_⟩, fun h => nomatch h⟩
      refine ⟨_, rfl, false, rfl, ?_⟩
      have hx : ∀ {H3 : Hp}, Ex (upd H2 e9 (errAt e9 (.ref (errA C_NoCard C_NoWords C_NoHand C_NoLines j)) none)) H3 → H3 e9 = some (errAt e9 (.ref (errA C_NoCard C_NoWords C_NoHand C_NoLines j)) none) := fun e => e _ _ upd_same
      refine ⟨_, rfl, e9, _, .ref C_NoCard, .ref C_NoCard, _, rfl, .inr (hx (Ex.refl _)), B.exc j hj, (fun u h => h), B.kit j 0 hj (by decide), _, rfl, e9, _, .ref C_NoWords, .ref C_NoWords, _, rfl, .inr (hx (Ex.refl _)), B.exc j hj, (fun u h => h), B.kit j 1 hj (by decide), _, rfl, e9, _, .ref C_NoHand, .ref C_NoHand, _, rfl, .inr (hx (Ex.refl _)), B.exc j hj, (fun u h => h), B.kit j 2 hj (by decide), (by show 3 ≤ sizeLine; decide), fun p1 hp1 => ?_⟩
      have n12 : e9 ≠ p1 := ne_of_none (hx (Ex.refl _)) hp1
      refine ⟨_, rfl, _, rfl, e9, _, .ref C_NoLines, .ref C_NoLines, _, rfl, .inr (by show upd _ _ _ _ = _; rw [upd_ne n12]; exact hx (Ex.refl _)), B.exc j hj, (fun u h => h), B.kit j 3 hj (by decide), (by show 1 ≤ sizeLine; decide), fun p2 hp2 => ⟨p1, p2, _, _, rfl, rfl, (by rw [upd_ne (upd_none hp2).1.symm]; exact upd_same), upd_same, (by show 4 ≤ sizeLine; decide), fun p3 hp3 => ?_⟩⟩
      refine ⟨(by show 5 ≤ sizeLine; decide), fun p4 hp4 => ?_⟩
      refine ⟨_, rfl, (by show 1 ≤ sizeLine; decide), fun p5 hp5 => ?_⟩
      have x1 := Ex.new (o := errAt e9 (.ref (errA C_NoCard C_NoWords C_NoHand C_NoLines j)) none) he9
      have x2 := x1.trans (Ex.new (o := .lst [.bl (decide (j = 0)), .bl (decide (j = 1)), .bl (decide (j = 2))]) hp1)
      have x3 := x2.trans (Ex.new (o := .lst [.bl (decide (j = 3))]) hp2)
      have x4 := x3.trans (Ex.new (o := .lst ([.bl (decide (j = 0)), .bl (decide (j = 1)), .bl (decide (j = 2))] ++ [.bl (decide (j = 3))])) hp3)
      have x5 := x4.trans (Ex.new (o := .lst [.str "NoCard", .str "NoWords", .str "NoHand", .str "NoLines", .str "other"]) hp4)
      have x6 := x5.trans (Ex.new (o := .lst [.bl true]) hp5)
      have h35 := (upd_none hp5).1
      have h45 := (upd_none hp5).1
      refine ⟨p3, p5, [.bl (decide (j = 0)), .bl (decide (j = 1)), .bl (decide (j = 2))] ++ [.bl (decide (j = 3))], [.bl true], rfl, rfl, ?_, upd_same, (by show 5 ≤ sizeLine; decide), fun p6 hp6 => ?_⟩
      · rw [upd_ne (upd_none (upd_none hp5).2).1.symm, upd_ne (upd_none hp4).1.symm]
        exact upd_same
      have x7 := x6.trans (Ex.new (o := .lst ([.bl (decide (j = 0)), .bl (decide (j = 1)), .bl (decide (j = 2))] ++ [.bl (decide (j = 3))] ++ [.bl true])) hp6)
      have h4 : upd (upd (upd (upd (upd (upd (upd H2 e9 (errAt e9 (.ref (errA C_NoCard C_NoWords C_NoHand C_NoLines j)) none)) p1 (.lst [.bl (decide (j = 0)), .bl (decide (j = 1)), .bl (decide (j = 2))])) p2 (.lst [.bl (decide (j = 3))])) p3 (.lst ([.bl (decide (j = 0)), .bl (decide (j = 1)), .bl (decide (j = 2))] ++ [.bl (decide (j = 3))]))) p4 (.lst [.str "NoCard", .str "NoWords", .str "NoHand", .str "NoLines", .str "other"])) p5 (.lst [.bl true])) p6 (.lst ([.bl (decide (j = 0)), .bl (decide (j = 1)), .bl (decide (j = 2))] ++ [.bl (decide (j = 3))] ++ [.bl true])) p4 = some (.lst [.str "NoCard", .str "NoWords", .str "NoHand", .str "NoLines", .str "other"]) := by
        rw [upd_ne (upd_none (upd_none hp6).2).1.symm, upd_ne (upd_none hp5).1.symm]
        exact upd_same
      refine ⟨.inl ⟨rfl, _, SqL.of upd_same⟩, p6, .bl true, .bool true, [.bool (decide (j = 0)), .bool (decide (j = 1)), .bool (decide (j = 2)), .bool (decide (j = 3)), .bool true], j, .bool true, rfl, rfl, .lst (sq_of upd_same) (.cons (.bl _) (.cons (.bl _) (.cons (.bl _) (.cons (.bl _) (.cons (.bl _) .nil))))), .bl true, ?_, rfl, ?_, rfl, ?_, p4, _, ((j : Nat) : Int), .str (errN j), rfl, rfl, sq_of h4, ?_, (by show 1 ≤ sizeLine; decide), fun p7 hp7 => he p7 _ (fresh_back x7 hp7) (x7.trans (Ex.new hp7)) upd_same⟩
      · rcases (show j = 0 ∨ j = 1 ∨ j = 2 ∨ j = 3 by omega) with rfl | rfl | rfl | rfl <;> rfl
      · rcases (show j = 0 ∨ j = 1 ∨ j = 2 ∨ j = 3 by omega) with rfl | rfl | rfl | rfl <;> rfl
      · intro m z' hm hz'
        rcases (show j = 0 ∨ j = 1 ∨ j = 2 ∨ j = 3 by omega) with rfl | rfl | rfl | rfl <;> (rcases (show m = 0 ∨ m = 1 ∨ m = 2 by omega) with rfl | rfl | rfl <;> first | omega | (cases hz'; rfl))
      · rcases (show j = 0 ∨ j = 1 ∨ j = 2 ∨ j = 3 by omega) with rfl | rfl | rfl | rfl <;> rfl
  · obtain rfl : way = 1 := by omega
    refine ⟨_, rfl, a, dx, _, rfl, ob, rfl, _, rfl, _, rfl, ha _ _ (fun v H2 hq => ?ok) fun j H2 hj he => ?er⟩
    case ok => exact ⟨.non, rfl, true, rfl, _, rfl, (by show 2 ≤ sizeLine; decide), fun p hp => hq p hp⟩
    case er =>
      refine ⟨true, B.sup j hj, fun _ e9 he9 => ⟨_, rfl, fun _ => ?_⟩, fun h => nomatch h⟩
      refine ⟨_, rfl, false, rfl, ?_⟩
      have hx : ∀ {H3 : Hp}, Ex (upd H2 e9 (errAt e9 (.ref (errA C_NoCard C_NoWords C_NoHand C_NoLines j)) none)) H3 → H3 e9 = some (errAt e9 (.ref (errA C_NoCard C_NoWords C_NoHand C_NoLines j)) none) := fun e => e _ _ upd_same
      refine ⟨_, rfl, e9, _, .ref C_NoCard, .ref C_NoCard, _, rfl, .inr (hx (Ex.refl _)), B.exc j hj, (fun u h => h), B.kit j 0 hj (by decide), _, rfl, e9, _, .ref C_NoWords, .ref C_NoWords, _, rfl, .inr (hx (Ex.refl _)), B.exc j hj, (fun u h => h), B.kit j 1 hj (by decide), _, rfl, e9, _, .ref C_NoHand, .ref C_NoHand, _, rfl, .inr (hx (Ex.refl _)), B.exc j hj, (fun u h => h), B.kit j 2 hj (by decide), (by show 3 ≤ sizeLine; decide), fun p1 hp1 => ?_⟩
      have n12 : e9 ≠ p1 := ne_of_none (hx (Ex.refl _)) hp1
      refine ⟨_, rfl, _, rfl, e9, _, .ref C_NoLines, .ref C_NoLines, _, rfl, .inr (by show upd _ _ _ _ = _; rw [upd_ne n12]; exact hx (Ex.refl _)), B.exc j hj, (fun u h => h), B.kit j 3 hj (by decide), (by show 1 ≤ sizeLine; decide), fun p2 hp2 => ⟨p1, p2, _, _, rfl, rfl, (by rw [upd_ne (upd_none hp2).1.symm]; exact upd_same), upd_same, (by show 4 ≤ sizeLine; decide), fun p3 hp3 => ?_⟩⟩
      refine ⟨(by show 5 ≤ sizeLine; decide), fun p4 hp4 => ?_⟩
      refine ⟨_, rfl, (by show 1 ≤ sizeLine; decide), fun p5 hp5 => ?_⟩
      have x1 := Ex.new (o := errAt e9 (.ref (errA C_NoCard C_NoWords C_NoHand C_NoLines j)) none) he9
      have x2 := x1.trans (Ex.new (o := .lst [.bl (decide (j = 0)), .bl (decide (j = 1)), .bl (decide (j = 2))]) hp1)
      have x3 := x2.trans (Ex.new (o := .lst [.bl (decide (j = 3))]) hp2)
      have x4 := x3.trans (Ex.new (o := .lst ([.bl (decide (j = 0)), .bl (decide (j = 1)), .bl (decide (j = 2))] ++ [.bl (decide (j = 3))])) hp3)
      have x5 := x4.trans (Ex.new (o := .lst [.str "NoCard", .str "NoWords", .str "NoHand", .str "NoLines", .str "other"]) hp4)
      have x6 := x5.trans (Ex.new (o := .lst [.bl true]) hp5)
      have h35 := (upd_none hp5).1
      have h45 := (upd_none hp5).1
      refine ⟨p3, p5, [.bl (decide (j = 0)), .bl (decide (j = 1)), .bl (decide (j = 2))] ++ [.bl (decide (j = 3))], [.bl true], rfl, rfl, ?_, upd_same, (by show 5 ≤ sizeLine; decide), fun p6 hp6 => ?_⟩
      · rw [upd_ne (upd_none (upd_none hp5).2).1.symm, upd_ne (upd_none hp4).1.symm]
        exact upd_same
      have x7 := x6.trans (Ex.new (o := .lst ([.bl (decide (j = 0)), .bl (decide (j = 1)), .bl (decide (j = 2))] ++ [.bl (decide (j = 3))] ++ [.bl true])) hp6)
      have h4 : upd (upd (upd (upd (upd (upd (upd H2 e9 (errAt e9 (.ref (errA C_NoCard C_NoWords C_NoHand C_NoLines j)) none)) p1 (.lst [.bl (decide (j = 0)), .bl (decide (j = 1)), .bl (decide (j = 2))])) p2 (.lst [.bl (decide (j = 3))])) p3 (.lst ([.bl (decide (j = 0)), .bl (decide (j = 1)), .bl (decide (j = 2))] ++ [.bl (decide (j = 3))]))) p4 (.lst [.str "NoCard", .str "NoWords", .str "NoHand", .str "NoLines", .str "other"])) p5 (.lst [.bl true])) p6 (.lst ([.bl (decide (j = 0)), .bl (decide (j = 1)), .bl (decide (j = 2))] ++ [.bl (decide (j = 3))] ++ [.bl true])) p4 = some (.lst [.str "NoCard", .str "NoWords", .str "NoHand", .str "NoLines", .str "other"]) := by
        rw [upd_ne (upd_none (upd_none hp6).2).1.symm, upd_ne (upd_none hp5).1.symm]
        exact upd_same
      refine ⟨.inl ⟨rfl, _, SqL.of upd_same⟩, p6, .bl true, .bool true, [.bool (decide (j = 0)), .bool (decide (j = 1)), .bool (decide (j = 2)), .bool (decide (j = 3)), .bool true], j, .bool true, rfl, rfl, .lst (sq_of upd_same) (.cons (.bl _) (.cons (.bl _) (.cons (.bl _) (.cons (.bl _) (.cons (.bl _) .nil))))), .bl true, ?_, rfl, ?_, rfl, ?_, p4, _, ((j : Nat) : Int), .str (errN j), rfl, rfl, sq_of h4, ?_, (by show 1 ≤ sizeLine; decide), fun p7 hp7 => he p7 _ (fresh_back x7 hp7) (x7.trans (Ex.new hp7)) upd_same⟩
      · rcases (show j = 0 ∨ j = 1 ∨ j = 2 ∨ j = 3 by omega) with rfl | rfl | rfl | rfl <;> rfl
      · rcases (show j = 0 ∨ j = 1 ∨ j = 2 ∨ j = 3 by omega) with rfl | rfl | rfl | rfl <;> rfl
      · intro m z' hm hz'
        rcases (show j = 0 ∨ j = 1 ∨ j = 2 ∨ j = 3 by omega) with rfl | rfl | rfl | rfl <;> (rcases (show m = 0 ∨ m = 1 ∨ m = 2 by omega) with rfl | rfl | rfl <;> first | omega | (cases hz'; rfl))
      · rcases (show j = 0 ∨ j = 1 ∨ j = 2 ∨ j = 3 by omega) with rfl | rfl | rfl | rfl <;> rfl
  · obtain rfl : way = 2 := by omega
    refine ⟨_, rfl, a, dx, _, rfl, ob, rfl, _, rfl, _, rfl, ha _ _ (fun v H2 hq => ?ok) fun j H2 hj he => ?er⟩
    case ok => exact ⟨.non, rfl, true, rfl, _, rfl, (by show 2 ≤ sizeLine; decide), fun p hp => hq p hp⟩
    case er =>
      refine ⟨true, B.sup j hj, fun _ e9 he9 => ⟨_, rfl, fun _ => ?_⟩, fun h => nomatch h⟩
      refine ⟨_, rfl, false, rfl, ?_⟩
      have hx : ∀ {H3 : Hp}, Ex (upd H2 e9 (errAt e9 (.ref (errA C_NoCard C_NoWords C_NoHand C_NoLines j)) none)) H3 → H3 e9 = some (errAt e9 (.ref (errA C_NoCard C_NoWords C_NoHand C_NoLines j)) none) := fun e => e _ _ upd_same
      refine ⟨_, rfl, e9, _, .ref C_NoCard, .ref C_NoCard, _, rfl, .inr (hx (Ex.refl _)), B.exc j hj, (fun u h => h), B.kit j 0 hj (by decide), _, rfl, e9, _, .ref C_NoWords, .ref C_NoWords, _, rfl, .inr (hx (Ex.refl _)), B.exc j hj, (fun u h => h), B.kit j 1 hj (by decide), _, rfl, e9, _, .ref C_NoHand, .ref C_NoHand, _, rfl, .inr (hx (Ex.refl _)), B.exc j hj, (fun u h => h), B.kit j 2 hj (by decide), (by show 3 ≤ sizeLine; decide), fun p1 hp1 => ?_⟩
      have n12 : e9 ≠ p1 := ne_of_none (hx (Ex.refl _)) hp1
      refine ⟨_, rfl, _, rfl, e9, _, .ref C_NoLines, .ref C_NoLines, _, rfl, .inr (by show upd _ _ _ _ = _; rw [upd_ne n12]; exact hx (Ex.refl _)), B.exc j hj, (fun u h => h), B.kit j 3 hj (by decide), (by show 1 ≤ sizeLine; decide), fun p2 hp2 => ⟨p1, p2, _, _, rfl, rfl, (by rw [upd_ne (upd_none hp2).1.symm]; exact upd_same), upd_same, (by show 4 ≤ sizeLine; decide), fun p3 hp3 => ?_⟩⟩
      refine ⟨(by show 5 ≤ sizeLine; decide), fun p4 hp4 => ?_⟩
      refine ⟨_, rfl, (by show 1 ≤ sizeLine; decide), fun p5 hp5 => ?_⟩
      have x1 := Ex.new (o := errAt e9 (.ref (errA C_NoCard C_NoWords C_NoHand C_NoLines j)) none) he9
      have x2 := x1.trans (Ex.new (o := .lst [.bl (decide (j = 0)), .bl (decide (j = 1)), .bl (decide (j = 2))]) hp1)
      have x3 := x2.trans (Ex.new (o := .lst [.bl (decide (j = 3))]) hp2)
      have x4 := x3.trans (Ex.new (o := .lst ([.bl (decide (j = 0)), .bl (decide (j = 1)), .bl (decide (j = 2))] ++ [.bl (decide (j = 3))])) hp3)
      have x5 := x4.trans (Ex.new (o := .lst [.str "NoCard", .str "NoWords", .str "NoHand", .str "NoLines", .str "other"]) hp4)
      have x6 := x5.trans (Ex.new (o := .lst [.bl true]) hp5)
      have h35 := (upd_none hp5).1
      have h45 := (upd_none hp5).1
      refine ⟨p3, p5, [.bl (decide (j = 0)), .bl (decide (j = 1)), .bl (decide (j = 2))] ++ [.bl (decide (j = 3))], [.bl true], rfl, rfl, ?_, upd_same, (by show 5 ≤ sizeLine; decide), fun p6 hp6 => ?_⟩
      · rw [upd_ne (upd_none (upd_none hp5).2).1.symm, upd_ne (upd_none hp4).1.symm]
        exact upd_same
      have x7 := x6.trans (Ex.new (o := .lst ([.bl (decide (j = 0)), .bl (decide (j = 1)), .bl (decide (j = 2))] ++ [.bl (decide (j = 3))] ++ [.bl true])) hp6)
      have h4 : upd (upd (upd (upd (upd (upd (upd H2 e9 (errAt e9 (.ref (errA C_NoCard C_NoWords C_NoHand C_NoLines j)) none)) p1 (.lst [.bl (decide (j = 0)), .bl (decide (j = 1)), .bl (decide (j = 2))])) p2 (.lst [.bl (decide (j = 3))])) p3 (.lst ([.bl (decide (j = 0)), .bl (decide (j = 1)), .bl (decide (j = 2))] ++ [.bl (decide (j = 3))]))) p4 (.lst [.str "NoCard", .str "NoWords", .str "NoHand", .str "NoLines", .str "other"])) p5 (.lst [.bl true])) p6 (.lst ([.bl (decide (j = 0)), .bl (decide (j = 1)), .bl (decide (j = 2))] ++ [.bl (decide (j = 3))] ++ [.bl true])) p4 = some (.lst [.str "NoCard", .str "NoWords", .str "NoHand", .str "NoLines", .str "other"]) := by
        rw [upd_ne (upd_none (upd_none hp6).2).1.symm, upd_ne (upd_none hp5).1.symm]
        exact upd_same
      refine ⟨.inl ⟨rfl, _, SqL.of upd_same⟩, p6, .bl true, .bool true, [.bool (decide (j = 0)), .bool (decide (j = 1)), .bool (decide (j = 2)), .bool (decide (j = 3)), .bool true], j, .bool true, rfl, rfl, .lst (sq_of upd_same) (.cons (.bl _) (.cons (.bl _) (.cons (.bl _) (.cons (.bl _) (.cons (.bl _) .nil))))), .bl true, ?_, rfl, ?_, rfl, ?_, p4, _, ((j : Nat) : Int), .str (errN j), rfl, rfl, sq_of h4, ?_, (by show 1 ≤ sizeLine; decide), fun p7 hp7 => he p7 _ (fresh_back x7 hp7) (x7.trans (Ex.new hp7)) upd_same⟩
      · rcases (show j = 0 ∨ j = 1 ∨ j = 2 ∨ j = 3 by omega) with rfl | rfl | rfl | rfl <;> rfl
      · rcases (show j = 0 ∨ j = 1 ∨ j = 2 ∨ j = 3 by omega) with rfl | rfl | rfl | rfl <;> rfl
      · intro m z' hm hz'
        rcases (show j = 0 ∨ j = 1 ∨ j = 2 ∨ j = 3 by omega) with rfl | rfl | rfl | rfl <;> (rcases (show m = 0 ∨ m = 1 ∨ m = 2 by omega) with rfl | rfl | rfl <;> first | omega | (cases hz'; rfl))
      · rcases (show j = 0 ∨ j = 1 ∨ j = 2 ∨ j = 3 by omega) with rfl | rfl | rfl | rfl <;> rfl
  · obtain rfl : way = 3 := by omega
    refine ⟨_, rfl, a, dx, _, rfl, ob, rfl, _, rfl, _, rfl, ha _ _ (fun v H2 hq => ?ok) fun j H2 hj he => ?er⟩
    case ok => exact ⟨.non, rfl, true, rfl, _, rfl, (by show 2 ≤ sizeLine; decide), fun p hp => hq p hp⟩
    case er =>
      refine ⟨true, B.sup j hj, fun _ e9 he9 => ⟨_, rfl, fun _ => ?_⟩, fun h => nomatch h⟩
      refine ⟨_, rfl, false, rfl, ?_⟩
      have hx : ∀ {H3 : Hp}, Ex (upd H2 e9 (errAt e9 (.ref (errA C_NoCard C_NoWords C_NoHand C_NoLines j)) none)) H3 → H3 e9 = some (errAt e9 (.ref (errA C_NoCard C_NoWords C_NoHand C_NoLines j)) none) := fun e => e _ _ upd_same
      refine ⟨_, rfl, e9, _, .ref C_NoCard, .ref C_NoCard, _, rfl, .inr (hx (Ex.refl _)), B.exc j hj, (fun u h => h), B.kit j 0 hj (by decide), _, rfl, e9, _, .ref C_NoWords, .ref C_NoWords, _, rfl, .inr (hx (Ex.refl _)), B.exc j hj, (fun u h => h), B.kit j 1 hj (by decide), _, rfl, e9, _, .ref C_NoHand, .ref C_NoHand, _, rfl, .inr (hx (Ex.refl _)), B.exc j hj, (fun u h => h), B.kit j 2 hj (by decide), (by show 3 ≤ sizeLine; decide), fun p1 hp1 => ?_⟩
      have n12 : e9 ≠ p1 := ne_of_none (hx (Ex.refl _)) hp1
      refine ⟨_, rfl, _, rfl, e9, _, .ref C_NoLines, .ref C_NoLines, _, rfl, .inr (by show upd _ _ _ _ = _; rw [upd_ne n12]; exact hx (Ex.refl _)), B.exc j hj, (fun u h => h), B.kit j 3 hj (by decide), (by show 1 ≤ sizeLine; decide), fun p2 hp2 => ⟨p1, p2, _, _, rfl, rfl, (by rw [upd_ne (upd_none hp2).1.symm]; exact upd_same), upd_same, (by show 4 ≤ sizeLine; decide), fun p3 hp3 => ?_⟩⟩
      refine ⟨(by show 5 ≤ sizeLine; decide), fun p4 hp4 => ?_⟩
      refine ⟨_, rfl, (by show 1 ≤ sizeLine; decide), fun p5 hp5 => ?_⟩
      have x1 := Ex.new (o := errAt e9 (.ref (errA C_NoCard C_NoWords C_NoHand C_NoLines j)) none) he9
      have x2 := x1.trans (Ex.new (o := .lst [.bl (decide (j = 0)), .bl (decide (j = 1)), .bl (decide (j = 2))]) hp1)
      have x3 := x2.trans (Ex.new (o := .lst [.bl (decide (j = 3))]) hp2)
      have x4 := x3.trans (Ex.new (o := .lst ([.bl (decide (j = 0)), .bl (decide (j = 1)), .bl (decide (j = 2))] ++ [.bl (decide (j = 3))])) hp3)
      have x5 := x4.trans (Ex.new (o := .lst [.str "NoCard", .str "NoWords", .str "NoHand", .str "NoLines", .str "other"]) hp4)
      have x6 := x5.trans (Ex.new (o := .lst [.bl true]) hp5)
      have h35 := (upd_none hp5).1
      have h45 := (upd_none hp5).1
      refine ⟨p3, p5, [.bl (decide (j = 0)), .bl (decide (j = 1)), .bl (decide (j = 2))] ++ [.bl (decide (j = 3))], [.bl true], rfl, rfl, ?_, upd_same, (by show 5 ≤ sizeLine; decide), fun p6 hp6 => ?_⟩
      · rw [upd_ne (upd_none (upd_none hp5).2).1.symm, upd_ne (upd_none hp4).1.symm]
        exact upd_same
      have x7 := x6.trans (Ex.new (o := .lst ([.bl (decide (j = 0)), .bl (decide (j = 1)), .bl (decide (j = 2))] ++ [.bl (decide (j = 3))] ++ [.bl true])) hp6)
      have h4 : upd (upd (upd (upd (upd (upd (upd H2 e9 (errAt e9 (.ref (errA C_NoCard C_NoWords C_NoHand C_NoLines j)) none)) p1 (.lst [.bl (decide (j = 0)), .bl (decide (j = 1)), .bl (decide (j = 2))])) p2 (.lst [.bl (decide (j = 3))])) p3 (.lst ([.bl (decide (j = 0)), .bl (decide (j = 1)), .bl (decide (j = 2))] ++ [.bl (decide (j = 3))]))) p4 (.lst [.str "NoCard", .str "NoWords", .str "NoHand", .str "NoLines", .str "other"])) p5 (.lst [.bl true])) p6 (.lst ([.bl (decide (j = 0)), .bl (decide (j = 1)), .bl (decide (j = 2))] ++ [.bl (decide (j = 3))] ++ [.bl true])) p4 = some (.lst [.str "NoCard", .str "NoWords", .str "NoHand", .str "NoLines", .str "other"]) := by
        rw [upd_ne (upd_none (upd_none hp6).2).1.symm, upd_ne (upd_none hp5).1.symm]
        exact upd_same
      refine ⟨.inl ⟨rfl, _, SqL.of upd_same⟩, p6, .bl true, .bool true, [.bool (decide (j = 0)), .bool (decide (j = 1)), .bool (decide (j = 2)), .bool (decide (j = 3)), .bool true], j, .bool true, rfl, rfl, .lst (sq_of upd_same) (.cons (.bl _) (.cons (.bl _) (.cons (.bl _) (.cons (.bl _) (.cons (.bl _) .nil))))), .bl true, ?_, rfl, ?_, rfl, ?_, p4, _, ((j : Nat) : Int), .str (errN j), rfl, rfl, sq_of h4, ?_, (by show 1 ≤ sizeLine; decide), fun p7 hp7 => he p7 _ (fresh_back x7 hp7) (x7.trans (Ex.new hp7)) upd_same⟩
      · rcases (show j = 0 ∨ j = 1 ∨ j = 2 ∨ j = 3 by omega) with rfl | rfl | rfl | rfl <;> rfl
      · rcases (show j = 0 ∨ j = 1 ∨ j = 2 ∨ j = 3 by omega) with rfl | rfl | rfl | rfl <;> rfl
      · intro m z' hm hz'
        rcases (show j = 0 ∨ j = 1 ∨ j = 2 ∨ j = 3 by omega) with rfl | rfl | rfl | rfl <;> (rcases (show m = 0 ∨ m = 1 ∨ m = 2 by omega) with rfl | rfl | rfl <;> first | omega | (cases hz'; rfl))
      · rcases (show j = 0 ∨ j = 1 ∨ j = 2 ∨ j = 3 by omega) with rfl | rfl | rfl | rfl <;> rfl
  · obtain rfl : way = 4 := by omega
    refine ⟨_, rfl, a, dx, _, rfl, ob, rfl, _, rfl, ha _ _ (fun v H2 hq => ?ok) fun j H2 hj he => ?er⟩
    case ok => exact ⟨.non, rfl, true, rfl, _, rfl, (by show 2 ≤ sizeLine; decide), fun p hp => hq p hp⟩
    case er =>
      refine ⟨true, B.sup j hj, fun _ e9 he9 => ⟨_, rfl, fun _ => ?_⟩, fun h => nomatch h⟩
      refine ⟨_, rfl, false, rfl, ?_⟩
      have hx : ∀ {H3 : Hp}, Ex (upd H2 e9 (errAt e9 (.ref (errA C_NoCard C_NoWords C_NoHand C_NoLines j)) none)) H3 → H3 e9 = some (errAt e9 (.ref (errA C_NoCard C_NoWords C_NoHand C_NoLines j)) none) := fun e => e _ _ upd_same
      refine ⟨_, rfl, e9, _, .ref C_NoCard, .ref C_NoCard, _, rfl, .inr (hx (Ex.refl _)), B.exc j hj, (fun u h => h), B.kit j 0 hj (by decide), _, rfl, e9, _, .ref C_NoWords, .ref C_NoWords, _, rfl, .inr (hx (Ex.refl _)), B.exc j hj, (fun u h => h), B.kit j 1 hj (by decide), _, rfl, e9, _, .ref C_NoHand, .ref C_NoHand, _, rfl, .inr (hx (Ex.refl _)), B.exc j hj, (fun u h => h), B.kit j 2 hj (by decide), (by show 3 ≤ sizeLine; decide), fun p1 hp1 => ?_⟩
      have n12 : e9 ≠ p1 := ne_of_none (hx (Ex.refl _)) hp1
      refine ⟨_, rfl, _, rfl, e9, _, .ref C_NoLines, .ref C_NoLines, _, rfl, .inr (by show upd _ _ _ _ = _; rw [upd_ne n12]; exact hx (Ex.refl _)), B.exc j hj, (fun u h => h), B.kit j 3 hj (by decide), (by show 1 ≤ sizeLine; decide), fun p2 hp2 => ⟨p1, p2, _, _, rfl, rfl, (by rw [upd_ne (upd_none hp2).1.symm]; exact upd_same), upd_same, (by show 4 ≤ sizeLine; decide), fun p3 hp3 => ?_⟩⟩
      refine ⟨(by show 5 ≤ sizeLine; decide), fun p4 hp4 => ?_⟩
      refine ⟨_, rfl, (by show 1 ≤ sizeLine; decide), fun p5 hp5 => ?_⟩
      have x1 := Ex.new (o := errAt e9 (.ref (errA C_NoCard C_NoWords C_NoHand C_NoLines j)) none) he9
      have x2 := x1.trans (Ex.new (o := .lst [.bl (decide (j = 0)), .bl (decide (j = 1)), .bl (decide (j = 2))]) hp1)
      have x3 := x2.trans (Ex.new (o := .lst [.bl (decide (j = 3))]) hp2)
      have x4 := x3.trans (Ex.new (o := .lst ([.bl (decide (j = 0)), .bl (decide (j = 1)), .bl (decide (j = 2))] ++ [.bl (decide (j = 3))])) hp3)
      have x5 := x4.trans (Ex.new (o := .lst [.str "NoCard", .str "NoWords", .str "NoHand", .str "NoLines", .str "other"]) hp4)
      have x6 := x5.trans (Ex.new (o := .lst [.bl true]) hp5)
      have h35 := (upd_none hp5).1
      have h45 := (upd_none hp5).1
      refine ⟨p3, p5, [.bl (decide (j = 0)), .bl (decide (j = 1)), .bl (decide (j = 2))] ++ [.bl (decide (j = 3))], [.bl true], rfl, rfl, ?_, upd_same, (by show 5 ≤ sizeLine; decide), fun p6 hp6 => ?_⟩
      · rw [upd_ne (upd_none (upd_none hp5).2).1.symm, upd_ne (upd_none hp4).1.symm]
        exact upd_same
      have x7 := x6.trans (Ex.new (o := .lst ([.bl (decide (j = 0)), .bl (decide (j = 1)), .bl (decide (j = 2))] ++ [.bl (decide (j = 3))] ++ [.bl true])) hp6)
      have h4 : upd (upd (upd (upd (upd (upd (upd H2 e9 (errAt e9 (.ref (errA C_NoCard C_NoWords C_NoHand C_NoLines j)) none)) p1 (.lst [.bl (decide (j = 0)), .bl (decide (j = 1)), .bl (decide (j = 2))])) p2 (.lst [.bl (decide (j = 3))])) p3 (.lst ([.bl (decide (j = 0)), .bl (decide (j = 1)), .bl (decide (j = 2))] ++ [.bl (decide (j = 3))]))) p4 (.lst [.str "NoCard", .str "NoWords", .str "NoHand", .str "NoLines", .str "other"])) p5 (.lst [.bl true])) p6 (.lst ([.bl (decide (j = 0)), .bl (decide (j = 1)), .bl (decide (j = 2))] ++ [.bl (decide (j = 3))] ++ [.bl true])) p4 = some (.lst [.str "NoCard", .str "NoWords", .str "NoHand", .str "NoLines", .str "other"]) := by
        rw [upd_ne (upd_none (upd_none hp6).2).1.symm, upd_ne (upd_none hp5).1.symm]
        exact upd_same
      refine ⟨.inl ⟨rfl, _, SqL.of upd_same⟩, p6, .bl true, .bool true, [.bool (decide (j = 0)), .bool (decide (j = 1)), .bool (decide (j = 2)), .bool (decide (j = 3)), .bool true], j, .bool true, rfl, rfl, .lst (sq_of upd_same) (.cons (.bl _) (.cons (.bl _) (.cons (.bl _) (.cons (.bl _) (.cons (.bl _) .nil))))), .bl true, ?_, rfl, ?_, rfl, ?_, p4, _, ((j : Nat) : Int), .str (errN j), rfl, rfl, sq_of h4, ?_, (by show 1 ≤ sizeLine; decide), fun p7 hp7 => he p7 _ (fresh_back x7 hp7) (x7.trans (Ex.new hp7)) upd_same⟩
      · rcases (show j = 0 ∨ j = 1 ∨ j = 2 ∨ j = 3 by omega) with rfl | rfl | rfl | rfl <;> rfl
      · rcases (show j = 0 ∨ j = 1 ∨ j = 2 ∨ j = 3 by omega) with rfl | rfl | rfl | rfl <;> rfl
      · intro m z' hm hz'
        rcases (show j = 0 ∨ j = 1 ∨ j = 2 ∨ j = 3 by omega) with rfl | rfl | rfl | rfl <;> (rcases (show m = 0 ∨ m = 1 ∨ m = 2 by omega) with rfl | rfl | rfl <;> first | omega | (cases hz'; rfl))
      · rcases (show j = 0 ∨ j = 1 ∨ j = 2 ∨ j = 3 by omega) with rfl | rfl | rfl | rfl <;> rfl
  · obtain rfl : way = 5 := by omega
    refine ⟨_, rfl, a, dx, _, rfl, ob, rfl, _, rfl, ha _ _ (fun v H2 hq => ?ok) fun j H2 hj he => ?er⟩
    case ok => exact ⟨.non, rfl, true, rfl, _, rfl, (by show 2 ≤ sizeLine; decide), fun p hp => hq p hp⟩
    case er =>
      refine ⟨true, B.sup j hj, fun _ e9 he9 => ⟨_, rfl, fun _ => ?_⟩, fun h => nomatch h⟩
      refine ⟨_, rfl, false, rfl, ?_⟩
      have hx : ∀ {H3 : Hp}, Ex (upd H2 e9 (errAt e9 (.ref (errA C_NoCard C_NoWords C_NoHand C_NoLines j)) none)) H3 → H3 e9 = some (errAt e9 (.ref (errA C_NoCard C_NoWords C_NoHand C_NoLines j)) none) := fun e => e _ _ upd_same
      refine ⟨_, rfl, e9, _, .ref C_NoCard, .ref C_NoCard, _, rfl, .inr (hx (Ex.refl _)), B.exc j hj, (fun u h => h), B.kit j 0 hj (by decide), _, rfl, e9, _, .ref C_NoWords, .ref C_NoWords, _, rfl, .inr (hx (Ex.refl _)), B.exc j hj, (fun u h => h), B.kit j 1 hj (by decide), _, rfl, e9, _, .ref C_NoHand, .ref C_NoHand, _, rfl, .inr (hx (Ex.refl _)), B.exc j hj, (fun u h => h), B.kit j 2 hj (by decide), (by show 3 ≤ sizeLine; decide), fun p1 hp1 => ?_⟩
      have n12 : e9 ≠ p1 := ne_of_none (hx (Ex.refl _)) hp1
      refine ⟨_, rfl, _, rfl, e9, _, .ref C_NoLines, .ref C_NoLines, _, rfl, .inr (by show upd _ _ _ _ = _; rw [upd_ne n12]; exact hx (Ex.refl _)), B.exc j hj, (fun u h => h), B.kit j 3 hj (by decide), (by show 1 ≤ sizeLine; decide), fun p2 hp2 => ⟨p1, p2, _, _, rfl, rfl, (by rw [upd_ne (upd_none hp2).1.symm]; exact upd_same), upd_same, (by show 4 ≤ sizeLine; decide), fun p3 hp3 => ?_⟩⟩
      refine ⟨(by show 5 ≤ sizeLine; decide), fun p4 hp4 => ?_⟩
      refine ⟨_, rfl, (by show 1 ≤ sizeLine; decide), fun p5 hp5 => ?_⟩
      have x1 := Ex.new (o := errAt e9 (.ref (errA C_NoCard C_NoWords C_NoHand C_NoLines j)) none) he9
      have x2 := x1.trans (Ex.new (o := .lst [.bl (decide (j = 0)), .bl (decide (j = 1)), .bl (decide (j = 2))]) hp1)
      have x3 := x2.trans (Ex.new (o := .lst [.bl (decide (j = 3))]) hp2)
      have x4 := x3.trans (Ex.new (o := .lst ([.bl (decide (j = 0)), .bl (decide (j = 1)), .bl (decide (j = 2))] ++ [.bl (decide (j = 3))])) hp3)
      have x5 := x4.trans (Ex.new (o := .lst [.str "NoCard", .str "NoWords", .str "NoHand", .str "NoLines", .str "other"]) hp4)
      have x6 := x5.trans (Ex.new (o := .lst [.bl true]) hp5)
      have h35 := (upd_none hp5).1
      have h45 := (upd_none hp5).1
      refine ⟨p3, p5, [.bl (decide (j = 0)), .bl (decide (j = 1)), .bl (decide (j = 2))] ++ [.bl (decide (j = 3))], [.bl true], rfl, rfl, ?_, upd_same, (by show 5 ≤ sizeLine; decide), fun p6 hp6 => ?_⟩
      · rw [upd_ne (upd_none (upd_none hp5).2).1.symm, upd_ne (upd_none hp4).1.symm]
        exact upd_same
      have x7 := x6.trans (Ex.new (o := .lst ([.bl (decide (j = 0)), .bl (decide (j = 1)), .bl (decide (j = 2))] ++ [.bl (decide (j = 3))] ++ [.bl true])) hp6)
      have h4 : upd (upd (upd (upd (upd (upd (upd H2 e9 (errAt e9 (.ref (errA C_NoCard C_NoWords C_NoHand C_NoLines j)) none)) p1 (.lst [.bl (decide (j = 0)), .bl (decide (j = 1)), .bl (decide (j = 2))])) p2 (.lst [.bl (decide (j = 3))])) p3 (.lst ([.bl (decide (j = 0)), .bl (decide (j = 1)), .bl (decide (j = 2))] ++ [.bl (decide (j = 3))]))) p4 (.lst [.str "NoCard", .str "NoWords", .str "NoHand", .str "NoLines", .str "other"])) p5 (.lst [.bl true])) p6 (.lst ([.bl (decide (j = 0)), .bl (decide (j = 1)), .bl (decide (j = 2))] ++ [.bl (decide (j = 3))] ++ [.bl true])) p4 = some (.lst [.str "NoCard", .str "NoWords", .str "NoHand", .str "NoLines", .str "other"]) := by
        rw [upd_ne (upd_none (upd_none hp6).2).1.symm, upd_ne (upd_none hp5).1.symm]
        exact upd_same
      refine ⟨.inl ⟨rfl, _, SqL.of upd_same⟩, p6, .bl true, .bool true, [.bool (decide (j = 0)), .bool (decide (j = 1)), .bool (decide (j = 2)), .bool (decide (j = 3)), .bool true], j, .bool true, rfl, rfl, .lst (sq_of upd_same) (.cons (.bl _) (.cons (.bl _) (.cons (.bl _) (.cons (.bl _) (.cons (.bl _) .nil))))), .bl true, ?_, rfl, ?_, rfl, ?_, p4, _, ((j : Nat) : Int), .str (errN j), rfl, rfl, sq_of h4, ?_, (by show 1 ≤ sizeLine; decide), fun p7 hp7 => he p7 _ (fresh_back x7 hp7) (x7.trans (Ex.new hp7)) upd_same⟩
      · rcases (show j = 0 ∨ j = 1 ∨ j = 2 ∨ j = 3 by omega) with rfl | rfl | rfl | rfl <;> rfl
      · rcases (show j = 0 ∨ j = 1 ∨ j = 2 ∨ j = 3 by omega) with rfl | rfl | rfl | rfl <;> rfl
      · intro m z' hm hz'
        rcases (show j = 0 ∨ j = 1 ∨ j = 2 ∨ j = 3 by omega) with rfl | rfl | rfl | rfl <;> (rcases (show m = 0 ∨ m = 1 ∨ m = 2 by omega) with rfl | rfl | rfl <;> first | omega | (cases hz'; rfl))
      · rcases (show j = 0 ∨ j = 1 ∨ j = 2 ∨ j = 3 by omega) with rfl | rfl | rfl | rfl <;> rfl
end
end Sg
end
section
set_option maxRecDepth 100000
set_option maxHeartbeats 4000000
/-! The law: a hand made, or refused. -/
namespace Sg
open PySem PySem.Spec PyProof.Rows L2 Evl
def rIsE (K : PySem.W.Frag) : List V → Hp → VK → Prop := fun xs H Q => rIsT K xs H Q ∨ rIsi K xs H Q
theorem cr_isE {X : Cx} {K : PySem.W.Frag} (h : X.K = K := by rfl) : CallR X (.builtin "isinstance") (rIsE K) := by
  subst h
  intro pins s σ H xs us Q I r h
  rcases h with h | h
  · exact call_isT pins s σ H xs us Q I r h
  · exact call_isi pins s σ H xs us Q I r h
/-- what the text says of the two errors of a hand's making -/
structure KitM (K : PySem.W.Frag) (cS cH S : Addr) : Prop where
  e1 : ExcC K cS
  e2 : ExcC K cH
  x1 : PySem.W.exmOne K (.ref cS) (.ref S) = some true
  x2 : PySem.W.exmOne K (.ref cH) (.ref S) = some true
  k11 : PySem.W.kitOne K (.ref cS) (.ref cS) = some true
  k12 : PySem.W.kitOne K (.ref cS) (.ref cH) = some false
  k21 : PySem.W.kitOne K (.ref cH) (.ref cS) = some false
  k22 : PySem.W.kitOne K (.ref cH) (.ref cH) = some true
  n1 : PySem.W.kitOne K (.type "NoneType") (.ref cS) = some false
  n2 : PySem.W.kitOne K (.type "NoneType") (.ref cH) = some false
def spMade (K : PySem.W.Frag) : Sp := fun vs H Q _ => ∃ D v1 v2 d1 d2, vs = [v1, v2] ∧ Ex D H ∧ Da K D v1 d1 ∧ Da K D v2 d2 ∧ OkD d1 ∧ OkD d2 ∧
  ((areHands d1 = false ∧ ∀ p H2, H p = none → Ex H H2 → H2 p = some (.lst [.bl true, .bl false]) → Q (.ref p) H2) ∨
   (∃ hs, d1 = .tuple hs ∧ areHands d1 = true ∧ inD d2 hs = false ∧ ∀ p H2, H p = none → Ex H H2 → H2 p = some (.lst [.bl false, .bl true]) → Q (.ref p) H2) ∨
   ∃ (me : Str) (hs : List Str), d2 = .str me ∧ d1 = .tuple (hs.map .str) ∧ areHands d1 = true ∧ inD d2 (hs.map .str) = true ∧ hs.Nodup ∧ hs.length ≤ 5 ∧ (∀ o ∈ hs, SeqAt.shaped (.str o) = true) ∧ ∀ p H2, H p = none → Ex H H2 → H2 p = some (.lst [.bl false, .bl false]) → Q (.ref p) H2)
section
variable {P : Program} {w : World} {K : PySem.W.Frag} {mg : Str → Option Value} {base : Heap} {C CL CK CS : Addr} {C_NoCard C_NoWords C_NoHand C_NoLines C_NoHands C_SaidError : Addr}
abbrev s__law_made : Stmt := topS 53
theorem sc__law_made : FnScope ["hands", "who", "error", "caught"] ["hands", "who"] (defScope s__law_made) := ⟨rfl, rfl, rfl, by decide +kernel, rfl, by decide +kernel, by decide +kernel⟩
theorem ok__law_made (M : MgL mg) (B : KitM K C_NoHands C_NoHand C_SaidError) (G_cls_SaidError : mg "SaidError" = some (.ref C_SaidError)) (G_cls_NoHand : mg "NoHand" = some (.ref C_NoHand)) (G_cls_NoHands : mg "NoHands" = some (.ref C_NoHands))
    (G_Hand : Okc P w K mg base (L2.CX P w) 4 C "Hand" ["self", "name", "hands"] [] (spHandI K C CL CK C_NoHands C_NoHand)) {f : Addr} {fd : FuncData} (F : Fun K "_law_made" "_law_made" s__law_made f fd) : FnOk P w K mg base CX0 6 f fd ["hands", "who"] (spMade K) := by
  refine F.ok sc__law_made (fun vs H Q E h => ?_) (fun cdv A outer s H vs Q E hr h => ?_)
  · obtain ⟨D, v1, v2, d1, d2, rfl, _⟩ := h
    rfl
  obtain ⟨D, v1, v2, d1, d2, rfl, e, h1, h2, ok1, ok2, q⟩ := h
  refine ⟨_, (pss_cons (ps_set (i := 2) sc__law_made.nd rfl (by first | exact Or.inl rfl | exact Or.inr rfl) pe_non)
      (pss_cons (ps_try_keep (i := 3) rfl rfl sc__law_made.nd rfl rfl ⟨rfl, by decide, Or.inl G_cls_SaidError⟩ takes0 (fun W pn xe tk po => (pss_one (ps_expr (pe_mkS G_Hand (hr.mono (by decide)) (pa_cons (pv 1) (pa_cons (pv 0) pa_nil)) (fun σ => passAt tk σ))))) (fun a oe cls d pn hz hf => (pss_one (ps_set (i := 2) sc__law_made.nd rfl (by first | exact Or.inl rfl | exact Or.inr rfl) (pv 3)))))
      (pss_one (ps_ret (pe_lst (pa_cons (pe_callB (cr_isE (K := K)) (by rfl) M.m_isinstance boot_isinstance (pa_cons (pv 2) (pa_cons (pe_cst (v := .ref C_NoHands) ⟨_, G_cls_NoHands, rfl⟩) pa_nil))) (pa_cons (pe_callB (cr_isE (K := K)) (by rfl) M.m_isinstance boot_isinstance (pa_cons (pv 2) (pa_cons (pe_cst (v := .ref C_NoHand) ⟨_, G_cls_NoHand, rfl⟩) pa_nil))) pa_nil))))))), ?_⟩
  refine q_cst (q_seq ?_)
  dsimp only
  refine ⟨_, rfl, _, rfl, fun x dx hx hdx nex => ?_⟩
  have eH : Ex H (upd (upd H dx (.own x)) x (.ins C dx [])) := (Ex.new hdx).trans (Ex.new (by rw [upd_ne nex.symm]; exact hx))
  rcases q with ⟨hah, q⟩ | ⟨hs, rfl, hah, hin, q⟩ | ⟨me, hs, rfl, rfl, hah, hin, nd, hz, sh, q⟩
  · refine ⟨H, D, x, dx, v2, v1, rfl, hx, hdx, nex, rfl, e, .inl ⟨d2, d1, h2, h1, ok2, ok1, .inl ⟨hah, fun H2 e2 => ?_⟩⟩⟩
    refine ⟨true, B.x1, fun _ e9 he9 => ⟨_, rfl, fun _ => ?_⟩, fun h => nomatch h⟩
    refine ⟨_, rfl, .inl ⟨e9, C_NoHands, .ref C_NoHands, .ref C_NoHands, _, rfl, .inr upd_same, B.e1, (fun u h => h), B.k11, _, rfl, .inl ⟨e9, C_NoHands, .ref C_NoHand, .ref C_NoHand, _, rfl, .inr upd_same, B.e1, (fun u h => h), B.k12, (by show 2 ≤ sizeLine; decide), fun p hp => ?_⟩⟩⟩
    have eA := (eH.trans e2).trans (Ex.new (o := errAt e9 (.ref C_NoHands) none) he9)
    exact q p _ (fresh_back eA hp) (eA.trans (Ex.new hp)) upd_same
  · refine ⟨H, D, x, dx, v2, v1, rfl, hx, hdx, nex, rfl, e, .inl ⟨d2, .tuple hs, h2, h1, ok2, ok1, .inr ⟨hs, rfl, hah, hin, fun H2 e2 => ?_⟩⟩⟩
    refine ⟨true, B.x2, fun _ e9 he9 => ⟨_, rfl, fun _ => ?_⟩, fun h => nomatch h⟩
    refine ⟨_, rfl, .inl ⟨e9, C_NoHand, .ref C_NoHands, .ref C_NoHands, _, rfl, .inr upd_same, B.e2, (fun u h => h), B.k21, _, rfl, .inl ⟨e9, C_NoHand, .ref C_NoHand, .ref C_NoHand, _, rfl, .inr upd_same, B.e2, (fun u h => h), B.k22, (by show 2 ≤ sizeLine; decide), fun p hp => ?_⟩⟩⟩
    have eA := (eH.trans e2).trans (Ex.new (o := errAt e9 (.ref C_NoHand) none) he9)
    exact q p _ (fresh_back eA hp) (eA.trans (Ex.new hp)) upd_same
  · cases h2
    refine ⟨H, D, x, dx, _, v1, rfl, hx, hdx, nex, rfl, e, .inr ⟨me, hs, rfl, h1, ok2, ok1, hah, hin, nd, hz, sh, fun H2 l kd Ll kps hn => ⟨rfl, ?_⟩⟩⟩
    refine ⟨.non, rfl, .inr ⟨.non, .ref C_NoHands, .type "NoneType", .ref C_NoHands, _, rfl, ?_, .base .non, B.n1, .non, rfl, .inr ⟨.non, .ref C_NoHand, .type "NoneType", .ref C_NoHand, _, rfl, ?_, .base .non, B.n2, (by show 2 ≤ sizeLine; decide), fun p hp => ?_⟩⟩⟩
    · exact .own _
    · exact .own _
    · exact q p _ (fresh_back hn.keep hp) (hn.keep.trans (Ex.new hp)) upd_same
end
end Sg
end
section
set_option maxRecDepth 100000
set_option maxHeartbeats 4000000
/-! The law: what a hand is asked that is to be refused. -/
namespace Sg
open PySem PySem.Spec PyProof.Rows L2 Evl
/-- known D of heap H has become D2 of H2; the purse at p may have changed, all else stands, and nothing that was there is known anew -/
structure Pg (p : Addr) (D H D2 H2 : Hp) : Prop where
  up : But p H H2
  bas : Ex D D2
  sub : Ex D2 H2
  new : ∀ a, D a = none → H a ≠ none → D2 a = none
  nn : ∀ b, H b ≠ none → H2 b ≠ none
theorem Pg.ev {p : Addr} {D H D2 H2 : Hp} (g : Gr D H D2 H2) : Pg p D H D2 H2 := ⟨fun b o _ h => g.act _ _ h, g.bas, g.sub, g.new, fun b h => Ex.nn g.act h⟩
theorem Pg.refl {p : Addr} {D H : Hp} (e : Ex D H) : Pg p D H D H := ⟨fun _ _ _ h => h, Ex.refl D, e, fun _ h _ => h, fun _ h => h⟩
theorem Pg.trans {p : Addr} {D H D2 H2 D3 H3 : Hp} (g : Pg p D H D2 H2) (k : Pg p D2 H2 D3 H3) : Pg p D H D3 H3 :=
  ⟨fun b o n h => k.up b o n (g.up b o n h), g.bas.trans k.bas, k.sub, fun a h1 h2 => k.new a (g.new a h1 h2) (g.nn a h2), fun b h => k.nn b (g.nn b h)⟩
theorem PurseAt.nn {p : Addr} {N : Int} {H : Hp} (h : PurseAt p N H) : H p ≠ none := by
  obtain ⟨_, _, _, h, _⟩ := h
  rw [h]
  simp
theorem PurseAt.ex {p : Addr} {N : Int} {H H2 : Hp} (h : PurseAt p N H) (e : Ex H H2) : PurseAt p N H2 := by
  obtain ⟨a, b, c, h, r⟩ := h
  exact ⟨a, b, c, e _ _ h, r⟩
theorem Pg.draw {p : Addr} {D H H2 : Hp} {N : Int} (e : Ex D H) (dp : D p = none) (bt : But p H H2) (pu : PurseAt p N H2) : Pg p D H D H2 :=
  ⟨bt, Ex.refl D, fun b u hb => bt _ _ (fun z => by rw [z, dp] at hb; cases hb) (e _ _ hb), fun _ h _ => h, fun b hb => by
    by_cases z : b = p
    · rw [z]
      exact pu.nn
    · cases y : H b with
      | none => exact absurd y hb
      | some o =>
        rw [bt b o z y]
        simp⟩
theorem Pg.out {p : Addr} {D H D2 H2 : Hp} {N : Int} (g : Pg p D H D2 H2) (dp : D p = none) (pu : PurseAt p N H) : D2 p = none := g.new p dp pu.nn
/-- what is owned apart from the purse stands -/
theorem Pg.own {p : Addr} {D H D2 H2 L : Hp} (g : Pg p D H D2 H2) (e : Ex L H) (lp : L p = none) : Ex L H2 := fun b u hb => g.up _ _ (fun z => by rw [z, lp] at hb; cases hb) (e _ _ hb)
theorem Pg.dj {p : Addr} {D H D2 H2 L : Hp} (g : Pg p D H D2 H2) (e : Ex L H) (h : ∀ b, D b = none ∨ L b = none) : ∀ b, D2 b = none ∨ L b = none := fun b => by
  rcases h b with h | h
  · cases z : L b with
    | none => exact .inr rfl
    | some u => exact .inl (g.new b h (by rw [e _ _ z]; simp))
  · exact .inr h
/-! ### data known at all that is to come -/
def EU (K : PySem.W.Frag) (te : TE) (σ : L2.St) (D : Hp) (d : PyData) : Prop := ∀ N, Ex D N → EvD K te σ N d
def EUs (K : PySem.W.Frag) (ta : TA) (σ : L2.St) (D : Hp) (ds : List PyData) : Prop := ∀ N, Ex D N → EvDs K ta σ N ds
section
variable {K : PySem.W.Frag} {σ : L2.St} {D : Hp} {te tb : TE} {ta tr : TA} {d : PyData} {ds es : List PyData} {v : V}
theorem eu_int {i : Int} : EU K (tC (.int i)) σ D (.int i) := fun _ _ => ed_int
theorem eu_str {i : Str} : EU K (tC (.str i)) σ D (.str i) := fun _ _ => ed_str
theorem eu_bl {i : Bool} : EU K (tC (.bl i)) σ D (.bool i) := fun _ _ => ed_bl
theorem eu_non : EU K (tC .non) σ D .none := fun _ _ => ed_non
theorem eu_var {i : Nat} (h : σ[i]? = some (some v)) (hd : Da K D v d) : EU K (tVar i) σ D d := fun _ a => ed_var h (hd.ex a)
theorem eu_nil : EUs K tNil σ D [] := fun _ _ => eds_nil
theorem eu_cons (h : EU K te σ D d) (hr : EUs K tr σ D ds) : EUs K (tCons te tr) σ D (d :: ds) := fun N a => eds_cons (h N a) fun N2 b => hr N2 (a.trans b)
theorem eu_tup (h : EUs K ta σ D ds) (hl : ds.length ≤ 100000) : EU K (tTup ta) σ D (.tuple ds) := fun N a => ed_tup (h N a) hl
theorem eu_lst (h : EUs K ta σ D ds) (hl : ds.length ≤ 100000) : EU K (tLst ta) σ D (.list ds) := fun N a => ed_lst (h N a) hl
theorem eu_cat (h : EU K te σ D (.list ds)) (g : EU K tb σ D (.list es)) (hl : ds.length + es.length ≤ 100000) : EU K (tOp rCat te tb) σ D (.list (ds ++ es)) := fun N a => ed_cat (h N a) (fun N2 b => g N2 (a.trans b)) hl
theorem eu_of {i : Int} (h : ∀ H Q, Q (.int i) H → te σ H Q) : EU K te σ D (.int i) := fun N a => ed_of (fun H1 e Q q => h H1 Q (q H1 (Ex.refl H1))) (.int i)
theorem eu_neg {i : Int} : EU K (tUn (rU fun i => .int (-i)) (tC (.int i))) σ D (.int (-i)) := eu_of fun H Q q => ⟨i, rfl, q⟩
theorem eu_sub {j : Nat} {n m : Int} (h : σ[j]? = some (some (.int n))) : EU K (tOp (rI0 fun i j => .int (i - j)) (tVar j) (tC (.int m))) σ D (.int (n - m)) := eu_of fun H Q q => ⟨_, h, n, m, rfl, rfl, q⟩
theorem eu_pow : EU K (tOp (rI CPowB fun i j => .int (i ^ j.toNat)) (tC (.int 10)) (tC (.int 30))) σ D (.int 1000000000000000000000000000000) := eu_of fun H Q q => ⟨10, 30, rfl, rfl, ⟨by decide, by decide +kernel⟩, q⟩
/-- some[draw(purse, n)] -/
theorem e_pick {p : Addr} {H : Hp} {N : Int} {j : Nat} {tn : TE} {E : XK} (hl : EvD K te σ D (.list ds)) (e : Ex D H) (dp : D p = none) (hs : σ[j]? = some (some (.ref p))) (hn : ∀ H Q, Q (.int (ds.length : Int)) H → tn σ H Q) (pu : PurseAt p N H) (hN : N < 999999999999) (l1 : 1 ≤ ds.length) (l2 : ds.length < 1000)
    {Q : VK} (k : ∀ v d D2 H2, Pg p D H D2 H2 → PurseAt p (N + 1) H2 → Da K D2 v d → d ∈ ds → Q v H2) : tOp (rIxL K) te (tCall spDraw [] E (tCons (tVar j) (tCons tn tNil))) σ H Q := by
  refine hl H e _ fun v N1 H2 b hv => ⟨_, hs, hn _ _ ⟨p, _, N, rfl, by omega, pu.ex b.act, hN, fun r H3 r0 r1 pu3 bt nn => ?_⟩⟩
  have b1 : N1 p = none := b.new p dp pu.nn
  have g : Pg p D H N1 H3 := (Pg.ev b).trans (.draw b.sub b1 bt pu3)
  obtain ⟨i, rfl⟩ := Int.eq_ofNat_of_zero_le r0
  have hi : i < ds.length := by omega
  cases hv with
  | lst h1 h2 =>
    obtain ⟨w', e1, e2⟩ := h2.at (List.getElem?_eq_getElem hi)
    exact ⟨_, _, _, w', rfl, rfl, sq_of (g.sub _ _ h1), at_of rfl e1, k w' _ N1 H3 g pu3 e2 (List.getElem_mem hi)⟩
end
def badWords : List PyData := [.tuple [.str "wet", .str "big"], .list [.str "big"], .tuple [.str "Red"], .none, .tuple [.str "red", .str "red"], .tuple [.str ""], .tuple [.str "nineletrs"], .str "red"]
def odds (many : Int) : List PyData := [.int many, .int (-1), .none, .bool true, .str "0", .int 1000000000000000000000000000000]
def stranges : List PyData := [.str "ana", .str "zz", .none, .int 0, .str "", .list [], .list [.str "bo"], .tuple [.str "bo"]]
def drs0 (odd bad strange : PyData) (at_ many : Int) : List PyData := [.list [.int 0, bad, .none, .str "NoWords"], .list [.int 1, odd, bad, .str "NoCard"], .list [.int 1, .int at_, bad, .str "NoWords"], .list [.int 2, odd, .int at_, .str "NoCard"]]
def drs1 (odd bad strange : PyData) (at_ many : Int) : List PyData := [.list [.int 2, .int at_, odd, .str "NoCard"], .list [.int 3, strange, .none, .str "NoHand"], .list [.int 4, strange, .none, .str "NoHand"]]
def drs2 (odd bad strange : PyData) (at_ many : Int) : List PyData := [.list [.int 5, strange, .none, .str "NoHand"], .list [.int 3, .str "bo", .tuple [.tuple [.int at_, bad]], .str "NoLines"], .list [.int 3, .str "bo", .list [], .str "NoLines"]]
def drs3 (odd bad strange : PyData) (at_ many : Int) : List PyData := [.list [.int 3, .str "bo", .tuple [.tuple [.int at_, .tuple []], .tuple [.int many, .tuple [.str "zzz"]]], .str "NoCard"], .list [.int 3, .str "bo", .tuple [.tuple [.int at_, .tuple []], .tuple [.int at_, .tuple []]], .str "NoLines"]]
def drs4 (odd bad strange : PyData) (at_ many : Int) : List PyData := [.list [.int 3, .str "bo", .tuple [.tuple [.int at_, .tuple [.str "zzz"]]], .str "NoLines"], .list [.int 3, .str "bo", .tuple [.tuple [.int at_]], .str "NoLines"]]
def drs5 (odd bad strange : PyData) (at_ many : Int) : List PyData := [.list [.int 3, .str "bo", .tuple [.list [.int at_, .tuple []]], .str "NoLines"], .list [.int 3, .str "bo", .tuple [.tuple [.int 0, .tuple []], .tuple [.int (many - 1), .tuple [.str "zzz"]]], .str "NoLines"]]
def drs6 (odd bad strange : PyData) (at_ many : Int) : List PyData := [.list [.int 3, .str "bo", .tuple [.tuple [.int 0, .tuple [.str "zzz"]], .tuple [.int (many - 1), .tuple []]], .str "NoLines"]]
def drs7 (odd bad strange : PyData) (at_ many : Int) : List PyData := [.list [.int 3, .str "bo", .tuple [.tuple [.int 0, .tuple [.str "wet", .str "zzz"]]], .str "NoLines"]]
def drs8 (odd bad strange : PyData) (at_ many : Int) : List PyData := [.list [.int 3, .str "bo", .tuple [.tuple [.int 0, .tuple [.str "aaa", .str "wet"]]], .str "NoLines"], .list [.int 3, .str "bo", .tuple [.tuple [.int 0, .tuple [.str "yy"]]], .str "NoLines"]]
def drs9 (odd bad strange : PyData) (at_ many : Int) : List PyData := [.list [.int 3, .str "bo", .tuple [.tuple [.int 0, .tuple [.str "yy"]], .tuple [.int (many - 1), .tuple [.str "yy"]]], .str "NoLines"]]
def drs10 (odd bad strange : PyData) (at_ many : Int) : List PyData := [.list [.int 3, .str "bo", .tuple [.tuple [.int many, .tuple []], .tuple [.int at_]], .str "NoLines"]]
def drs11 (odd bad strange : PyData) (at_ many : Int) : List PyData := [.list [.int 3, .str "bo", .tuple [.tuple [.int at_, .tuple [.str "zzz"]], .tuple [.int many, .tuple []]], .str "NoCard"], .list [.int 3, .str "bo", .tuple [.tuple [.int many, .tuple []], .tuple [.int at_, bad]], .str "NoLines"]]
def drs12 (odd bad strange : PyData) (at_ many : Int) : List PyData := [.list [.int 3, .str "bo", .tuple [.tuple [.int at_, .tuple []], .tuple [.int at_, .tuple []], .tuple [.int many, .tuple []]], .str "NoCard"], .list [.int 3, .str "bo", .tuple [.tuple [.int many, .tuple []], .tuple [.int at_, .tuple []]], .str "NoCard"]]
def drs13 (odd bad strange : PyData) (at_ many : Int) : List PyData := [.list [.int 3, .str "bo", .tuple [.tuple [.int at_, .tuple []], .tuple [.int at_]], .str "NoLines"], .list [.int 3, .str "bo", .tuple [.tuple [.int at_, .tuple []], .tuple [.int at_, bad]], .str "NoLines"]]
def drs14 (odd bad strange : PyData) (at_ many : Int) : List PyData := [.list [.int 3, .str "bo", .none, .str "NoLines"]]
def drs15 (odd bad strange : PyData) (at_ many : Int) : List PyData := [.list [.int 3, .str "bo", .tuple [.tuple [.int (-1), .tuple []]], .str "NoLines"], .list [.int 3, .str "bo", .tuple [.tuple [.bool true, .tuple []]], .str "NoLines"]]
theorem ldrs0 (odd bad strange : PyData) (at_ many : Int) : (drs0 odd bad strange at_ many).length = 4 := rfl
theorem ldrs1 (odd bad strange : PyData) (at_ many : Int) : (drs1 odd bad strange at_ many).length = 3 := rfl
theorem ldrs2 (odd bad strange : PyData) (at_ many : Int) : (drs2 odd bad strange at_ many).length = 3 := rfl
theorem ldrs3 (odd bad strange : PyData) (at_ many : Int) : (drs3 odd bad strange at_ many).length = 2 := rfl
theorem ldrs4 (odd bad strange : PyData) (at_ many : Int) : (drs4 odd bad strange at_ many).length = 2 := rfl
theorem ldrs5 (odd bad strange : PyData) (at_ many : Int) : (drs5 odd bad strange at_ many).length = 2 := rfl
theorem ldrs6 (odd bad strange : PyData) (at_ many : Int) : (drs6 odd bad strange at_ many).length = 1 := rfl
theorem ldrs7 (odd bad strange : PyData) (at_ many : Int) : (drs7 odd bad strange at_ many).length = 1 := rfl
theorem ldrs8 (odd bad strange : PyData) (at_ many : Int) : (drs8 odd bad strange at_ many).length = 2 := rfl
theorem ldrs9 (odd bad strange : PyData) (at_ many : Int) : (drs9 odd bad strange at_ many).length = 1 := rfl
theorem ldrs10 (odd bad strange : PyData) (at_ many : Int) : (drs10 odd bad strange at_ many).length = 1 := rfl
theorem ldrs11 (odd bad strange : PyData) (at_ many : Int) : (drs11 odd bad strange at_ many).length = 2 := rfl
theorem ldrs12 (odd bad strange : PyData) (at_ many : Int) : (drs12 odd bad strange at_ many).length = 2 := rfl
theorem ldrs13 (odd bad strange : PyData) (at_ many : Int) : (drs13 odd bad strange at_ many).length = 2 := rfl
theorem ldrs14 (odd bad strange : PyData) (at_ many : Int) : (drs14 odd bad strange at_ many).length = 1 := rfl
theorem ldrs15 (odd bad strange : PyData) (at_ many : Int) : (drs15 odd bad strange at_ many).length = 2 := rfl
def doors (odd bad strange : PyData) (at_ many : Int) : List PyData := ((((((((((((((drs0 odd bad strange at_ many ++ drs1 odd bad strange at_ many) ++ drs2 odd bad strange at_ many) ++ drs3 odd bad strange at_ many) ++ drs4 odd bad strange at_ many) ++ drs5 odd bad strange at_ many) ++ drs6 odd bad strange at_ many) ++ drs7 odd bad strange at_ many) ++ drs8 odd bad strange at_ many) ++ drs9 odd bad strange at_ many) ++ drs10 odd bad strange at_ many) ++ drs11 odd bad strange at_ many) ++ drs12 odd bad strange at_ many) ++ drs13 odd bad strange at_ many) ++ drs14 odd bad strange at_ many) ++ drs15 odd bad strange at_ many
def spBad (K : PySem.W.Frag) : Sp := fun vs H Q _ => ∃ D p N, vs = [.ref p] ∧ Ex D H ∧ D p = none ∧ PurseAt p N H ∧ N < 999999999999 ∧ ∀ v d D2 H2, Pg p D H D2 H2 → PurseAt p (N + 1) H2 → Da K D2 v d → d ∈ badWords → Q v H2
def spDoors (K : PySem.W.Frag) : Sp := fun vs H Q _ => ∃ D p N va many, vs = [.ref p, va, .int many] ∧ Ex D H ∧ D p = none ∧ PurseAt p N H ∧ N + 3 < 999999999999 ∧ 1 ≤ many ∧ many < 1000 ∧
  ∀ v odd bad at_ strange D2 H2, Pg p D H D2 H2 → PurseAt p (N + 4) H2 → odd ∈ odds many → bad ∈ badWords → 0 ≤ at_ → at_ < many → strange ∈ stranges → Da K D2 v (.list (doors odd bad strange at_ many)) → Q v H2
section
variable {P : Program} {w : World} {K : PySem.W.Frag} {mg : Str → Option Value} {base : Heap}
abbrev s__law_bad_words : Stmt := topS 54
theorem sc__law_bad_words : FnScope ["purse", "some"] ["purse"] (defScope s__law_bad_words) := ⟨rfl, rfl, rfl, by decide +kernel, rfl, by decide +kernel, by decide +kernel⟩
theorem ok__law_bad_words {f : Addr} {fd : FuncData} (F : Fun K "_law_bad_words" "_law_bad_words" s__law_bad_words f fd) (G__law_draw : Own P w K mg base 2 "_law_draw" ["purse", "out_of"] [] spDraw) : FnOk P w K mg base CX0 3 f fd ["purse"] (spBad K) := by
  refine F.ok sc__law_bad_words (fun vs H Q E h => ?_) (fun cdv A outer s H vs Q E hr h => ?_)
  · obtain ⟨D, p, N, rfl, _⟩ := h
    rfl
  obtain ⟨D, p, N, rfl, e, dp, pu, hN, q⟩ := h
  refine ⟨_, (pss_cons (ps_set (i := 1) sc__law_bad_words.nd rfl (by first | exact Or.inl rfl | exact Or.inr rfl) (pe_lst (pa_cons (pe_tup (pa_cons pe_str (pa_cons pe_str pa_nil))) (pa_cons (pe_lst (pa_cons pe_str pa_nil)) (pa_cons (pe_tup (pa_cons pe_str pa_nil)) (pa_cons pe_non (pa_cons (pe_tup (pa_cons pe_str (pa_cons pe_str pa_nil))) (pa_cons (pe_tup (pa_cons pe_str pa_nil)) (pa_cons (pe_tup (pa_cons pe_str pa_nil)) (pa_cons pe_str pa_nil))))))))))
      (pss_one (ps_ret (pe_ix (ix_listK (K := K)) (pv 1) (pe_own G__law_draw (hr.mono (by decide)) (pa_cons (pv 0) (pa_cons pe_int pa_nil)) pass0) (fun _ _ => rfl))))), ?_⟩
  refine d_asg (K := K) (H := D) (d := .list badWords) ((eu_lst (eu_cons (eu_tup (eu_cons eu_str (eu_cons eu_str eu_nil)) (Nat.le_of_ble_eq_true rfl)) (eu_cons (eu_lst (eu_cons eu_str eu_nil) (Nat.le_of_ble_eq_true rfl)) (eu_cons (eu_tup (eu_cons eu_str eu_nil) (Nat.le_of_ble_eq_true rfl)) (eu_cons eu_non (eu_cons (eu_tup (eu_cons eu_str (eu_cons eu_str eu_nil)) (Nat.le_of_ble_eq_true rfl)) (eu_cons (eu_tup (eu_cons eu_str eu_nil) (Nat.le_of_ble_eq_true rfl)) (eu_cons (eu_tup (eu_cons eu_str eu_nil) (Nat.le_of_ble_eq_true rfl)) (eu_cons eu_str eu_nil)))))))) (Nat.le_of_ble_eq_true rfl)) D (Ex.refl _)) e (fun v N1 H2 g hv => ?_)
  have g0 : Pg p D H N1 H2 := .ev g
  refine e_pick (D := N1) (ds := badWords) (ed_var rfl hv) g.sub (g0.out dp pu) rfl (fun _ _ q => q) (pu.ex g.act) hN (Nat.le_of_ble_eq_true rfl) (Nat.le_of_ble_eq_true rfl) fun v2 d D2 H3 g2 pu2 hd hm => ?_
  exact q v2 d D2 H3 (g0.trans g2) pu2 hd hm
abbrev s__law_doors : Stmt := topS 55
theorem sc__law_doors : FnScope ["purse", "alone", "many", "odd", "bad", "at", "strange", "asked"] ["purse", "alone", "many"] (defScope s__law_doors) := ⟨rfl, rfl, rfl, by decide +kernel, rfl, by decide +kernel, by decide +kernel⟩
theorem ok__law_doors {f : Addr} {fd : FuncData} (F : Fun K "_law_doors" "_law_doors" s__law_doors f fd) (G__law_draw : Own P w K mg base 2 "_law_draw" ["purse", "out_of"] [] spDraw) (G__law_bad_words : Own P w K mg base 3 "_law_bad_words" ["purse"] [] (spBad K)) : FnOk P w K mg base CX0 4 f fd ["purse", "alone", "many"] (spDoors K) := by
  refine F.ok sc__law_doors (fun vs H Q E h => ?_) (fun cdv A outer s H vs Q E hr h => ?_)
  · obtain ⟨D, p, N, va, many, rfl, _⟩ := h
    rfl
  obtain ⟨D, p, N, va, many, rfl, e, dp, pu, hN, m1, m2, q⟩ := h
  refine ⟨_, (pss_cons (ps_set (i := 3) sc__law_doors.nd rfl (by first | exact Or.inl rfl | exact Or.inr rfl) (pe_ix (ix_listK (K := K)) (pe_lst (pa_cons (pv 2) (pa_cons (pe_un un_neg pe_int) (pa_cons pe_non (pa_cons pe_bl (pa_cons pe_str (pa_cons (pe_op op_powB pe_int pe_int) pa_nil))))))) (pe_own G__law_draw (hr.mono (by decide)) (pa_cons (pv 0) (pa_cons pe_int pa_nil)) pass0) (fun _ _ => rfl)))
      (pss_cons (ps_set (i := 4) sc__law_doors.nd rfl (by first | exact Or.inl rfl | exact Or.inr rfl) (pe_own G__law_bad_words (hr.mono (by decide)) (pa_cons (pv 0) pa_nil) pass0))
      (pss_cons (ps_set (i := 5) sc__law_doors.nd rfl (by first | exact Or.inl rfl | exact Or.inr rfl) (pe_own G__law_draw (hr.mono (by decide)) (pa_cons (pv 0) (pa_cons (pv 2) pa_nil)) pass0))
      (pss_cons (ps_set (i := 6) sc__law_doors.nd rfl (by first | exact Or.inl rfl | exact Or.inr rfl) (pe_ix (ix_listK (K := K)) (pe_lst (pa_cons pe_str (pa_cons pe_str (pa_cons pe_non (pa_cons pe_int (pa_cons pe_str (pa_cons (pe_lst pa_nil) (pa_cons (pe_lst (pa_cons pe_str pa_nil)) (pa_cons (pe_tup (pa_cons pe_str pa_nil)) pa_nil))))))))) (pe_own G__law_draw (hr.mono (by decide)) (pa_cons (pv 0) (pa_cons pe_int pa_nil)) pass0) (fun _ _ => rfl)))
      (pss_cons (ps_set (i := 7) sc__law_doors.nd rfl (by first | exact Or.inl rfl | exact Or.inr rfl) (pe_lst (pa_cons (pe_lst (pa_cons pe_int (pa_cons (pv 4) (pa_cons pe_non (pa_cons pe_str pa_nil))))) (pa_cons (pe_lst (pa_cons pe_int (pa_cons (pv 3) (pa_cons (pv 4) (pa_cons pe_str pa_nil))))) (pa_cons (pe_lst (pa_cons pe_int (pa_cons (pv 5) (pa_cons (pv 4) (pa_cons pe_str pa_nil))))) (pa_cons (pe_lst (pa_cons pe_int (pa_cons (pv 3) (pa_cons (pv 5) (pa_cons pe_str pa_nil))))) pa_nil))))))
      (pss_cons (ps_set (i := 7) sc__law_doors.nd rfl (by first | exact Or.inl rfl | exact Or.inr rfl) (pe_op op_cat (pv 7) (pe_lst (pa_cons (pe_lst (pa_cons pe_int (pa_cons (pv 5) (pa_cons (pv 3) (pa_cons pe_str pa_nil))))) (pa_cons (pe_lst (pa_cons pe_int (pa_cons (pv 6) (pa_cons pe_non (pa_cons pe_str pa_nil))))) (pa_cons (pe_lst (pa_cons pe_int (pa_cons (pv 6) (pa_cons pe_non (pa_cons pe_str pa_nil))))) pa_nil))))))
      (pss_cons (ps_set (i := 7) sc__law_doors.nd rfl (by first | exact Or.inl rfl | exact Or.inr rfl) (pe_op op_cat (pv 7) (pe_lst (pa_cons (pe_lst (pa_cons pe_int (pa_cons (pv 6) (pa_cons pe_non (pa_cons pe_str pa_nil))))) (pa_cons (pe_lst (pa_cons pe_int (pa_cons pe_str (pa_cons (pe_tup (pa_cons (pe_tup (pa_cons (pv 5) (pa_cons (pv 4) pa_nil))) pa_nil)) (pa_cons pe_str pa_nil))))) (pa_cons (pe_lst (pa_cons pe_int (pa_cons pe_str (pa_cons (pe_lst pa_nil) (pa_cons pe_str pa_nil))))) pa_nil))))))
      (pss_cons (ps_set (i := 7) sc__law_doors.nd rfl (by first | exact Or.inl rfl | exact Or.inr rfl) (pe_op op_cat (pv 7) (pe_lst (pa_cons (pe_lst (pa_cons pe_int (pa_cons pe_str (pa_cons (pe_tup (pa_cons (pe_tup (pa_cons (pv 5) (pa_cons (pe_tup pa_nil) pa_nil))) (pa_cons (pe_tup (pa_cons (pv 2) (pa_cons (pe_tup (pa_cons pe_str pa_nil)) pa_nil))) pa_nil))) (pa_cons pe_str pa_nil))))) (pa_cons (pe_lst (pa_cons pe_int (pa_cons pe_str (pa_cons (pe_tup (pa_cons (pe_tup (pa_cons (pv 5) (pa_cons (pe_tup pa_nil) pa_nil))) (pa_cons (pe_tup (pa_cons (pv 5) (pa_cons (pe_tup pa_nil) pa_nil))) pa_nil))) (pa_cons pe_str pa_nil))))) pa_nil)))))
      (pss_cons (ps_set (i := 7) sc__law_doors.nd rfl (by first | exact Or.inl rfl | exact Or.inr rfl) (pe_op op_cat (pv 7) (pe_lst (pa_cons (pe_lst (pa_cons pe_int (pa_cons pe_str (pa_cons (pe_tup (pa_cons (pe_tup (pa_cons (pv 5) (pa_cons (pe_tup (pa_cons pe_str pa_nil)) pa_nil))) pa_nil)) (pa_cons pe_str pa_nil))))) (pa_cons (pe_lst (pa_cons pe_int (pa_cons pe_str (pa_cons (pe_tup (pa_cons (pe_tup (pa_cons (pv 5) pa_nil)) pa_nil)) (pa_cons pe_str pa_nil))))) pa_nil)))))
      (pss_cons (ps_set (i := 7) sc__law_doors.nd rfl (by first | exact Or.inl rfl | exact Or.inr rfl) (pe_op op_cat (pv 7) (pe_lst (pa_cons (pe_lst (pa_cons pe_int (pa_cons pe_str (pa_cons (pe_tup (pa_cons (pe_lst (pa_cons (pv 5) (pa_cons (pe_tup pa_nil) pa_nil))) pa_nil)) (pa_cons pe_str pa_nil))))) (pa_cons (pe_lst (pa_cons pe_int (pa_cons pe_str (pa_cons (pe_tup (pa_cons (pe_tup (pa_cons pe_int (pa_cons (pe_tup pa_nil) pa_nil))) (pa_cons (pe_tup (pa_cons (pe_op op_sub (pv 2) pe_int) (pa_cons (pe_tup (pa_cons pe_str pa_nil)) pa_nil))) pa_nil))) (pa_cons pe_str pa_nil))))) pa_nil)))))
      (pss_cons (ps_set (i := 7) sc__law_doors.nd rfl (by first | exact Or.inl rfl | exact Or.inr rfl) (pe_op op_cat (pv 7) (pe_lst (pa_cons (pe_lst (pa_cons pe_int (pa_cons pe_str (pa_cons (pe_tup (pa_cons (pe_tup (pa_cons pe_int (pa_cons (pe_tup (pa_cons pe_str pa_nil)) pa_nil))) (pa_cons (pe_tup (pa_cons (pe_op op_sub (pv 2) pe_int) (pa_cons (pe_tup pa_nil) pa_nil))) pa_nil))) (pa_cons pe_str pa_nil))))) pa_nil))))
      (pss_cons (ps_set (i := 7) sc__law_doors.nd rfl (by first | exact Or.inl rfl | exact Or.inr rfl) (pe_op op_cat (pv 7) (pe_lst (pa_cons (pe_lst (pa_cons pe_int (pa_cons pe_str (pa_cons (pe_tup (pa_cons (pe_tup (pa_cons pe_int (pa_cons (pe_tup (pa_cons pe_str (pa_cons pe_str pa_nil))) pa_nil))) pa_nil)) (pa_cons pe_str pa_nil))))) pa_nil))))
      (pss_cons (ps_set (i := 7) sc__law_doors.nd rfl (by first | exact Or.inl rfl | exact Or.inr rfl) (pe_op op_cat (pv 7) (pe_lst (pa_cons (pe_lst (pa_cons pe_int (pa_cons pe_str (pa_cons (pe_tup (pa_cons (pe_tup (pa_cons pe_int (pa_cons (pe_tup (pa_cons pe_str (pa_cons pe_str pa_nil))) pa_nil))) pa_nil)) (pa_cons pe_str pa_nil))))) (pa_cons (pe_lst (pa_cons pe_int (pa_cons pe_str (pa_cons (pe_tup (pa_cons (pe_tup (pa_cons pe_int (pa_cons (pe_tup (pa_cons pe_str pa_nil)) pa_nil))) pa_nil)) (pa_cons pe_str pa_nil))))) pa_nil)))))
      (pss_cons (ps_set (i := 7) sc__law_doors.nd rfl (by first | exact Or.inl rfl | exact Or.inr rfl) (pe_op op_cat (pv 7) (pe_lst (pa_cons (pe_lst (pa_cons pe_int (pa_cons pe_str (pa_cons (pe_tup (pa_cons (pe_tup (pa_cons pe_int (pa_cons (pe_tup (pa_cons pe_str pa_nil)) pa_nil))) (pa_cons (pe_tup (pa_cons (pe_op op_sub (pv 2) pe_int) (pa_cons (pe_tup (pa_cons pe_str pa_nil)) pa_nil))) pa_nil))) (pa_cons pe_str pa_nil))))) pa_nil))))
      (pss_cons (ps_set (i := 7) sc__law_doors.nd rfl (by first | exact Or.inl rfl | exact Or.inr rfl) (pe_op op_cat (pv 7) (pe_lst (pa_cons (pe_lst (pa_cons pe_int (pa_cons pe_str (pa_cons (pe_tup (pa_cons (pe_tup (pa_cons (pv 2) (pa_cons (pe_tup pa_nil) pa_nil))) (pa_cons (pe_tup (pa_cons (pv 5) pa_nil)) pa_nil))) (pa_cons pe_str pa_nil))))) pa_nil))))
      (pss_cons (ps_set (i := 7) sc__law_doors.nd rfl (by first | exact Or.inl rfl | exact Or.inr rfl) (pe_op op_cat (pv 7) (pe_lst (pa_cons (pe_lst (pa_cons pe_int (pa_cons pe_str (pa_cons (pe_tup (pa_cons (pe_tup (pa_cons (pv 5) (pa_cons (pe_tup (pa_cons pe_str pa_nil)) pa_nil))) (pa_cons (pe_tup (pa_cons (pv 2) (pa_cons (pe_tup pa_nil) pa_nil))) pa_nil))) (pa_cons pe_str pa_nil))))) (pa_cons (pe_lst (pa_cons pe_int (pa_cons pe_str (pa_cons (pe_tup (pa_cons (pe_tup (pa_cons (pv 2) (pa_cons (pe_tup pa_nil) pa_nil))) (pa_cons (pe_tup (pa_cons (pv 5) (pa_cons (pv 4) pa_nil))) pa_nil))) (pa_cons pe_str pa_nil))))) pa_nil)))))
      (pss_cons (ps_set (i := 7) sc__law_doors.nd rfl (by first | exact Or.inl rfl | exact Or.inr rfl) (pe_op op_cat (pv 7) (pe_lst (pa_cons (pe_lst (pa_cons pe_int (pa_cons pe_str (pa_cons (pe_tup (pa_cons (pe_tup (pa_cons (pv 5) (pa_cons (pe_tup pa_nil) pa_nil))) (pa_cons (pe_tup (pa_cons (pv 5) (pa_cons (pe_tup pa_nil) pa_nil))) (pa_cons (pe_tup (pa_cons (pv 2) (pa_cons (pe_tup pa_nil) pa_nil))) pa_nil)))) (pa_cons pe_str pa_nil))))) (pa_cons (pe_lst (pa_cons pe_int (pa_cons pe_str (pa_cons (pe_tup (pa_cons (pe_tup (pa_cons (pv 2) (pa_cons (pe_tup pa_nil) pa_nil))) (pa_cons (pe_tup (pa_cons (pv 5) (pa_cons (pe_tup pa_nil) pa_nil))) pa_nil))) (pa_cons pe_str pa_nil))))) pa_nil)))))
      (pss_cons (ps_set (i := 7) sc__law_doors.nd rfl (by first | exact Or.inl rfl | exact Or.inr rfl) (pe_op op_cat (pv 7) (pe_lst (pa_cons (pe_lst (pa_cons pe_int (pa_cons pe_str (pa_cons (pe_tup (pa_cons (pe_tup (pa_cons (pv 5) (pa_cons (pe_tup pa_nil) pa_nil))) (pa_cons (pe_tup (pa_cons (pv 5) pa_nil)) pa_nil))) (pa_cons pe_str pa_nil))))) (pa_cons (pe_lst (pa_cons pe_int (pa_cons pe_str (pa_cons (pe_tup (pa_cons (pe_tup (pa_cons (pv 5) (pa_cons (pe_tup pa_nil) pa_nil))) (pa_cons (pe_tup (pa_cons (pv 5) (pa_cons (pv 4) pa_nil))) pa_nil))) (pa_cons pe_str pa_nil))))) pa_nil)))))
      (pss_cons (ps_set (i := 7) sc__law_doors.nd rfl (by first | exact Or.inl rfl | exact Or.inr rfl) (pe_op op_cat (pv 7) (pe_lst (pa_cons (pe_lst (pa_cons pe_int (pa_cons pe_str (pa_cons pe_non (pa_cons pe_str pa_nil))))) pa_nil))))
      (pss_one (ps_ret (pe_op op_cat (pv 7) (pe_lst (pa_cons (pe_lst (pa_cons pe_int (pa_cons pe_str (pa_cons (pe_tup (pa_cons (pe_tup (pa_cons (pe_un un_neg pe_int) (pa_cons (pe_tup pa_nil) pa_nil))) pa_nil)) (pa_cons pe_str pa_nil))))) (pa_cons (pe_lst (pa_cons pe_int (pa_cons pe_str (pa_cons (pe_tup (pa_cons (pe_tup (pa_cons pe_bl (pa_cons (pe_tup pa_nil) pa_nil))) pa_nil)) (pa_cons pe_str pa_nil))))) pa_nil))))))))))))))))))))))))), ?_⟩
  refine e_pick (D := D) (ds := odds many) ((eu_lst (eu_cons (eu_var rfl (.int _)) (eu_cons eu_neg (eu_cons eu_non (eu_cons eu_bl (eu_cons eu_str (eu_cons eu_pow eu_nil)))))) (Nat.le_of_ble_eq_true rfl)) D (Ex.refl _)) e dp rfl (fun _ _ q => q) pu (by omega) (Nat.le_of_ble_eq_true rfl) (Nat.le_of_ble_eq_true rfl) fun v3 odd Da3 Ha g1 pu hd3 hm3 => ?_
  refine ⟨_, rfl, Da3, p, N + 1, rfl, g1.sub, g1.out dp ‹PurseAt p N H›, pu, by omega, fun v4 bad Db Hb g2 pu4 hd4 hm4 => ?_⟩
  have gB := g1.trans g2
  have dpB : Db p = none := gB.out dp ‹PurseAt p N H›
  refine ⟨_, rfl, _, rfl, p, many, N + 1 + 1, rfl, by omega, pu4, by omega, fun at_ Hc a0 a1 pu5 bt _ => ?_⟩
  have gC := gB.trans (.draw gB.sub dpB bt pu5)
  refine e_pick (D := Db) (ds := stranges) ((eu_lst (eu_cons eu_str (eu_cons eu_str (eu_cons eu_non (eu_cons eu_int (eu_cons eu_str (eu_cons (eu_lst eu_nil (Nat.le_of_ble_eq_true rfl)) (eu_cons (eu_lst (eu_cons eu_str eu_nil) (Nat.le_of_ble_eq_true rfl)) (eu_cons (eu_tup (eu_cons eu_str eu_nil) (Nat.le_of_ble_eq_true rfl)) eu_nil)))))))) (Nat.le_of_ble_eq_true rfl)) Db (Ex.refl _)) gC.sub dpB rfl (fun _ _ q => q) pu5 (by omega) (Nat.le_of_ble_eq_true rfl) (Nat.le_of_ble_eq_true rfl) fun v6 strange D0 H0 g3 pu6 h6 hm6 => ?_
  have g0 := gC.trans g3
  have h4 := hd4.ex g3.bas
  have h3 := (hd3.ex g2.bas).ex g3.bas
  have e4 : N + 1 + 1 + 1 + 1 = N + 4 := by omega
  rw [e4] at pu6
  clear pu
  show tSeq _ _ _ [some (.ref p), some va, some (.int many), some v3, some v4, some (.int at_), some v6, none] _
  refine d_asg (H := D0) (d := .list (drs0 odd bad strange at_ many)) ((eu_lst (ds := drs0 odd bad strange at_ many) (eu_cons (eu_lst (eu_cons eu_int (eu_cons (eu_var rfl h4) (eu_cons eu_non (eu_cons eu_str eu_nil)))) (Nat.le_of_ble_eq_true rfl)) (eu_cons (eu_lst (eu_cons eu_int (eu_cons (eu_var rfl h3) (eu_cons (eu_var rfl h4) (eu_cons eu_str eu_nil)))) (Nat.le_of_ble_eq_true rfl)) (eu_cons (eu_lst (eu_cons eu_int (eu_cons (eu_var rfl (.int _)) (eu_cons (eu_var rfl h4) (eu_cons eu_str eu_nil)))) (Nat.le_of_ble_eq_true rfl)) (eu_cons (eu_lst (eu_cons eu_int (eu_cons (eu_var rfl h3) (eu_cons (eu_var rfl (.int _)) (eu_cons eu_str eu_nil)))) (Nat.le_of_ble_eq_true rfl)) eu_nil)))) (by simp only [List.length_append, ldrs0, ldrs1, ldrs2, ldrs3, ldrs4, ldrs5, ldrs6, ldrs7, ldrs8, ldrs9, ldrs10, ldrs11, ldrs12, ldrs13, ldrs14, ldrs15]; decide)) D0 (Ex.refl _)) g0.sub (fun v7 D1 H1 g h7 => ?_)
  have h3 := h3.ex g.bas
  have h4 := h4.ex g.bas
  have h6 := h6.ex g.bas
  have g0 := g0.trans (.ev g)
  have pu6 := pu6.ex g.act
  show tSeq _ _ _ [some (.ref p), some va, some (.int many), some v3, some v4, some (.int at_), some v6, some v7] _
  refine d_asg (H := D1) (d := .list ((drs0 odd bad strange at_ many ++ drs1 odd bad strange at_ many))) ((eu_cat (ds := drs0 odd bad strange at_ many) (eu_var rfl h7) (eu_lst (ds := drs1 odd bad strange at_ many) (eu_cons (eu_lst (eu_cons eu_int (eu_cons (eu_var rfl (.int _)) (eu_cons (eu_var rfl h3) (eu_cons eu_str eu_nil)))) (Nat.le_of_ble_eq_true rfl)) (eu_cons (eu_lst (eu_cons eu_int (eu_cons (eu_var rfl h6) (eu_cons eu_non (eu_cons eu_str eu_nil)))) (Nat.le_of_ble_eq_true rfl)) (eu_cons (eu_lst (eu_cons eu_int (eu_cons (eu_var rfl h6) (eu_cons eu_non (eu_cons eu_str eu_nil)))) (Nat.le_of_ble_eq_true rfl)) eu_nil))) (by simp only [List.length_append, ldrs0, ldrs1, ldrs2, ldrs3, ldrs4, ldrs5, ldrs6, ldrs7, ldrs8, ldrs9, ldrs10, ldrs11, ldrs12, ldrs13, ldrs14, ldrs15]; decide)) (by simp only [List.length_append, ldrs0, ldrs1, ldrs2, ldrs3, ldrs4, ldrs5, ldrs6, ldrs7, ldrs8, ldrs9, ldrs10, ldrs11, ldrs12, ldrs13, ldrs14, ldrs15]; decide)) D1 (Ex.refl _)) g0.sub (fun v7 D2 H2 g h7 => ?_)
  have h3 := h3.ex g.bas
  have h4 := h4.ex g.bas
  have h6 := h6.ex g.bas
  have g0 := g0.trans (.ev g)
  have pu6 := pu6.ex g.act
  show tSeq _ _ _ [some (.ref p), some va, some (.int many), some v3, some v4, some (.int at_), some v6, some v7] _
  refine d_asg (H := D2) (d := .list (((drs0 odd bad strange at_ many ++ drs1 odd bad strange at_ many) ++ drs2 odd bad strange at_ many))) ((eu_cat (ds := (drs0 odd bad strange at_ many ++ drs1 odd bad strange at_ many)) (eu_var rfl h7) (eu_lst (ds := drs2 odd bad strange at_ many) (eu_cons (eu_lst (eu_cons eu_int (eu_cons (eu_var rfl h6) (eu_cons eu_non (eu_cons eu_str eu_nil)))) (Nat.le_of_ble_eq_true rfl)) (eu_cons (eu_lst (eu_cons eu_int (eu_cons eu_str (eu_cons (eu_tup (eu_cons (eu_tup (eu_cons (eu_var rfl (.int _)) (eu_cons (eu_var rfl h4) eu_nil)) (Nat.le_of_ble_eq_true rfl)) eu_nil) (Nat.le_of_ble_eq_true rfl)) (eu_cons eu_str eu_nil)))) (Nat.le_of_ble_eq_true rfl)) (eu_cons (eu_lst (eu_cons eu_int (eu_cons eu_str (eu_cons (eu_lst eu_nil (Nat.le_of_ble_eq_true rfl)) (eu_cons eu_str eu_nil)))) (Nat.le_of_ble_eq_true rfl)) eu_nil))) (by simp only [List.length_append, ldrs0, ldrs1, ldrs2, ldrs3, ldrs4, ldrs5, ldrs6, ldrs7, ldrs8, ldrs9, ldrs10, ldrs11, ldrs12, ldrs13, ldrs14, ldrs15]; decide)) (by simp only [List.length_append, ldrs0, ldrs1, ldrs2, ldrs3, ldrs4, ldrs5, ldrs6, ldrs7, ldrs8, ldrs9, ldrs10, ldrs11, ldrs12, ldrs13, ldrs14, ldrs15]; decide)) D2 (Ex.refl _)) g0.sub (fun v7 D3 H3 g h7 => ?_)
  have h3 := h3.ex g.bas
  have h4 := h4.ex g.bas
  have h6 := h6.ex g.bas
  have g0 := g0.trans (.ev g)
  have pu6 := pu6.ex g.act
  show tSeq _ _ _ [some (.ref p), some va, some (.int many), some v3, some v4, some (.int at_), some v6, some v7] _
  refine d_asg (H := D3) (d := .list ((((drs0 odd bad strange at_ many ++ drs1 odd bad strange at_ many) ++ drs2 odd bad strange at_ many) ++ drs3 odd bad strange at_ many))) ((eu_cat (ds := ((drs0 odd bad strange at_ many ++ drs1 odd bad strange at_ many) ++ drs2 odd bad strange at_ many)) (eu_var rfl h7) (eu_lst (ds := drs3 odd bad strange at_ many) (eu_cons (eu_lst (eu_cons eu_int (eu_cons eu_str (eu_cons (eu_tup (eu_cons (eu_tup (eu_cons (eu_var rfl (.int _)) (eu_cons (eu_tup eu_nil (Nat.le_of_ble_eq_true rfl)) eu_nil)) (Nat.le_of_ble_eq_true rfl)) (eu_cons (eu_tup (eu_cons (eu_var rfl (.int _)) (eu_cons (eu_tup (eu_cons eu_str eu_nil) (Nat.le_of_ble_eq_true rfl)) eu_nil)) (Nat.le_of_ble_eq_true rfl)) eu_nil)) (Nat.le_of_ble_eq_true rfl)) (eu_cons eu_str eu_nil)))) (Nat.le_of_ble_eq_true rfl)) (eu_cons (eu_lst (eu_cons eu_int (eu_cons eu_str (eu_cons (eu_tup (eu_cons (eu_tup (eu_cons (eu_var rfl (.int _)) (eu_cons (eu_tup eu_nil (Nat.le_of_ble_eq_true rfl)) eu_nil)) (Nat.le_of_ble_eq_true rfl)) (eu_cons (eu_tup (eu_cons (eu_var rfl (.int _)) (eu_cons (eu_tup eu_nil (Nat.le_of_ble_eq_true rfl)) eu_nil)) (Nat.le_of_ble_eq_true rfl)) eu_nil)) (Nat.le_of_ble_eq_true rfl)) (eu_cons eu_str eu_nil)))) (Nat.le_of_ble_eq_true rfl)) eu_nil)) (by simp only [List.length_append, ldrs0, ldrs1, ldrs2, ldrs3, ldrs4, ldrs5, ldrs6, ldrs7, ldrs8, ldrs9, ldrs10, ldrs11, ldrs12, ldrs13, ldrs14, ldrs15]; decide)) (by simp only [List.length_append, ldrs0, ldrs1, ldrs2, ldrs3, ldrs4, ldrs5, ldrs6, ldrs7, ldrs8, ldrs9, ldrs10, ldrs11, ldrs12, ldrs13, ldrs14, ldrs15]; decide)) D3 (Ex.refl _)) g0.sub (fun v7 D4 H4 g h7 => ?_)
  have h3 := h3.ex g.bas
  have h4 := h4.ex g.bas
  have h6 := h6.ex g.bas
  have g0 := g0.trans (.ev g)
  have pu6 := pu6.ex g.act
  show tSeq _ _ _ [some (.ref p), some va, some (.int many), some v3, some v4, some (.int at_), some v6, some v7] _
  refine d_asg (H := D4) (d := .list (((((drs0 odd bad strange at_ many ++ drs1 odd bad strange at_ many) ++ drs2 odd bad strange at_ many) ++ drs3 odd bad strange at_ many) ++ drs4 odd bad strange at_ many))) ((eu_cat (ds := (((drs0 odd bad strange at_ many ++ drs1 odd bad strange at_ many) ++ drs2 odd bad strange at_ many) ++ drs3 odd bad strange at_ many)) (eu_var rfl h7) (eu_lst (ds := drs4 odd bad strange at_ many) (eu_cons (eu_lst (eu_cons eu_int (eu_cons eu_str (eu_cons (eu_tup (eu_cons (eu_tup (eu_cons (eu_var rfl (.int _)) (eu_cons (eu_tup (eu_cons eu_str eu_nil) (Nat.le_of_ble_eq_true rfl)) eu_nil)) (Nat.le_of_ble_eq_true rfl)) eu_nil) (Nat.le_of_ble_eq_true rfl)) (eu_cons eu_str eu_nil)))) (Nat.le_of_ble_eq_true rfl)) (eu_cons (eu_lst (eu_cons eu_int (eu_cons eu_str (eu_cons (eu_tup (eu_cons (eu_tup (eu_cons (eu_var rfl (.int _)) eu_nil) (Nat.le_of_ble_eq_true rfl)) eu_nil) (Nat.le_of_ble_eq_true rfl)) (eu_cons eu_str eu_nil)))) (Nat.le_of_ble_eq_true rfl)) eu_nil)) (by simp only [List.length_append, ldrs0, ldrs1, ldrs2, ldrs3, ldrs4, ldrs5, ldrs6, ldrs7, ldrs8, ldrs9, ldrs10, ldrs11, ldrs12, ldrs13, ldrs14, ldrs15]; decide)) (by simp only [List.length_append, ldrs0, ldrs1, ldrs2, ldrs3, ldrs4, ldrs5, ldrs6, ldrs7, ldrs8, ldrs9, ldrs10, ldrs11, ldrs12, ldrs13, ldrs14, ldrs15]; decide)) D4 (Ex.refl _)) g0.sub (fun v7 D5 H5 g h7 => ?_)
  have h3 := h3.ex g.bas
  have h4 := h4.ex g.bas
  have h6 := h6.ex g.bas
  have g0 := g0.trans (.ev g)
  have pu6 := pu6.ex g.act
  show tSeq _ _ _ [some (.ref p), some va, some (.int many), some v3, some v4, some (.int at_), some v6, some v7] _
  refine d_asg (H := D5) (d := .list ((((((drs0 odd bad strange at_ many ++ drs1 odd bad strange at_ many) ++ drs2 odd bad strange at_ many) ++ drs3 odd bad strange at_ many) ++ drs4 odd bad strange at_ many) ++ drs5 odd bad strange at_ many))) ((eu_cat (ds := ((((drs0 odd bad strange at_ many ++ drs1 odd bad strange at_ many) ++ drs2 odd bad strange at_ many) ++ drs3 odd bad strange at_ many) ++ drs4 odd bad strange at_ many)) (eu_var rfl h7) (eu_lst (ds := drs5 odd bad strange at_ many) (eu_cons (eu_lst (eu_cons eu_int (eu_cons eu_str (eu_cons (eu_tup (eu_cons (eu_lst (eu_cons (eu_var rfl (.int _)) (eu_cons (eu_tup eu_nil (Nat.le_of_ble_eq_true rfl)) eu_nil)) (Nat.le_of_ble_eq_true rfl)) eu_nil) (Nat.le_of_ble_eq_true rfl)) (eu_cons eu_str eu_nil)))) (Nat.le_of_ble_eq_true rfl)) (eu_cons (eu_lst (eu_cons eu_int (eu_cons eu_str (eu_cons (eu_tup (eu_cons (eu_tup (eu_cons eu_int (eu_cons (eu_tup eu_nil (Nat.le_of_ble_eq_true rfl)) eu_nil)) (Nat.le_of_ble_eq_true rfl)) (eu_cons (eu_tup (eu_cons (eu_sub rfl) (eu_cons (eu_tup (eu_cons eu_str eu_nil) (Nat.le_of_ble_eq_true rfl)) eu_nil)) (Nat.le_of_ble_eq_true rfl)) eu_nil)) (Nat.le_of_ble_eq_true rfl)) (eu_cons eu_str eu_nil)))) (Nat.le_of_ble_eq_true rfl)) eu_nil)) (by simp only [List.length_append, ldrs0, ldrs1, ldrs2, ldrs3, ldrs4, ldrs5, ldrs6, ldrs7, ldrs8, ldrs9, ldrs10, ldrs11, ldrs12, ldrs13, ldrs14, ldrs15]; decide)) (by simp only [List.length_append, ldrs0, ldrs1, ldrs2, ldrs3, ldrs4, ldrs5, ldrs6, ldrs7, ldrs8, ldrs9, ldrs10, ldrs11, ldrs12, ldrs13, ldrs14, ldrs15]; decide)) D5 (Ex.refl _)) g0.sub (fun v7 D6 H6 g h7 => ?_)
  have h3 := h3.ex g.bas
  have h4 := h4.ex g.bas
  have h6 := h6.ex g.bas
  have g0 := g0.trans (.ev g)
  have pu6 := pu6.ex g.act
  show tSeq _ _ _ [some (.ref p), some va, some (.int many), some v3, some v4, some (.int at_), some v6, some v7] _
  refine d_asg (H := D6) (d := .list (((((((drs0 odd bad strange at_ many ++ drs1 odd bad strange at_ many) ++ drs2 odd bad strange at_ many) ++ drs3 odd bad strange at_ many) ++ drs4 odd bad strange at_ many) ++ drs5 odd bad strange at_ many) ++ drs6 odd bad strange at_ many))) ((eu_cat (ds := (((((drs0 odd bad strange at_ many ++ drs1 odd bad strange at_ many) ++ drs2 odd bad strange at_ many) ++ drs3 odd bad strange at_ many) ++ drs4 odd bad strange at_ many) ++ drs5 odd bad strange at_ many)) (eu_var rfl h7) (eu_lst (ds := drs6 odd bad strange at_ many) (eu_cons (eu_lst (eu_cons eu_int (eu_cons eu_str (eu_cons (eu_tup (eu_cons (eu_tup (eu_cons eu_int (eu_cons (eu_tup (eu_cons eu_str eu_nil) (Nat.le_of_ble_eq_true rfl)) eu_nil)) (Nat.le_of_ble_eq_true rfl)) (eu_cons (eu_tup (eu_cons (eu_sub rfl) (eu_cons (eu_tup eu_nil (Nat.le_of_ble_eq_true rfl)) eu_nil)) (Nat.le_of_ble_eq_true rfl)) eu_nil)) (Nat.le_of_ble_eq_true rfl)) (eu_cons eu_str eu_nil)))) (Nat.le_of_ble_eq_true rfl)) eu_nil) (by simp only [List.length_append, ldrs0, ldrs1, ldrs2, ldrs3, ldrs4, ldrs5, ldrs6, ldrs7, ldrs8, ldrs9, ldrs10, ldrs11, ldrs12, ldrs13, ldrs14, ldrs15]; decide)) (by simp only [List.length_append, ldrs0, ldrs1, ldrs2, ldrs3, ldrs4, ldrs5, ldrs6, ldrs7, ldrs8, ldrs9, ldrs10, ldrs11, ldrs12, ldrs13, ldrs14, ldrs15]; decide)) D6 (Ex.refl _)) g0.sub (fun v7 D7 H7 g h7 => ?_)
  have h3 := h3.ex g.bas
  have h4 := h4.ex g.bas
  have h6 := h6.ex g.bas
  have g0 := g0.trans (.ev g)
  have pu6 := pu6.ex g.act
  show tSeq _ _ _ [some (.ref p), some va, some (.int many), some v3, some v4, some (.int at_), some v6, some v7] _
  refine d_asg (H := D7) (d := .list ((((((((drs0 odd bad strange at_ many ++ drs1 odd bad strange at_ many) ++ drs2 odd bad strange at_ many) ++ drs3 odd bad strange at_ many) ++ drs4 odd bad strange at_ many) ++ drs5 odd bad strange at_ many) ++ drs6 odd bad strange at_ many) ++ drs7 odd bad strange at_ many))) ((eu_cat (ds := ((((((drs0 odd bad strange at_ many ++ drs1 odd bad strange at_ many) ++ drs2 odd bad strange at_ many) ++ drs3 odd bad strange at_ many) ++ drs4 odd bad strange at_ many) ++ drs5 odd bad strange at_ many) ++ drs6 odd bad strange at_ many)) (eu_var rfl h7) (eu_lst (ds := drs7 odd bad strange at_ many) (eu_cons (eu_lst (eu_cons eu_int (eu_cons eu_str (eu_cons (eu_tup (eu_cons (eu_tup (eu_cons eu_int (eu_cons (eu_tup (eu_cons eu_str (eu_cons eu_str eu_nil)) (Nat.le_of_ble_eq_true rfl)) eu_nil)) (Nat.le_of_ble_eq_true rfl)) eu_nil) (Nat.le_of_ble_eq_true rfl)) (eu_cons eu_str eu_nil)))) (Nat.le_of_ble_eq_true rfl)) eu_nil) (by simp only [List.length_append, ldrs0, ldrs1, ldrs2, ldrs3, ldrs4, ldrs5, ldrs6, ldrs7, ldrs8, ldrs9, ldrs10, ldrs11, ldrs12, ldrs13, ldrs14, ldrs15]; decide)) (by simp only [List.length_append, ldrs0, ldrs1, ldrs2, ldrs3, ldrs4, ldrs5, ldrs6, ldrs7, ldrs8, ldrs9, ldrs10, ldrs11, ldrs12, ldrs13, ldrs14, ldrs15]; decide)) D7 (Ex.refl _)) g0.sub (fun v7 D8 H8 g h7 => ?_)
  have h3 := h3.ex g.bas
  have h4 := h4.ex g.bas
  have h6 := h6.ex g.bas
  have g0 := g0.trans (.ev g)
  have pu6 := pu6.ex g.act
  show tSeq _ _ _ [some (.ref p), some va, some (.int many), some v3, some v4, some (.int at_), some v6, some v7] _
  refine d_asg (H := D8) (d := .list (((((((((drs0 odd bad strange at_ many ++ drs1 odd bad strange at_ many) ++ drs2 odd bad strange at_ many) ++ drs3 odd bad strange at_ many) ++ drs4 odd bad strange at_ many) ++ drs5 odd bad strange at_ many) ++ drs6 odd bad strange at_ many) ++ drs7 odd bad strange at_ many) ++ drs8 odd bad strange at_ many))) ((eu_cat (ds := (((((((drs0 odd bad strange at_ many ++ drs1 odd bad strange at_ many) ++ drs2 odd bad strange at_ many) ++ drs3 odd bad strange at_ many) ++ drs4 odd bad strange at_ many) ++ drs5 odd bad strange at_ many) ++ drs6 odd bad strange at_ many) ++ drs7 odd bad strange at_ many)) (eu_var rfl h7) (eu_lst (ds := drs8 odd bad strange at_ many) (eu_cons (eu_lst (eu_cons eu_int (eu_cons eu_str (eu_cons (eu_tup (eu_cons (eu_tup (eu_cons eu_int (eu_cons (eu_tup (eu_cons eu_str (eu_cons eu_str eu_nil)) (Nat.le_of_ble_eq_true rfl)) eu_nil)) (Nat.le_of_ble_eq_true rfl)) eu_nil) (Nat.le_of_ble_eq_true rfl)) (eu_cons eu_str eu_nil)))) (Nat.le_of_ble_eq_true rfl)) (eu_cons (eu_lst (eu_cons eu_int (eu_cons eu_str (eu_cons (eu_tup (eu_cons (eu_tup (eu_cons eu_int (eu_cons (eu_tup (eu_cons eu_str eu_nil) (Nat.le_of_ble_eq_true rfl)) eu_nil)) (Nat.le_of_ble_eq_true rfl)) eu_nil) (Nat.le_of_ble_eq_true rfl)) (eu_cons eu_str eu_nil)))) (Nat.le_of_ble_eq_true rfl)) eu_nil)) (by simp only [List.length_append, ldrs0, ldrs1, ldrs2, ldrs3, ldrs4, ldrs5, ldrs6, ldrs7, ldrs8, ldrs9, ldrs10, ldrs11, ldrs12, ldrs13, ldrs14, ldrs15]; decide)) (by simp only [List.length_append, ldrs0, ldrs1, ldrs2, ldrs3, ldrs4, ldrs5, ldrs6, ldrs7, ldrs8, ldrs9, ldrs10, ldrs11, ldrs12, ldrs13, ldrs14, ldrs15]; decide)) D8 (Ex.refl _)) g0.sub (fun v7 D9 H9 g h7 => ?_)
  have h3 := h3.ex g.bas
  have h4 := h4.ex g.bas
  have h6 := h6.ex g.bas
  have g0 := g0.trans (.ev g)
  have pu6 := pu6.ex g.act
  show tSeq _ _ _ [some (.ref p), some va, some (.int many), some v3, some v4, some (.int at_), some v6, some v7] _
  refine d_asg (H := D9) (d := .list ((((((((((drs0 odd bad strange at_ many ++ drs1 odd bad strange at_ many) ++ drs2 odd bad strange at_ many) ++ drs3 odd bad strange at_ many) ++ drs4 odd bad strange at_ many) ++ drs5 odd bad strange at_ many) ++ drs6 odd bad strange at_ many) ++ drs7 odd bad strange at_ many) ++ drs8 odd bad strange at_ many) ++ drs9 odd bad strange at_ many))) ((eu_cat (ds := ((((((((drs0 odd bad strange at_ many ++ drs1 odd bad strange at_ many) ++ drs2 odd bad strange at_ many) ++ drs3 odd bad strange at_ many) ++ drs4 odd bad strange at_ many) ++ drs5 odd bad strange at_ many) ++ drs6 odd bad strange at_ many) ++ drs7 odd bad strange at_ many) ++ drs8 odd bad strange at_ many)) (eu_var rfl h7) (eu_lst (ds := drs9 odd bad strange at_ many) (eu_cons (eu_lst (eu_cons eu_int (eu_cons eu_str (eu_cons (eu_tup (eu_cons (eu_tup (eu_cons eu_int (eu_cons (eu_tup (eu_cons eu_str eu_nil) (Nat.le_of_ble_eq_true rfl)) eu_nil)) (Nat.le_of_ble_eq_true rfl)) (eu_cons (eu_tup (eu_cons (eu_sub rfl) (eu_cons (eu_tup (eu_cons eu_str eu_nil) (Nat.le_of_ble_eq_true rfl)) eu_nil)) (Nat.le_of_ble_eq_true rfl)) eu_nil)) (Nat.le_of_ble_eq_true rfl)) (eu_cons eu_str eu_nil)))) (Nat.le_of_ble_eq_true rfl)) eu_nil) (by simp only [List.length_append, ldrs0, ldrs1, ldrs2, ldrs3, ldrs4, ldrs5, ldrs6, ldrs7, ldrs8, ldrs9, ldrs10, ldrs11, ldrs12, ldrs13, ldrs14, ldrs15]; decide)) (by simp only [List.length_append, ldrs0, ldrs1, ldrs2, ldrs3, ldrs4, ldrs5, ldrs6, ldrs7, ldrs8, ldrs9, ldrs10, ldrs11, ldrs12, ldrs13, ldrs14, ldrs15]; decide)) D9 (Ex.refl _)) g0.sub (fun v7 D10 H10 g h7 => ?_)
  have h3 := h3.ex g.bas
  have h4 := h4.ex g.bas
  have h6 := h6.ex g.bas
  have g0 := g0.trans (.ev g)
  have pu6 := pu6.ex g.act
  show tSeq _ _ _ [some (.ref p), some va, some (.int many), some v3, some v4, some (.int at_), some v6, some v7] _
  refine d_asg (H := D10) (d := .list (((((((((((drs0 odd bad strange at_ many ++ drs1 odd bad strange at_ many) ++ drs2 odd bad strange at_ many) ++ drs3 odd bad strange at_ many) ++ drs4 odd bad strange at_ many) ++ drs5 odd bad strange at_ many) ++ drs6 odd bad strange at_ many) ++ drs7 odd bad strange at_ many) ++ drs8 odd bad strange at_ many) ++ drs9 odd bad strange at_ many) ++ drs10 odd bad strange at_ many))) ((eu_cat (ds := (((((((((drs0 odd bad strange at_ many ++ drs1 odd bad strange at_ many) ++ drs2 odd bad strange at_ many) ++ drs3 odd bad strange at_ many) ++ drs4 odd bad strange at_ many) ++ drs5 odd bad strange at_ many) ++ drs6 odd bad strange at_ many) ++ drs7 odd bad strange at_ many) ++ drs8 odd bad strange at_ many) ++ drs9 odd bad strange at_ many)) (eu_var rfl h7) (eu_lst (ds := drs10 odd bad strange at_ many) (eu_cons (eu_lst (eu_cons eu_int (eu_cons eu_str (eu_cons (eu_tup (eu_cons (eu_tup (eu_cons (eu_var rfl (.int _)) (eu_cons (eu_tup eu_nil (Nat.le_of_ble_eq_true rfl)) eu_nil)) (Nat.le_of_ble_eq_true rfl)) (eu_cons (eu_tup (eu_cons (eu_var rfl (.int _)) eu_nil) (Nat.le_of_ble_eq_true rfl)) eu_nil)) (Nat.le_of_ble_eq_true rfl)) (eu_cons eu_str eu_nil)))) (Nat.le_of_ble_eq_true rfl)) eu_nil) (by simp only [List.length_append, ldrs0, ldrs1, ldrs2, ldrs3, ldrs4, ldrs5, ldrs6, ldrs7, ldrs8, ldrs9, ldrs10, ldrs11, ldrs12, ldrs13, ldrs14, ldrs15]; decide)) (by simp only [List.length_append, ldrs0, ldrs1, ldrs2, ldrs3, ldrs4, ldrs5, ldrs6, ldrs7, ldrs8, ldrs9, ldrs10, ldrs11, ldrs12, ldrs13, ldrs14, ldrs15]; decide)) D10 (Ex.refl _)) g0.sub (fun v7 D11 H11 g h7 => ?_)
  have h3 := h3.ex g.bas
  have h4 := h4.ex g.bas
  have h6 := h6.ex g.bas
  have g0 := g0.trans (.ev g)
  have pu6 := pu6.ex g.act
  show tSeq _ _ _ [some (.ref p), some va, some (.int many), some v3, some v4, some (.int at_), some v6, some v7] _
  refine d_asg (H := D11) (d := .list ((((((((((((drs0 odd bad strange at_ many ++ drs1 odd bad strange at_ many) ++ drs2 odd bad strange at_ many) ++ drs3 odd bad strange at_ many) ++ drs4 odd bad strange at_ many) ++ drs5 odd bad strange at_ many) ++ drs6 odd bad strange at_ many) ++ drs7 odd bad strange at_ many) ++ drs8 odd bad strange at_ many) ++ drs9 odd bad strange at_ many) ++ drs10 odd bad strange at_ many) ++ drs11 odd bad strange at_ many))) ((eu_cat (ds := ((((((((((drs0 odd bad strange at_ many ++ drs1 odd bad strange at_ many) ++ drs2 odd bad strange at_ many) ++ drs3 odd bad strange at_ many) ++ drs4 odd bad strange at_ many) ++ drs5 odd bad strange at_ many) ++ drs6 odd bad strange at_ many) ++ drs7 odd bad strange at_ many) ++ drs8 odd bad strange at_ many) ++ drs9 odd bad strange at_ many) ++ drs10 odd bad strange at_ many)) (eu_var rfl h7) (eu_lst (ds := drs11 odd bad strange at_ many) (eu_cons (eu_lst (eu_cons eu_int (eu_cons eu_str (eu_cons (eu_tup (eu_cons (eu_tup (eu_cons (eu_var rfl (.int _)) (eu_cons (eu_tup (eu_cons eu_str eu_nil) (Nat.le_of_ble_eq_true rfl)) eu_nil)) (Nat.le_of_ble_eq_true rfl)) (eu_cons (eu_tup (eu_cons (eu_var rfl (.int _)) (eu_cons (eu_tup eu_nil (Nat.le_of_ble_eq_true rfl)) eu_nil)) (Nat.le_of_ble_eq_true rfl)) eu_nil)) (Nat.le_of_ble_eq_true rfl)) (eu_cons eu_str eu_nil)))) (Nat.le_of_ble_eq_true rfl)) (eu_cons (eu_lst (eu_cons eu_int (eu_cons eu_str (eu_cons (eu_tup (eu_cons (eu_tup (eu_cons (eu_var rfl (.int _)) (eu_cons (eu_tup eu_nil (Nat.le_of_ble_eq_true rfl)) eu_nil)) (Nat.le_of_ble_eq_true rfl)) (eu_cons (eu_tup (eu_cons (eu_var rfl (.int _)) (eu_cons (eu_var rfl h4) eu_nil)) (Nat.le_of_ble_eq_true rfl)) eu_nil)) (Nat.le_of_ble_eq_true rfl)) (eu_cons eu_str eu_nil)))) (Nat.le_of_ble_eq_true rfl)) eu_nil)) (by simp only [List.length_append, ldrs0, ldrs1, ldrs2, ldrs3, ldrs4, ldrs5, ldrs6, ldrs7, ldrs8, ldrs9, ldrs10, ldrs11, ldrs12, ldrs13, ldrs14, ldrs15]; decide)) (by simp only [List.length_append, ldrs0, ldrs1, ldrs2, ldrs3, ldrs4, ldrs5, ldrs6, ldrs7, ldrs8, ldrs9, ldrs10, ldrs11, ldrs12, ldrs13, ldrs14, ldrs15]; decide)) D11 (Ex.refl _)) g0.sub (fun v7 D12 H12 g h7 => ?_)
  have h3 := h3.ex g.bas
  have h4 := h4.ex g.bas
  have h6 := h6.ex g.bas
  have g0 := g0.trans (.ev g)
  have pu6 := pu6.ex g.act
  show tSeq _ _ _ [some (.ref p), some va, some (.int many), some v3, some v4, some (.int at_), some v6, some v7] _
  refine d_asg (H := D12) (d := .list (((((((((((((drs0 odd bad strange at_ many ++ drs1 odd bad strange at_ many) ++ drs2 odd bad strange at_ many) ++ drs3 odd bad strange at_ many) ++ drs4 odd bad strange at_ many) ++ drs5 odd bad strange at_ many) ++ drs6 odd bad strange at_ many) ++ drs7 odd bad strange at_ many) ++ drs8 odd bad strange at_ many) ++ drs9 odd bad strange at_ many) ++ drs10 odd bad strange at_ many) ++ drs11 odd bad strange at_ many) ++ drs12 odd bad strange at_ many))) ((eu_cat (ds := (((((((((((drs0 odd bad strange at_ many ++ drs1 odd bad strange at_ many) ++ drs2 odd bad strange at_ many) ++ drs3 odd bad strange at_ many) ++ drs4 odd bad strange at_ many) ++ drs5 odd bad strange at_ many) ++ drs6 odd bad strange at_ many) ++ drs7 odd bad strange at_ many) ++ drs8 odd bad strange at_ many) ++ drs9 odd bad strange at_ many) ++ drs10 odd bad strange at_ many) ++ drs11 odd bad strange at_ many)) (eu_var rfl h7) (eu_lst (ds := drs12 odd bad strange at_ many) (eu_cons (eu_lst (eu_cons eu_int (eu_cons eu_str (eu_cons (eu_tup (eu_cons (eu_tup (eu_cons (eu_var rfl (.int _)) (eu_cons (eu_tup eu_nil (Nat.le_of_ble_eq_true rfl)) eu_nil)) (Nat.le_of_ble_eq_true rfl)) (eu_cons (eu_tup (eu_cons (eu_var rfl (.int _)) (eu_cons (eu_tup eu_nil (Nat.le_of_ble_eq_true rfl)) eu_nil)) (Nat.le_of_ble_eq_true rfl)) (eu_cons (eu_tup (eu_cons (eu_var rfl (.int _)) (eu_cons (eu_tup eu_nil (Nat.le_of_ble_eq_true rfl)) eu_nil)) (Nat.le_of_ble_eq_true rfl)) eu_nil))) (Nat.le_of_ble_eq_true rfl)) (eu_cons eu_str eu_nil)))) (Nat.le_of_ble_eq_true rfl)) (eu_cons (eu_lst (eu_cons eu_int (eu_cons eu_str (eu_cons (eu_tup (eu_cons (eu_tup (eu_cons (eu_var rfl (.int _)) (eu_cons (eu_tup eu_nil (Nat.le_of_ble_eq_true rfl)) eu_nil)) (Nat.le_of_ble_eq_true rfl)) (eu_cons (eu_tup (eu_cons (eu_var rfl (.int _)) (eu_cons (eu_tup eu_nil (Nat.le_of_ble_eq_true rfl)) eu_nil)) (Nat.le_of_ble_eq_true rfl)) eu_nil)) (Nat.le_of_ble_eq_true rfl)) (eu_cons eu_str eu_nil)))) (Nat.le_of_ble_eq_true rfl)) eu_nil)) (by simp only [List.length_append, ldrs0, ldrs1, ldrs2, ldrs3, ldrs4, ldrs5, ldrs6, ldrs7, ldrs8, ldrs9, ldrs10, ldrs11, ldrs12, ldrs13, ldrs14, ldrs15]; decide)) (by simp only [List.length_append, ldrs0, ldrs1, ldrs2, ldrs3, ldrs4, ldrs5, ldrs6, ldrs7, ldrs8, ldrs9, ldrs10, ldrs11, ldrs12, ldrs13, ldrs14, ldrs15]; decide)) D12 (Ex.refl _)) g0.sub (fun v7 D13 H13 g h7 => ?_)
  have h3 := h3.ex g.bas
  have h4 := h4.ex g.bas
  have h6 := h6.ex g.bas
  have g0 := g0.trans (.ev g)
  have pu6 := pu6.ex g.act
  show tSeq _ _ _ [some (.ref p), some va, some (.int many), some v3, some v4, some (.int at_), some v6, some v7] _
  refine d_asg (H := D13) (d := .list ((((((((((((((drs0 odd bad strange at_ many ++ drs1 odd bad strange at_ many) ++ drs2 odd bad strange at_ many) ++ drs3 odd bad strange at_ many) ++ drs4 odd bad strange at_ many) ++ drs5 odd bad strange at_ many) ++ drs6 odd bad strange at_ many) ++ drs7 odd bad strange at_ many) ++ drs8 odd bad strange at_ many) ++ drs9 odd bad strange at_ many) ++ drs10 odd bad strange at_ many) ++ drs11 odd bad strange at_ many) ++ drs12 odd bad strange at_ many) ++ drs13 odd bad strange at_ many))) ((eu_cat (ds := ((((((((((((drs0 odd bad strange at_ many ++ drs1 odd bad strange at_ many) ++ drs2 odd bad strange at_ many) ++ drs3 odd bad strange at_ many) ++ drs4 odd bad strange at_ many) ++ drs5 odd bad strange at_ many) ++ drs6 odd bad strange at_ many) ++ drs7 odd bad strange at_ many) ++ drs8 odd bad strange at_ many) ++ drs9 odd bad strange at_ many) ++ drs10 odd bad strange at_ many) ++ drs11 odd bad strange at_ many) ++ drs12 odd bad strange at_ many)) (eu_var rfl h7) (eu_lst (ds := drs13 odd bad strange at_ many) (eu_cons (eu_lst (eu_cons eu_int (eu_cons eu_str (eu_cons (eu_tup (eu_cons (eu_tup (eu_cons (eu_var rfl (.int _)) (eu_cons (eu_tup eu_nil (Nat.le_of_ble_eq_true rfl)) eu_nil)) (Nat.le_of_ble_eq_true rfl)) (eu_cons (eu_tup (eu_cons (eu_var rfl (.int _)) eu_nil) (Nat.le_of_ble_eq_true rfl)) eu_nil)) (Nat.le_of_ble_eq_true rfl)) (eu_cons eu_str eu_nil)))) (Nat.le_of_ble_eq_true rfl)) (eu_cons (eu_lst (eu_cons eu_int (eu_cons eu_str (eu_cons (eu_tup (eu_cons (eu_tup (eu_cons (eu_var rfl (.int _)) (eu_cons (eu_tup eu_nil (Nat.le_of_ble_eq_true rfl)) eu_nil)) (Nat.le_of_ble_eq_true rfl)) (eu_cons (eu_tup (eu_cons (eu_var rfl (.int _)) (eu_cons (eu_var rfl h4) eu_nil)) (Nat.le_of_ble_eq_true rfl)) eu_nil)) (Nat.le_of_ble_eq_true rfl)) (eu_cons eu_str eu_nil)))) (Nat.le_of_ble_eq_true rfl)) eu_nil)) (by simp only [List.length_append, ldrs0, ldrs1, ldrs2, ldrs3, ldrs4, ldrs5, ldrs6, ldrs7, ldrs8, ldrs9, ldrs10, ldrs11, ldrs12, ldrs13, ldrs14, ldrs15]; decide)) (by simp only [List.length_append, ldrs0, ldrs1, ldrs2, ldrs3, ldrs4, ldrs5, ldrs6, ldrs7, ldrs8, ldrs9, ldrs10, ldrs11, ldrs12, ldrs13, ldrs14, ldrs15]; decide)) D13 (Ex.refl _)) g0.sub (fun v7 D14 H14 g h7 => ?_)
  have h3 := h3.ex g.bas
  have h4 := h4.ex g.bas
  have h6 := h6.ex g.bas
  have g0 := g0.trans (.ev g)
  have pu6 := pu6.ex g.act
  show tSeq _ _ _ [some (.ref p), some va, some (.int many), some v3, some v4, some (.int at_), some v6, some v7] _
  refine d_asg (H := D14) (d := .list (((((((((((((((drs0 odd bad strange at_ many ++ drs1 odd bad strange at_ many) ++ drs2 odd bad strange at_ many) ++ drs3 odd bad strange at_ many) ++ drs4 odd bad strange at_ many) ++ drs5 odd bad strange at_ many) ++ drs6 odd bad strange at_ many) ++ drs7 odd bad strange at_ many) ++ drs8 odd bad strange at_ many) ++ drs9 odd bad strange at_ many) ++ drs10 odd bad strange at_ many) ++ drs11 odd bad strange at_ many) ++ drs12 odd bad strange at_ many) ++ drs13 odd bad strange at_ many) ++ drs14 odd bad strange at_ many))) ((eu_cat (ds := (((((((((((((drs0 odd bad strange at_ many ++ drs1 odd bad strange at_ many) ++ drs2 odd bad strange at_ many) ++ drs3 odd bad strange at_ many) ++ drs4 odd bad strange at_ many) ++ drs5 odd bad strange at_ many) ++ drs6 odd bad strange at_ many) ++ drs7 odd bad strange at_ many) ++ drs8 odd bad strange at_ many) ++ drs9 odd bad strange at_ many) ++ drs10 odd bad strange at_ many) ++ drs11 odd bad strange at_ many) ++ drs12 odd bad strange at_ many) ++ drs13 odd bad strange at_ many)) (eu_var rfl h7) (eu_lst (ds := drs14 odd bad strange at_ many) (eu_cons (eu_lst (eu_cons eu_int (eu_cons eu_str (eu_cons eu_non (eu_cons eu_str eu_nil)))) (Nat.le_of_ble_eq_true rfl)) eu_nil) (by simp only [List.length_append, ldrs0, ldrs1, ldrs2, ldrs3, ldrs4, ldrs5, ldrs6, ldrs7, ldrs8, ldrs9, ldrs10, ldrs11, ldrs12, ldrs13, ldrs14, ldrs15]; decide)) (by simp only [List.length_append, ldrs0, ldrs1, ldrs2, ldrs3, ldrs4, ldrs5, ldrs6, ldrs7, ldrs8, ldrs9, ldrs10, ldrs11, ldrs12, ldrs13, ldrs14, ldrs15]; decide)) D14 (Ex.refl _)) g0.sub (fun v7 D15 H15 g h7 => ?_)
  have h3 := h3.ex g.bas
  have h4 := h4.ex g.bas
  have h6 := h6.ex g.bas
  have g0 := g0.trans (.ev g)
  have pu6 := pu6.ex g.act
  show tRet _ _ [some (.ref p), some va, some (.int many), some v3, some v4, some (.int at_), some v6, some v7] _
  refine d_ret (H := D15) (d := .list ((((((((((((((((drs0 odd bad strange at_ many ++ drs1 odd bad strange at_ many) ++ drs2 odd bad strange at_ many) ++ drs3 odd bad strange at_ many) ++ drs4 odd bad strange at_ many) ++ drs5 odd bad strange at_ many) ++ drs6 odd bad strange at_ many) ++ drs7 odd bad strange at_ many) ++ drs8 odd bad strange at_ many) ++ drs9 odd bad strange at_ many) ++ drs10 odd bad strange at_ many) ++ drs11 odd bad strange at_ many) ++ drs12 odd bad strange at_ many) ++ drs13 odd bad strange at_ many) ++ drs14 odd bad strange at_ many) ++ drs15 odd bad strange at_ many))) ((eu_cat (ds := ((((((((((((((drs0 odd bad strange at_ many ++ drs1 odd bad strange at_ many) ++ drs2 odd bad strange at_ many) ++ drs3 odd bad strange at_ many) ++ drs4 odd bad strange at_ many) ++ drs5 odd bad strange at_ many) ++ drs6 odd bad strange at_ many) ++ drs7 odd bad strange at_ many) ++ drs8 odd bad strange at_ many) ++ drs9 odd bad strange at_ many) ++ drs10 odd bad strange at_ many) ++ drs11 odd bad strange at_ many) ++ drs12 odd bad strange at_ many) ++ drs13 odd bad strange at_ many) ++ drs14 odd bad strange at_ many)) (eu_var rfl h7) (eu_lst (ds := drs15 odd bad strange at_ many) (eu_cons (eu_lst (eu_cons eu_int (eu_cons eu_str (eu_cons (eu_tup (eu_cons (eu_tup (eu_cons eu_neg (eu_cons (eu_tup eu_nil (Nat.le_of_ble_eq_true rfl)) eu_nil)) (Nat.le_of_ble_eq_true rfl)) eu_nil) (Nat.le_of_ble_eq_true rfl)) (eu_cons eu_str eu_nil)))) (Nat.le_of_ble_eq_true rfl)) (eu_cons (eu_lst (eu_cons eu_int (eu_cons eu_str (eu_cons (eu_tup (eu_cons (eu_tup (eu_cons eu_bl (eu_cons (eu_tup eu_nil (Nat.le_of_ble_eq_true rfl)) eu_nil)) (Nat.le_of_ble_eq_true rfl)) eu_nil) (Nat.le_of_ble_eq_true rfl)) (eu_cons eu_str eu_nil)))) (Nat.le_of_ble_eq_true rfl)) eu_nil)) (by simp only [List.length_append, ldrs0, ldrs1, ldrs2, ldrs3, ldrs4, ldrs5, ldrs6, ldrs7, ldrs8, ldrs9, ldrs10, ldrs11, ldrs12, ldrs13, ldrs14, ldrs15]; decide)) (by simp only [List.length_append, ldrs0, ldrs1, ldrs2, ldrs3, ldrs4, ldrs5, ldrs6, ldrs7, ldrs8, ldrs9, ldrs10, ldrs11, ldrs12, ldrs13, ldrs14, ldrs15]; decide)) D15 (Ex.refl _)) g0.sub (fun v7 D16 H16 g h7 => ?_)
  exact q v7 odd bad at_ strange _ _ (g0.trans (.ev g)) (pu6.ex g.act) hm3 hm4 a0 a1 hm6 h7
end
end Sg
end
section
set_option maxRecDepth 100000
set_option maxHeartbeats 4000000
/-! The law: where a hand and its purse stand, and what becomes of them when it is asked. -/
namespace Sg
open PySem PySem.Spec PyProof.Rows L2 Evl
/-- where all stands: the purse, the hand, its lots, its dict of keepings, the keepings, the tuple of hands -/
structure Fx where
  K : PySem.W.Frag
  C : Addr
  CL : Addr
  CK : Addr
  p : Addr
  a : Addr
  l : Addr
  kd : Addr
  pb : Addr
  pc : Addr
  hv : V
def hs3 : List Str := ["ana", "bo", "cy"]
def kv3 (S : Fx) : List (Key × V) := [(.inr "bo", .ref S.pb), (.inr "cy", .ref S.pc)]
structure SB (S : Fx) (D H L Lb Lc : Hp) (N : Int) (wc : Int) (nc : Nat) : Prop where
  eD : Ex D H
  dp : D S.p = none
  pu : PurseAt S.p N H
  hk : HandK S.K S.C D S.a S.l "ana" S.hv S.kd (kv3 S) (hs3.map .str)
  eL : Ex L H
  lp : L S.p = none
  dl : Dj D L
  eb : Ex Lb H
  bp : Lb S.p = none
  db : Dj D Lb
  lb : Dj L Lb
  kb : KeepAt S.CK Lb S.pb "ana" "bo" 0 0
  ec : Ex Lc H
  cp : Lc S.p = none
  dc : Dj D Lc
  lc : Dj L Lc
  bc : Dj Lb Lc
  kc : KeepAt S.CK Lc S.pc "ana" "cy" wc nc
theorem SB.pg {S : Fx} {D H L Lb Lc D2 H2 : Hp} {N N2 wc : Int} {nc : Nat} (s : SB S D H L Lb Lc N wc nc) (g : Pg S.p D H D2 H2) (pu : PurseAt S.p N2 H2) : SB S D2 H2 L Lb Lc N2 wc nc where
  eD := g.sub
  dp := g.out s.dp s.pu
  pu := pu
  hk := s.hk.ex g.bas
  eL := g.own s.eL s.lp
  lp := s.lp
  dl := g.dj s.eL s.dl
  eb := g.own s.eb s.bp
  bp := s.bp
  db := g.dj s.eb s.db
  lb := s.lb
  kb := s.kb
  ec := g.own s.ec s.cp
  cp := s.cp
  dc := g.dj s.ec s.dc
  lc := s.lc
  bc := s.bc
  kc := s.kc
/-- data made -/
theorem SB.gr {S : Fx} {D H L Lb Lc D2 H2 : Hp} {N wc : Int} {nc : Nat} (s : SB S D H L Lb Lc N wc nc) (g : Gr D H D2 H2) : SB S D2 H2 L Lb Lc N wc nc := s.pg (.ev g) (s.pu.ex g.act)
/-- objects made that nobody knows -/
theorem SB.up {S : Fx} {D H L Lb Lc H2 : Hp} {N wc : Int} {nc : Nat} (s : SB S D H L Lb Lc N wc nc) (e : Ex H H2) : SB S D H2 L Lb Lc N wc nc := s.gr (.old s.eD e)
theorem Mv.side {L H L' H' X : Hp} (m : Mv L H L' H') (e : Ex X H) (d : Dj X L) : Ex X H' ∧ Dj X L' := by
  have h : ∀ b, X b ≠ none → H' b = H b ∧ L' b = none := fun b hb => by
    have l0 : L b = none := (d b).resolve_left hb
    exact m.rest b l0 (Ex.nn e hb)
  refine ⟨fun b u hb => ?_, fun b => ?_⟩
  · rw [(h b (by rw [hb]; simp)).1]
    exact e _ _ hb
  · cases z : X b with
    | none => exact .inl rfl
    | some u => exact .inr (h b (by rw [z]; simp)).2
/-- its lots have changed -/
theorem SB.lots {S : Fx} {D H L Lb Lc L' H' : Hp} {N wc : Int} {nc : Nat} (s : SB S D H L Lb Lc N wc nc) (m : Mv L H L' H') : SB S D H' L' Lb Lc N wc nc := by
  obtain ⟨a1, a2⟩ := m.side s.eD s.dl
  obtain ⟨b1, b2⟩ := m.side s.eb s.lb.symm
  obtain ⟨c1, c2⟩ := m.side s.ec s.lc.symm
  obtain ⟨p1, p2⟩ := m.rest S.p s.lp s.pu.nn
  refine ⟨a1, s.dp, ?_, s.hk, m.sub, p2, a2, b1, s.bp, s.db, b2.symm, s.kb, c1, s.cp, s.dc, c2.symm, s.bc, s.kc⟩
  obtain ⟨x, y, z, h, r⟩ := s.pu
  exact ⟨x, y, z, by rw [p1]; exact h, r⟩
/-- a list made anew, known from now on -/
theorem SB.lst {S : Fx} {D H L Lb Lc H2 : Hp} {N wc : Int} {nc : Nat} (s : SB S D H L Lb Lc N wc nc) (e : Ex H H2) {q : Addr} {xs : List V} (hq : H q = none) (h : H2 q = some (.lst xs)) : SB S (upd D q (.lst xs)) H2 L Lb Lc N wc nc := by
  have nd : D q = none := fresh_back s.eD hq
  refine s.gr ⟨e, Ex.new nd, fun b u hb => ?_, fun b h1 h2 => ?_⟩
  · by_cases z : b = q
    · subst z
      rw [upd_same] at hb
      cases hb
      exact h
    · rw [upd_ne z] at hb
      exact e _ _ (s.eD _ _ hb)
  · have n : b ≠ q := fun z => h2 (z ▸ hq)
    rw [upd_ne n]
    exact h1
section
variable {S : Fx} {D H L Lb Lc : Hp} {N wc : Int} {nc n : Nat} {wk : Nat → List (Key × V)} {cC cW cH cN : Addr} {E : XK} {Q : VK}
/-- let: what is told stands in a new list behind "ok" -/
theorem told_at {way : Nat} {one two : V} (s : SB S D H L Lb Lc N wc nc) (hw : way ≤ 5)
    (h : ∀ (Q' : VK) (E' : XK), (∀ v H2, (∀ p, H2 p = none → Q (.ref p) (upd H2 p (.lst [.str "ok", v]))) → Q' v H2) →
      (∀ j H2, j < 4 → (∀ p H3, H2 p = none → Ex H2 H3 → H3 p = some (.lst [.str (errN j)]) → Q (.ref p) H3) → E' (.ref (errA cC cW cH cN j)) none H2) → ask S.K S.C S.CL S.CK cC cW cH cN S.a one two way H Q' E') :
    spTold S.K S.C S.CL S.CK cC cW cH cN [.ref S.a, .int (way : Int), one, two] H Q E := by
  obtain ⟨dx, ob⟩ := s.hk.ob
  exact ⟨S.a, way, one, two, dx, "ana", S.hv, S.l, S.kd, rfl, hw, s.eD _ _ ob, h⟩
/-- let it see -/
theorem told_see {v two : V} {ws : List Str} (s : SB S D H L Lb Lc N wc nc) (lo : LotsAt S.CL L S.l n wk) (hn : n ≤ 1000) (hd : Da S.K D v (wordsD ws)) (ok : OkD (wordsD ws)) (hw : isWords (wordsD ws) = true) (hl : ws.length ≤ 1000)
    (k : ∀ q H2 L', LotsAt S.CL L' S.l (n + 1) (setN wk n (putsW ws)) → SB S (upd D q (.lst [.str "ok", .int (n : Int)])) H2 L' Lb Lc N wc nc → Ex D (upd D q (.lst [.str "ok", .int (n : Int)])) → Da S.K (upd D q (.lst [.str "ok", .int (n : Int)])) (.ref q) (.list [.str "ok", .int (n : Int)]) → Q (.ref q) H2) :
    spTold S.K S.C S.CL S.CK cC cW cH cN [.ref S.a, .int ((0 : Nat) : Int), v, two] H Q E := by
  refine told_at s (by decide) fun Q' E' q _ => .inr ⟨D, L, S.a, S.l, n, wk, v, ws, rfl, s.eD, s.eL, s.dl, s.hk.handO, lo, hn, hd, ok, hw, hl, fun L' H' m lo' => q _ _ fun p hp => ?_⟩
  have s2 := s.lots m
  exact k p _ L' lo' (s2.lst (Ex.new hp) hp upd_same) (Ex.new (fresh_back s2.eD hp)) (.lst upd_same (.cons (.str _) (.cons (.int _) .nil)))
/-- let it look -/
theorem told_look {v : V} {i : Nat} {ws : List Str} (s : SB S D H L Lb Lc N wc nc) (lo : LotsAt S.CL L S.l n wk) (hn : n ≤ 1000) (hi : i < n) (hl : (wk i).length + ws.length ≤ 5000) (hd : Da S.K D v (wordsD ws)) (ok : OkD (wordsD ws)) (hw : isWords (wordsD ws) = true)
    (k : ∀ q H2 L', LotsAt S.CL L' S.l n (setN wk i (putW (wk i) ws)) → SB S (upd D q (.lst [.str "ok", .non])) H2 L' Lb Lc N wc nc → Ex D (upd D q (.lst [.str "ok", .non])) → Da S.K (upd D q (.lst [.str "ok", .non])) (.ref q) (.list [.str "ok", .none]) → Q (.ref q) H2) :
    spTold S.K S.C S.CL S.CK cC cW cH cN [.ref S.a, .int ((1 : Nat) : Int), .int (i : Int), v] H Q E := by
  refine told_at s (by decide) fun Q' E' q _ => .inr ⟨D, L, S.a, S.l, n, wk, i, v, ws, rfl, s.eD, s.eL, s.dl, s.hk.handO, lo, hn, hi, hl, hd, ok, hw, fun L' H' m lo' => q _ _ fun p hp => ?_⟩
  have s2 := s.lots m
  exact k p _ L' lo' (s2.lst (Ex.new hp) hp upd_same) (Ex.new (fresh_back s2.eD hp)) (.lst upd_same (.cons (.str _) (.cons .non .nil)))
/-- let it find the first and the last one -/
theorem told_one {g : Nat} {ks : List Str} (s : SB S D H L Lb Lc N wc nc) (lo : LotsAt S.CL L S.l n wk) (hg : n = g + 1) (h1 : 1 ≤ g) (hn : n ≤ 1000) (hk : (wk g).map (·.1) = ks.map (fun s : Str => (Sum.inr s : Key))) (h0 : (wk 0).length ≤ 1000) (hl : (wk g).length ≤ 1000)
    (k : ∀ q H2 L', LotU S.CL L' S.l n (hasW (wk 0)) → SB S (upd D q (.lst [.str "ok", .non])) H2 L' Lb Lc N wc nc → Ex D (upd D q (.lst [.str "ok", .non])) → Da S.K (upd D q (.lst [.str "ok", .non])) (.ref q) (.list [.str "ok", .none]) → Q (.ref q) H2) :
    spTold S.K S.C S.CL S.CK cC cW cH cN [.ref S.a, .int ((2 : Nat) : Int), .int 0, .int (g : Int)] H Q E := by
  refine told_at s (by decide) fun Q' E' q _ => .inr ⟨D, L, S.a, S.l, n, g, wk, ks, rfl, s.eD, s.eL, s.dl, s.hk.handO, lo, hg, h1, hn, hk, h0, hl, fun L' H' m lo' => q _ _ fun p hp => ?_⟩
  have s2 := s.lots m
  exact k p _ L' lo' (s2.lst (Ex.new hp) hp upd_same) (Ex.new (fresh_back s2.eD hp)) (.lst upd_same (.cons (.str _) (.cons .non .nil)))
/-! ### refused -/
theorem isO_kv : ∀ o : Str, isOther "ana" (hs3.map .str) (.str o) = true → ∃ p, valV (kv3 S) (.inr o) = some (.ref p) := fun o h => by
  have h1 : o = "bo" ∨ o = "cy" := by
    have h2 : (PyData.eqv (.str "ana") (.str o) || (PyData.eqv (.str "bo") (.str o) || (PyData.eqv (.str "cy") (.str o) || false))) = true ∧ (!PyData.eqv (.str o) (.str "ana")) = true := by
      have h3 := h
      unfold isOther at h3
      exact (Bool.and_eq_true _ _).mp h3
    obtain ⟨h2, h3⟩ := h2
    have e : ∀ x y : Str, PyData.eqv (.str x) (.str y) = decide (x = y) := fun x y => rfl
    rw [e] at h3
    rw [e, e, e] at h2
    have na : o ≠ "ana" := by simpa using h3
    simp only [Bool.or_eq_true, decide_eq_true_eq, Bool.false_eq_true, or_false] at h2
    rcases h2 with h2 | h2 | h2
    · exact absurd h2.symm na
    · exact .inl h2.symm
    · exact .inr h2.symm
  rcases h1 with rfl | rfl
  · exact ⟨S.pb, rfl⟩
  · exact ⟨S.pc, rfl⟩
theorem isO_str : ∀ d : PyData, isOther "ana" (hs3.map .str) d = true → ∃ o, d = .str o := fun d h => by
  cases d with
  | str o => exact ⟨o, rfl⟩
  | _ => exact absurd h (by unfold isOther; simp [inD, hs3, PyData.eqv])
/-- what keeps this being done, by the way -/
def RefX (n : Nat) (wk : Nat → List (Key × V)) (hf : Int → Int) (one two : PyData) (j : Nat) : Nat → Prop
  | 0 => isWords one = false ∧ j = 1
  | 1 => (isCard n one = false ∧ j = 0) ∨ (isCard n one = true ∧ isWords two = false ∧ j = 1)
  | 2 => (isCard n one && isCard n two) = false ∧ j = 0
  | 3 => (linesOf two).length ≤ 1000 ∧ ((writeX "ana" (hs3.map .str) n hf (fun i => wk (hf i).toNat) one two = 0 ∧ j = 2) ∨ (writeX "ana" (hs3.map .str) n hf (fun i => wk (hf i).toNat) one two = 1 ∧ j = 3) ∨ (writeX "ana" (hs3.map .str) n hf (fun i => wk (hf i).toNat) one two = 2 ∧ j = 0))
  | 4 => isOther "ana" (hs3.map .str) one = false ∧ j = 2
  | _ => isOther "ana" (hs3.map .str) one = false ∧ j = 2
theorem places_R {h m w : Addr} {ma wa : Nat → Addr} (o : LotsIn S.CL L S.l h m w ma wa n wk) : PlacesR L w (headsV n) (fun i => i) (fun i => wk i.toNat) := fun i i0 i1 => by
  have hi : i.toNat < n := by
    have : (headsV n).length = n := by unfold headsV; rw [List.length_map, List.length_range]
    rw [this] at i1
    omega
  have ei : ((i.toNat : Nat) : Int) = i := Int.toNat_of_nonneg i0
  have at_ : atI (headsV n) i = some (.int i) := by
    have := atI_nat (j := i.toNat) (headsV_at hi)
    rw [ei] at this
    exact this
  refine ⟨at_, i, placeV n wa, wa i.toNat, at_, o.wd, ?_, o.wl _ hi⟩
  rw [valV_place, if_pos ⟨i0, by omega⟩]
/-- lots as they are read: heads and what is known of them -/
def LotsR (S : Fx) (L : Hp) (n : Nat) (hf : Int → Int) (wk : Nat → List (Key × V)) : Prop := ∃ h m w xs, LotO S.CL L S.l h m w xs ∧ xs.length = n ∧ PlacesR L w xs hf (fun i => wk (hf i).toNat)
theorem lotsR_at (lo : LotsAt S.CL L S.l n wk) : LotsR S L n (fun i => i) wk := by
  obtain ⟨h, m, w, ma, wa, o⟩ := lo
  exact ⟨h, m, w, headsV n, o.lotO, (by unfold headsV; rw [List.length_map, List.length_range]), places_R o⟩
def lastH (n : Nat) (i : Int) : Int := if i = (n : Int) - 1 then 0 else i
theorem lotsR_u {kn : Str → Bool} (lo : LotU S.CL L S.l n kn) (hn : 2 ≤ n) : ∃ wk, LotsR S L n (lastH n) wk ∧ ∀ s, kn s = true → hasW (wk 0) s = true := by
  obtain ⟨h, m, w, kvs, p, kv, o, hw, v0, h0, hk, rest⟩ := lo
  have all : ∀ j : Nat, ∃ kvj : List (Key × V), (j = 0 → kvj = kv) ∧ (j < n - 1 → ∃ q, valV kvs (.inl (j : Int)) = some (.ref q) ∧ L q = some (.dK kvj)) := fun j => by
    by_cases z : j = 0
    · subst z
      exact ⟨kv, fun _ => rfl, fun _ => ⟨p, v0, h0⟩⟩
    · by_cases lt : j < n - 1
      · obtain ⟨q, kvj, h1, h2⟩ := rest j (by omega) lt
        exact ⟨kvj, fun e => absurd e z, fun _ => ⟨q, h1, h2⟩⟩
      · exact ⟨[], fun e => absurd e z, fun e => absurd e lt⟩
  have hl : ((headsV n).set (n - 1) (V.int 0)).length = n := by
    rw [List.length_set]
    unfold headsV
    rw [List.length_map, List.length_range]
  refine ⟨fun j => Classical.choose (all j), ⟨h, m, w, _, o, hl, fun i i0 i1 => ?_⟩, fun s hs => ?_⟩
  · rw [hl] at i1
    obtain ⟨k, rfl⟩ := Int.eq_ofNat_of_zero_le i0
    have hh : ∃ j : Nat, lastH n (k : Int) = (j : Int) ∧ j < n - 1 ∧ ((headsV n).set (n - 1) (V.int 0))[k]? = some (V.int (j : Int)) := by
      unfold lastH
      by_cases z : (k : Int) = (n : Int) - 1
      · have z' : n - 1 = k := by omega
        refine ⟨0, if_pos z, by omega, ?_⟩
        rw [z', List.getElem?_set_self (by unfold headsV; rw [List.length_map, List.length_range]; omega)]
        rfl
      · refine ⟨k, if_neg z, by omega, ?_⟩
        rw [List.getElem?_set_ne (by omega)]
        exact headsV_at (by omega)
    obtain ⟨j, ej, lt, ea⟩ := hh
    have at_ : atI ((headsV n).set (n - 1) (V.int 0)) (k : Int) = some (V.int (j : Int)) := atI_nat (j := k) ea
    obtain ⟨q, h1, h2⟩ := (Classical.choose_spec (all j)).2 lt
    show atI _ _ = some (V.int (lastH n k)) ∧ LotW L w _ _ (Classical.choose (all (lastH n k).toNat))
    rw [ej]
    refine ⟨at_, j, kvs, q, at_, hw, h1, ?_⟩
    rw [Int.toNat_natCast]
    exact h2
  · show hasW (Classical.choose (all 0)) s = true
    rw [(Classical.choose_spec (all 0)).1 rfl]
    exact hk s hs
theorem LotsR.ex {L L' : Hp} {hf : Int → Int} (o : LotsR S L n hf wk) (e : Ex L L') : LotsR S L' n hf wk := by
  obtain ⟨h, m, w, xs, o, hl, pl⟩ := o
  exact ⟨h, m, w, xs, o.ex e, hl, fun i i0 i1 => ⟨(pl i i0 i1).1, (pl i i0 i1).2.ex e⟩⟩
theorem told_x {way : Nat} {one two : V} {d1 d2 : PyData} {j : Nat} (s : SB S D H L Lb Lc N wc nc) {hf : Int → Int} (lo : LotsR S (join D L) n hf wk) (hn : n ≤ 1000) (hw : way ≤ 5) (h1 : Da S.K D one d1) (h2 : Da S.K D two d2) (o1 : OkD d1) (o2 : OkD d2) (r : RefX n wk hf d1 d2 j way)
    (k : ∀ q H2, Ex H H2 → SB S (upd D q (.lst [.str (errN j)])) H2 L Lb Lc N wc nc → Ex D (upd D q (.lst [.str (errN j)])) → Da S.K (upd D q (.lst [.str (errN j)])) (.ref q) (.list [.str (errN j)]) → Q (.ref q) H2) :
    spTold S.K S.C S.CL S.CK cC cW cH cN [.ref S.a, .int (way : Int), one, two] H Q E := by
  obtain ⟨h, m, w, xs, o, hl, pl⟩ := lo
  have eJ : Ex (join D L) H := join_ex s.eD s.eL
  have oJ := o
  have hkJ := s.hk.ex (ex_l (A := D) (B := L))
  have pJ := pl
  have h1J := h1.ex (ex_l (A := D) (B := L))
  have h2J := h2.ex (ex_l (A := D) (B := L))
  refine told_at s hw fun Q' E' _ q => ?_
  have fin : ∀ j', j' = j → j < 4 → ∀ H2, Ex H H2 → E' (.ref (errA cC cW cH cN j')) none H2 := fun j' ej hj H2 e2 => by
    subst ej
    refine q _ H2 hj fun p H3 hp e3 hq => ?_
    have s2 := s.up e2
    exact k p H3 (e2.trans e3) (s2.lst e3 hp hq) (Ex.new (fresh_back s2.eD hp)) (.lst upd_same (.cons (.str _) .nil))
  match way, hw, r with
  | 0, _, ⟨hx, ej⟩ => exact .inl ⟨D, S.a, S.l, one, d1, rfl, s.eD, s.hk.handO, h1, o1, hx, fun H2 e2 => fin 1 ej.symm (by omega) H2 e2⟩
  | 1, _, r =>
    refine .inl ⟨join D L, S.a, S.l, h, m, w, xs, one, two, d1, d2, rfl, eJ, hkJ.handO, oJ, by omega, h1J, h2J, o2, ?_⟩
    rw [hl]
    rcases r with ⟨hx, ej⟩ | ⟨hx, hy, ej⟩
    · exact .inl ⟨hx, fun H2 e2 => fin 0 ej.symm (by omega) H2 e2⟩
    · exact .inr ⟨hx, hy, fun H2 e2 => fin 1 ej.symm (by omega) H2 e2⟩
  | 2, _, ⟨hx, ej⟩ => exact .inl ⟨join D L, S.a, S.l, h, m, w, xs, one, two, d1, d2, rfl, eJ, hkJ.handO, oJ, by omega, h1J, h2J, by rw [hl]; exact hx, fun H2 e2 => fin 0 ej.symm (by omega) H2 e2⟩
  | 3, _, ⟨hz, r⟩ =>
    refine .inl ⟨join D L, S.a, S.l, "ana", S.hv, S.kd, kv3 S, _, h, m, w, xs, _, _, one, two, d1, d2, rfl, eJ, hkJ, isO_kv, isO_str, oJ, by omega, pJ, h1J, h2J, o1, o2, hz, ?_⟩
    rw [hl]
    rcases r with ⟨hx, ej⟩ | ⟨hx, ej⟩ | ⟨hx, ej⟩
    · exact .inl ⟨hx, fun H2 e2 => fin 2 ej.symm (by omega) H2 e2⟩
    · exact .inr (.inl ⟨hx, fun H2 e2 => fin 3 ej.symm (by omega) H2 e2⟩)
    · exact .inr (.inr ⟨hx, fun H2 e2 => fin 0 ej.symm (by omega) H2 e2⟩)
  | 4, _, ⟨hx, ej⟩ => exact ⟨D, S.a, S.l, "ana", S.hv, S.kd, kv3 S, _, one, d1, rfl, s.eD, s.hk, h1, o1, hx, fun H2 e2 => fin 2 ej.symm (by omega) H2 e2⟩
  | 5, _, ⟨hx, ej⟩ => exact ⟨D, S.a, S.l, "ana", S.hv, S.kd, kv3 S, _, one, d1, rfl, s.eD, s.hk, h1, o1, fun _ H2 e2 => fin 2 ej.symm (by omega) H2 e2, fun hb => by rw [hx] at hb; cases hb⟩
end
end Sg
end
section
set_option maxRecDepth 100000
set_option maxHeartbeats 4000000
/-! The law: each asked thing is refused as is due. -/
namespace Sg
open PySem PySem.Spec PyProof.Rows L2 Evl
theorem bad_is : ∀ d ∈ badWords, isWords d = false ∧ OkD d := by
  have h : ∀ d ∈ badWords, isWords d = false ∧ fitD d = true ∧ SeqAt.shaped d = true := by decide +kernel
  exact h
theorem strange_is : ∀ d ∈ stranges, isOther "ana" (hs3.map .str) d = false ∧ OkD d := by
  have h : ∀ d ∈ stranges, isOther "ana" (hs3.map .str) d = false ∧ fitD d = true ∧ SeqAt.shaped d = true := by decide +kernel
  exact h
theorem odd_is {n : Nat} (hn : n ≤ 1000) : ∀ d ∈ odds (n : Int), isCard n d = false ∧ OkD d := by
  intro d h
  simp only [odds, List.mem_cons, List.not_mem_nil, or_false] at h
  rcases h with rfl | rfl | rfl | rfl | rfl | rfl
  · exact ⟨by simp [isCard], rfl, rfl⟩
  · exact ⟨rfl, rfl, rfl⟩
  · exact ⟨rfl, rfl, rfl⟩
  · exact ⟨rfl, rfl, rfl⟩
  · exact ⟨rfl, by decide +kernel, by decide +kernel⟩
  · refine ⟨?_, rfl, rfl⟩
    show (decide ((0 : Int) ≤ 1000000000000000000000000000000) && decide ((1000000000000000000000000000000 : Int) < (n : Int))) = false
    rw [decide_eq_false (p := (1000000000000000000000000000000 : Int) < (n : Int)) (by omega), Bool.and_false]
theorem card_is {n : Nat} {i : Int} (h0 : 0 ≤ i) (h1 : i < n) : isCard n (.int i) = true := by simp [isCard, h0, h1]
theorem bad_line {bad : PyData} {i : Int} (h : isWords bad = false) : isLine (.tuple [.int i, bad]) = false := by
  show (isWhole (.int i) 0 && isWords bad) = false
  rw [h, Bool.and_false]
theorem line_is {i : Int} {w : PyData} (h0 : 0 ≤ i) (h : isWords w = true) : isLine (.tuple [.int i, w]) = true := by
  show (isWhole (.int i) 0 && isWords w) = true
  rw [h, Bool.and_true]
  exact decide_eq_true h0
def RowOk (n : Nat) (wk : Nat → List (Key × V)) (d : PyData) : Prop := ∃ (way : Nat) (one two : PyData) (j : Nat), d = .list [.int (way : Int), one, two, .str (errN j)] ∧ way ≤ 5 ∧ j < 4 ∧ OkD one ∧ OkD two ∧ RefX n wk (fun i => i) one two j way
theorem okN : OkD .none := ⟨rfl, rfl⟩
theorem okI {i : Int} : OkD (.int i) := ⟨rfl, rfl⟩
theorem okBo : OkD (.str "bo") := ⟨by decide +kernel, by decide +kernel⟩
theorem bo_is : isOther "ana" (hs3.map .str) (.str "bo") = true := by decide +kernel
section
variable {n : Nat} {wk : Nat → List (Key × V)} {at_ : Int} {bad odd strange d2 : PyData} {hf : Int → Int} {kn : Int → List (Key × V)}
theorem wx1 (h : areLines d2 = false) : writeX "ana" (hs3.map .str) n hf kn (.str "bo") d2 = 1 := by
  unfold writeX
  rw [bo_is, h, if_neg (by simp), if_pos rfl]
theorem wx2 (h : areLines d2 = true) (h2 : (linesOf d2).all (fun l => decide (l.1 < (n : Int))) = false) : writeX "ana" (hs3.map .str) n hf kn (.str "bo") d2 = 2 := by
  unfold writeX
  rw [bo_is, h, h2, if_neg (by simp), if_neg (by simp), if_pos rfl]
theorem wx3 (h : areLines d2 = true) (h2 : (linesOf d2).all (fun l => decide (l.1 < (n : Int))) = true) (h3 : mayB hf kn (linesOf d2) = false) : writeX "ana" (hs3.map .str) n hf kn (.str "bo") d2 = 1 := by
  unfold writeX
  rw [bo_is, h, h2, h3, if_neg (by simp), if_neg (by simp), if_neg (by simp), if_pos rfl]
theorem row_n (ok : OkD d2) (hl : (linesOf d2).length ≤ 1000) (h : areLines d2 = false) : RowOk n wk (.list [.int 3, .str "bo", d2, .str "NoLines"]) :=
  ⟨3, .str "bo", d2, 3, rfl, by decide, by decide, okBo, ok, hl, .inr (.inl ⟨wx1 h, rfl⟩)⟩
theorem row_c (ok : OkD d2) (hl : (linesOf d2).length ≤ 1000) (h : areLines d2 = true) (h2 : (linesOf d2).all (fun l => decide (l.1 < (n : Int))) = false) : RowOk n wk (.list [.int 3, .str "bo", d2, .str "NoCard"]) :=
  ⟨3, .str "bo", d2, 0, rfl, by decide, by decide, okBo, ok, hl, .inr (.inr ⟨wx2 h h2, rfl⟩)⟩
theorem row_m (ok : OkD d2) (hl : (linesOf d2).length ≤ 1000) (h : areLines d2 = true) (h2 : (linesOf d2).all (fun l => decide (l.1 < (n : Int))) = true) (h3 : mayB (fun i => i) (fun i => wk i.toNat) (linesOf d2) = false) : RowOk n wk (.list [.int 3, .str "bo", d2, .str "NoLines"]) :=
  ⟨3, .str "bo", d2, 3, rfl, by decide, by decide, okBo, ok, hl, .inr (.inl ⟨wx3 h h2 h3, rfl⟩)⟩
theorem may_w {ls : List (Int × List Str)} {i : Int} {ws : List Str} {s : Str} (hm : (i, ws) ∈ ls) (hs : s ∈ ws) (hw : hasW (kn i) s = false) : mayB hf kn ls = false := by
  unfold mayB
  split
  · rfl
  · have : (ls.any fun l => !(l.2.filter fun s => !hasW (kn l.1) s).isEmpty) = true := by
      refine List.any_eq_true.mpr ⟨_, hm, ?_⟩
      have : s ∈ ws.filter fun s => !hasW (kn i) s := List.mem_filter.mpr ⟨hs, by rw [hw]; rfl⟩
      cases e : ws.filter fun s => !hasW (kn i) s with
      | nil => rw [e] at this; cases this
      | cons => simp [e]
    rw [this]
    rfl
theorem may_2 {i : Int} {a b : List Str} : mayB (fun i => i) kn [(i, a), (i, b)] = false := by
  unfold mayB
  rw [if_pos]
  simp [nub]
structure WkOk (n : Nat) (wk : Nat → List (Key × V)) : Prop where
  zzz : ∀ i, i < n → hasW (wk i) "zzz" = false
  aaa : hasW (wk 0) "aaa" = false
  yy : hasW (wk 0) "yy" = false
theorem wE : isWords (.tuple []) = true := by decide +kernel
theorem wZ : isWords (.tuple [.str "zzz"]) = true := by decide +kernel
theorem wY : isWords (.tuple [.str "yy"]) = true := by decide +kernel
theorem wWZ : isWords (.tuple [.str "wet", .str "zzz"]) = true := by decide +kernel
theorem wAW : isWords (.tuple [.str "aaa", .str "wet"]) = true := by decide +kernel
theorem ln1 {a : PyData} (h : isLine a = true) : areLines (.tuple [a]) = true := by show (isLine a && true) = true; rw [h]; rfl
theorem ln2 {a b : PyData} (h : isLine a = true) (g : isLine b = true) : areLines (.tuple [a, b]) = true := by show (isLine a && (isLine b && true)) = true; rw [h, g]; rfl
theorem ln3 {a b c : PyData} (h : isLine a = true) (g : isLine b = true) (k : isLine c = true) : areLines (.tuple [a, b, c]) = true := by show (isLine a && (isLine b && (isLine c && true))) = true; rw [h, g, k]; rfl
theorem lx1 {a : PyData} (h : isLine a = false) : areLines (.tuple [a]) = false := by show (isLine a && true) = false; rw [h]; rfl
theorem lx2 {a b : PyData} (g : isLine b = false) : areLines (.tuple [a, b]) = false := by show (isLine a && (isLine b && true)) = false; rw [g]; cases isLine a <;> rfl
theorem ok_bad1 (hb : bad ∈ badWords) : OkD (.tuple [.tuple [.int at_, bad]]) := by
  simp only [badWords, List.mem_cons, List.not_mem_nil, or_false] at hb
  rcases hb with rfl | rfl | rfl | rfl | rfl | rfl | rfl | rfl <;> exact ⟨by kernel_rfl, by kernel_rfl⟩
theorem ok_bad2 {k : Int} (hb : bad ∈ badWords) : OkD (.tuple [.tuple [.int k, .tuple []], .tuple [.int at_, bad]]) := by
  simp only [badWords, List.mem_cons, List.not_mem_nil, or_false] at hb
  rcases hb with rfl | rfl | rfl | rfl | rfl | rfl | rfl | rfl <;> exact ⟨by kernel_rfl, by kernel_rfl⟩
theorem all1 {i : Int} {ws : List Str} (h : i < (n : Int)) : ([(i, ws)] : List (Int × List Str)).all (fun l => decide (l.1 < (n : Int))) = true := by simp [h]
theorem all2 {i k : Int} {ws vs : List Str} (h : i < (n : Int)) (g : k < (n : Int)) : ([(i, ws), (k, vs)] : List (Int × List Str)).all (fun l => decide (l.1 < (n : Int))) = true := by simp [h, g]
theorem doors_ok (hn : n ≤ 1000) (n2 : 2 ≤ n) (ho : odd ∈ odds (n : Int)) (hb : bad ∈ badWords) (a0 : 0 ≤ at_) (a1 : at_ < (n : Int)) (hs : strange ∈ stranges) (W : WkOk n wk) : ∀ d ∈ doors odd bad strange at_ (n : Int), RowOk n wk d := by
  obtain ⟨b1, b2⟩ := bad_is _ hb
  obtain ⟨s1, s2⟩ := strange_is _ hs
  obtain ⟨o1, o2⟩ := odd_is hn _ ho
  have c := card_is a0 a1
  have lE : ∀ {i : Int}, 0 ≤ i → isLine (.tuple [.int i, .tuple []]) = true := fun h => line_is h wE
  have lZ : ∀ {i : Int}, 0 ≤ i → isLine (.tuple [.int i, .tuple [.str "zzz"]]) = true := fun h => line_is h wZ
  have lY : ∀ {i : Int}, 0 ≤ i → isLine (.tuple [.int i, .tuple [.str "yy"]]) = true := fun h => line_is h wY
  have nn : (0 : Int) ≤ n := by omega
  have n1 : (0 : Int) ≤ (n : Int) - 1 := by omega
  have n3 : (n : Int) - 1 < n := by omega
  have n0 : (0 : Int) < n := by omega
  have z_at : hasW (wk at_.toNat) "zzz" = false := W.zzz _ (by omega)
  have z_l : hasW (wk ((n : Int) - 1).toNat) "zzz" = false := W.zzz _ (by omega)
  have z_0 : hasW (wk (0 : Int).toNat) "zzz" = false := W.zzz 0 (by omega)
  have no : isLine (.tuple [.int at_]) = false := rfl
  intro d hd
  simp only [doors, List.mem_append, drs0, drs1, drs2, drs3, drs4, drs5, drs6, drs7, drs8, drs9, drs10, drs11, drs12, drs13, drs14, drs15, List.mem_cons, List.not_mem_nil, or_false, or_assoc] at hd
  rcases hd with rfl | rfl | rfl | rfl | rfl | rfl | rfl | rfl | rfl | rfl | rfl | rfl | rfl | rfl | rfl | rfl | rfl | rfl | rfl | rfl | rfl | rfl | rfl | rfl | rfl | rfl | rfl | rfl | rfl | rfl | rfl | rfl
  · exact ⟨0, bad, .none, 1, rfl, by decide, by decide, b2, okN, b1, rfl⟩
  · exact ⟨1, odd, bad, 0, rfl, by decide, by decide, o2, b2, .inl ⟨o1, rfl⟩⟩
  · exact ⟨1, .int at_, bad, 1, rfl, by decide, by decide, okI, b2, .inr ⟨c, b1, rfl⟩⟩
  · exact ⟨2, odd, .int at_, 0, rfl, by decide, by decide, o2, okI, by rw [o1]; rfl, rfl⟩
  · exact ⟨2, .int at_, odd, 0, rfl, by decide, by decide, okI, o2, by rw [o1, Bool.and_false], rfl⟩
  · refine ⟨3, strange, .none, 2, rfl, by decide, by decide, s2, okN, by decide, .inl ⟨?_, rfl⟩⟩
    unfold writeX
    rw [s1, if_pos rfl]
  · exact ⟨4, strange, .none, 2, rfl, by decide, by decide, s2, okN, s1, rfl⟩
  · exact ⟨5, strange, .none, 2, rfl, by decide, by decide, s2, okN, s1, rfl⟩
  · exact row_n (ok_bad1 hb) (Nat.le_of_ble_eq_true rfl) (lx1 (bad_line b1))
  · exact row_n ⟨by kernel_rfl, by kernel_rfl⟩ (Nat.le_of_ble_eq_true rfl) rfl
  · exact row_c ⟨by kernel_rfl, by kernel_rfl⟩ (Nat.le_of_ble_eq_true rfl) (ln2 (lE a0) (lZ nn)) (by show (decide _ && (decide ((n : Int) < n) && true)) = false; simp)
  · exact row_m ⟨by kernel_rfl, by kernel_rfl⟩ (Nat.le_of_ble_eq_true rfl) (ln2 (lE a0) (lE a0)) (all2 a1 a1) may_2
  · exact row_m ⟨by kernel_rfl, by kernel_rfl⟩ (Nat.le_of_ble_eq_true rfl) (ln1 (lZ a0)) (all1 a1) (may_w (.head _) (.head _) z_at)
  · exact row_n ⟨by kernel_rfl, by kernel_rfl⟩ (Nat.le_of_ble_eq_true rfl) (lx1 no)
  · exact row_n ⟨by kernel_rfl, by kernel_rfl⟩ (Nat.le_of_ble_eq_true rfl) rfl
  · exact row_m ⟨by kernel_rfl, by kernel_rfl⟩ (Nat.le_of_ble_eq_true rfl) (ln2 (lE (Int.le_refl 0)) (lZ n1)) (all2 n0 n3) (may_w (.tail _ (.head _)) (.head _) z_l)
  · exact row_m ⟨by kernel_rfl, by kernel_rfl⟩ (Nat.le_of_ble_eq_true rfl) (ln2 (lZ (Int.le_refl 0)) (lE n1)) (all2 n0 n3) (may_w (.head _) (.head _) z_0)
  · exact row_m ⟨by kernel_rfl, by kernel_rfl⟩ (Nat.le_of_ble_eq_true rfl) (ln1 (line_is (Int.le_refl 0) wWZ)) (all1 n0) (may_w (.head _) (.tail _ (.head _)) z_0)
  · exact row_m ⟨by kernel_rfl, by kernel_rfl⟩ (Nat.le_of_ble_eq_true rfl) (ln1 (line_is (Int.le_refl 0) wAW)) (all1 n0) (may_w (.head _) (.head _) W.aaa)
  · exact row_m ⟨by kernel_rfl, by kernel_rfl⟩ (Nat.le_of_ble_eq_true rfl) (ln1 (lY (Int.le_refl 0))) (all1 n0) (may_w (.head _) (.head _) W.yy)
  · exact row_m ⟨by kernel_rfl, by kernel_rfl⟩ (Nat.le_of_ble_eq_true rfl) (ln2 (lY (Int.le_refl 0)) (lY n1)) (all2 n0 n3) (may_w (.head _) (.head _) W.yy)
  · exact row_n ⟨by kernel_rfl, by kernel_rfl⟩ (Nat.le_of_ble_eq_true rfl) (lx2 no)
  · exact row_c ⟨by kernel_rfl, by kernel_rfl⟩ (Nat.le_of_ble_eq_true rfl) (ln2 (lZ a0) (lE nn)) (by show (decide _ && (decide ((n : Int) < n) && true)) = false; simp)
  · exact row_n (ok_bad2 hb) (Nat.le_of_ble_eq_true rfl) (lx2 (bad_line b1))
  · exact row_c ⟨by kernel_rfl, by kernel_rfl⟩ (Nat.le_of_ble_eq_true rfl) (ln3 (lE a0) (lE a0) (lE nn)) (by show (decide _ && (decide _ && (decide ((n : Int) < n) && true))) = false; simp)
  · exact row_c ⟨by kernel_rfl, by kernel_rfl⟩ (Nat.le_of_ble_eq_true rfl) (ln2 (lE nn) (lE a0)) (by show (decide ((n : Int) < n) && _) = false; simp)
  · exact row_n ⟨by kernel_rfl, by kernel_rfl⟩ (Nat.le_of_ble_eq_true rfl) (lx2 no)
  · exact row_n (ok_bad2 hb) (Nat.le_of_ble_eq_true rfl) (lx2 (bad_line b1))
  · exact row_n okN (by decide) rfl
  · exact row_n ⟨by kernel_rfl, by kernel_rfl⟩ (Nat.le_of_ble_eq_true rfl) rfl
  · exact row_n ⟨by kernel_rfl, by kernel_rfl⟩ (Nat.le_of_ble_eq_true rfl) rfl
end
end Sg
end
section
set_option maxRecDepth 100000
set_option maxHeartbeats 4000000
/-! The law: what is new, what is let, and words for tests. -/
namespace Sg
open PySem PySem.Spec PyProof.Rows L2 Evl
theorem pg_lstK {X : Cx} {K : PySem.W.Frag} {es : List Expr} {k : Nat} {t : TGs} {n : Nat} {pos : Pos} (hc : X.calm = true) (h : PGs X es t) (hK : X.K = K := by rfl) (hn : (assignEach es X.env).length = n := by rfl)
    (hst : (assignEach es X.env).findIdx? (·.1) = none := by rfl) : PG X (.Tuple es k pos) (gLst K n t) := by subst hK; exact pg_lst hc h hn hst
theorem Pg.less {p : Addr} {D H D2 H2 B : Hp} (g : Pg p D H D2 H2) (e : Ex B H) (bp : B p = none) : Pg p B H B H2 := ⟨g.up, Ex.refl B, g.own e bp, fun _ h _ => h, g.nn⟩
theorem iff_ {a b : Prop} (h : b) : (if false = true then a else b) := by
  rw [if_neg (by simp)]
  exact h
/-- x != y, where they are the same -/
theorem ne_k {K : PySem.W.Frag} {σ : L2.St} {H1 B : Hp} {x : V} {d : PyData} {tb : TE} {Qb : Bool → Hp → Prop} (e : Ex B H1) (hx : Da K B x d) (hb : EU K tb σ B d) (sd : SeqAt.shaped d = true) (k : ∀ N H2, Gr B H1 N H2 → Qb false H2) :
    tb σ H1 fun y H2 => rNeD K x y H2 fun v H3 => ∃ c, v = .bl c ∧ Qb c H3 := hb B (Ex.refl B) H1 e _ fun y N H2 g hy => by
  refine ⟨d, d, ((hx.ex g.bas).ex g.sub).dp, (hy.ex g.sub).dp, sd, sd, _, rfl, ?_⟩
  have lay : d.canLay0 = true := by
    have h := sd
    unfold SeqAt.shaped at h
    exact ((Bool.and_eq_true _ _).mp h).1
  rw [PySem.SeqAt.eqv_refl d lay]
  exact k N H2 g
/-! ### some words -/
def subsI : Nat → List (List Str)
  | 0 => [[]]
  | 1 => [[], ["big"]]
  | 2 => [[], ["big"], ["new"], ["big", "new"]]
  | _ => [[], ["big"], ["new"], ["big", "new"], ["red"], ["big", "red"], ["new", "red"], ["big", "new", "red"]]
def three : List Str := ["big", "new", "red"]
theorem subs_step : ∀ {i : Nat} {ws : List Str} {x : Str}, i < 3 → ws ∈ subsI i → three[i]? = some x → ws ∈ subsI (i + 1) ∧ ws ++ [x] ∈ subsI (i + 1) := by
  intro i ws x hi hw hx
  have h : ∀ i < 3, ∀ ws ∈ subsI i, ∀ x ∈ (three[i]?).toList, ws ∈ subsI (i + 1) ∧ ws ++ [x] ∈ subsI (i + 1) := by decide +kernel
  exact h i hi ws hw x (by rw [hx]; exact .head _)
def Good (kv : List (Key × V)) : Prop := TextKeys kv ∧ (keysW kv).length < 64 ∧ kv.length ≤ 1000 ∧ hasW kv "zzz" = false ∧ hasW kv "aaa" = false ∧ hasW kv "yy" = false ∧ hasW kv "wet" = true ∧ ((keysW kv).all fun s => PyData.canLay0 (.str s)) = true
theorem subs_ok : ∀ ws ∈ subsI 3, isWords (wordsD ws) = true ∧ OkD (wordsD ws) ∧ ws.length ≤ 3 ∧ (putsW ws).length ≤ 3 ∧ Good (putW (putsW ws) ["wet"]) := by
  have h1 : ∀ ws ∈ subsI 3, isWords (wordsD ws) = true ∧ fitD (wordsD ws) = true ∧ SeqAt.shaped (wordsD ws) = true ∧ ws.length ≤ 3 ∧ (putsW ws).length ≤ 3 := by decide +kernel
  have h2 : ∀ ws ∈ subsI 3, (putW (putsW ws) ["wet"]).map (·.1) = (keysW (putW (putsW ws) ["wet"])).map (fun s => (Sum.inr s : Key)) ∧ (keysW (putW (putsW ws) ["wet"])).length < 64 ∧ (putW (putsW ws) ["wet"]).length ≤ 1000 ∧ hasW (putW (putsW ws) ["wet"]) "zzz" = false ∧ hasW (putW (putsW ws) ["wet"]) "aaa" = false ∧ hasW (putW (putsW ws) ["wet"]) "yy" = false ∧ hasW (putW (putsW ws) ["wet"]) "wet" = true ∧ ((keysW (putW (putsW ws) ["wet"])).all fun s => PyData.canLay0 (.str s)) = true := by decide +kernel
  intro ws hw
  obtain ⟨a, b, c, d, e⟩ := h1 ws hw
  exact ⟨a, ⟨b, c⟩, d, e, h2 ws hw⟩
theorem SB.put {S : Fx} {D H L Lb Lc : Hp} {N wc : Int} {nc : Nat} {q : Addr} {o : HO} (s : SB S D H L Lb Lc N wc nc) (h : D q = none) (h1 : L q = none) (h2 : Lb q = none) (h3 : Lc q = none) (h4 : q ≠ S.p) : SB S D (upd H q o) L Lb Lc N wc nc := by
  have keep : ∀ {X : Hp}, Ex X H → X q = none → Ex X (upd H q o) := fun {X} e x b u hb => by
    have n : b ≠ q := fun z => by rw [z, x] at hb; cases hb
    rw [upd_ne n]
    exact e _ _ hb
  refine ⟨keep s.eD h, s.dp, ?_, s.hk, keep s.eL h1, s.lp, s.dl, keep s.eb h2, s.bp, s.db, s.lb, s.kb, keep s.ec h3, s.cp, s.dc, s.lc, s.bc, s.kc⟩
  obtain ⟨x, y, z, hp, r⟩ := s.pu
  exact ⟨x, y, z, by rw [upd_ne h4.symm]; exact hp, r⟩
theorem e_some {S : Fx} {D H L Lb Lc : Hp} {N wc : Int} {nc : Nat} {x0 x1 x3 x4 x5 x6 x7 x8 x9 x10 x11 x12 x13 x14 x15 : Option V} {Q : VK} (s : SB S D H L Lb Lc N wc nc) (hN : N + 3 < 999999999999)
    (k : ∀ ws v D2 H2 N2, ws ∈ subsI 3 → SB S D2 H2 L Lb Lc N2 wc nc → Ex D D2 → N2 ≤ N + 3 → Da S.K D2 v (wordsD ws) → Q v H2) :
    tCB (rTupOf S.K) (tCons (tLc (iList S.K (tLst (tCons (tC (V.str "big")) (tCons (tC (V.str "new")) (tCons (tC (V.str "red")) tNil))))) (gName 14) (tTest (tOp (rEqD S.K) (tCall spDraw [] E0 (tCons (tVar 2) (tCons (tC (V.int 2)) tNil))) (tC (V.int 0)))) (tVar 14) (List.map (fun x => x.snd) [(Str.ofString "word", 14)])) tNil)
      [x0, x1, some (.ref S.p), x3, x4, x5, x6, x7, x8, x9, x10, x11, x12, x13, x14, x15] H Q := by
  show tLc _ _ _ _ _ _ _ (fun x H1 => rTupOf S.K [x] H1 Q)
  refine (wd_lst (ed_lst (ds := three.map .str) (eds_cons ed_str fun _ _ => eds_cons ed_str fun _ _ => eds_cons ed_str fun _ _ => eds_nil) (by decide))) H s.eD _ fun J D1 H1 g F q hq => ?_
  have s1 := s.gr g
  refine ⟨fun i m H' => m = 3 - i ∧ i ≤ 3 ∧ ∃ ws N', ws ∈ subsI i ∧ N' ≤ N + (i : Int) ∧ SB S D1 H' L Lb Lc N' wc nc ∧ H' q = some (.lst (ws.map V.str)), ⟨3, rfl, by decide, [], N, .head _, by omega, s1.up (Ex.new hq), upd_same⟩, ?_⟩
  rintro i m H' ⟨rfl, hi, ws, N', hw, hN', s', hq'⟩
  have d1q : D1 q = none := fresh_back s1.eD hq
  have lq : L q = none := fresh_back s1.eL hq
  have bq : Lb q = none := fresh_back s1.eb hq
  have cq : Lc q = none := fresh_back s1.ec hq
  have qp : q ≠ S.p := fun z => by rw [z] at hq; exact s1.pu.nn hq
  by_cases lt : i < 3
  · refine .inr ⟨F.go H' s'.eD i lt, fun H3 => ∃ ws N', ws ∈ subsI (i + 1) ∧ N' ≤ N + ((i + 1 : Nat) : Int) ∧ SB S D1 H3 L Lb Lc N' wc nc ∧ H3 q = some (.lst (ws.map V.str)), fun H3 z => ⟨3 - (i + 1), by omega, rfl, lt, z⟩, fun x H3 y => ?_⟩
    obtain ⟨B2, g2, d, hd, hx⟩ := F.yld D1 H' i x H3 (Ex.refl _) s'.eD lt y
    obtain ⟨w, ew⟩ : ∃ w, three[i]? = some w := ⟨three[i], List.getElem?_eq_getElem lt⟩
    have e3 : d = .str w := by
      rw [List.getElem?_map, ew] at hd
      exact (Option.some.inj hd).symm
    subst e3
    cases hx
    have s3 := s'.up g2.act
    have hq3 : H3 q = some (.lst (ws.map V.str)) := g2.act _ _ hq'
    obtain ⟨st1, st2⟩ := subs_step lt hw ew
    show [x0, x1, some (V.ref S.p), x3, x4, x5, x6, x7, x8, x9, x10, x11, x12, x13, none, x15] = _ ∧ _
    refine ⟨rfl, ⟨_, rfl, S.p, 2, N', rfl, by decide, s3.pu, by omega, fun r H4 r0 r1 pu4 bt nn => ?_⟩⟩
    have s4 := s3.pg (.draw s3.eD s3.dp bt pu4) pu4
    have hq4 : H4 q = some (.lst (ws.map V.str)) := bt _ _ qp hq3
    refine ⟨.int r, .int 0, .int _, .int _, rfl, rfl, _, rfl, ?_⟩
    cases PyData.eqv (.int r) (.int 0) with
    | true =>
      rw [if_pos rfl]
      have wl : ws.length ≤ 3 := by
        have h : ∀ i < 3, ∀ ws ∈ subsI i, ws.length ≤ 3 := by decide +kernel
        exact h i lt ws hw
      refine ⟨_, rfl, ws.map V.str, hq4, (by rw [List.length_map]; exact Nat.lt_of_le_of_lt wl (by decide)), ws ++ [w], N' + 1, st2, by omega, s4.put d1q lq bq cq qp, ?_⟩
      rw [upd_same, List.map_append]
      rfl
    | false =>
      refine iff_ ⟨ws, N' + 1, st1, by omega, s4, hq4⟩
  · have ei : i = 3 := by omega
    subst ei
    refine .inl ⟨F.stop H' s'.eD, q, ws.map V.str, rfl, .inl ⟨SqL.of hq', fun l hl => ?_⟩⟩
    refine k ws (.ref l) (upd D1 l (.tup (ws.map V.str))) _ N' hw (s'.gr (.alloc s'.eD hl)) (g.bas.trans (Ex.new (fresh_back s'.eD hl))) hN' (.tup (st_of upd_same) ?_)
    exact da_strs _ _
/-- a new hand of three -/
theorem okA : OkD (.str "ana") := ⟨by decide +kernel, by decide +kernel⟩
theorem ok3 : OkD (.tuple (hs3.map .str)) := ⟨by decide +kernel, by decide +kernel⟩
theorem ok2 : OkD (.tuple ((["ana", "bo"] : List Str).map .str)) := ⟨by decide +kernel, by decide +kernel⟩
theorem hand3 : areHands (.tuple (hs3.map .str)) = true ∧ inD (.str "ana") (hs3.map .str) = true ∧ hs3.Nodup ∧ hs3.length ≤ 5 ∧ ∀ o ∈ hs3, SeqAt.shaped (.str o) = true := by decide +kernel
theorem hand2 : areHands (.tuple ((["ana", "bo"] : List Str).map .str)) = true ∧ inD (.str "ana") ((["ana", "bo"] : List Str).map .str) = true ∧ (["ana", "bo"] : List Str).Nodup ∧ (["ana", "bo"] : List Str).length ≤ 5 ∧ ∀ o ∈ (["ana", "bo"] : List Str), SeqAt.shaped (.str o) = true := by decide +kernel
theorem sb_new {K : PySem.W.Frag} {C CL CK p a l kd : Addr} {H3 H' N Ll : Hp} {hv : V} {kps : List KP} {n : Int} (hn : HandNew C CL CK H3 H' a l kd "ana" hv hs3 Ll kps) (e : Ex N H3) (hh : Da K N hv (.tuple (hs3.map .str))) (np : N p = none) (pu : PurseAt p n H3) (ha : H3 a = none) :
    ∃ (pb pc : Addr) (D Lb Lc : Hp), SB ⟨K, C, CL, CK, p, a, l, kd, pb, pc, hv⟩ D H' Ll Lb Lc n 0 0 ∧ Ex N D ∧ LotsAt CL Ll l 0 (fun _ => []) := by
  have ns : kps.map (·.1) = (["bo", "cy"] : List Str) := hn.ns.trans (by decide +kernel)
  match kps, ns with
  | [(o1, p1, L1), (o2, p2, L2)], ns =>
  obtain ⟨rfl, rfl⟩ : o1 = "bo" ∧ o2 = "cy" := by
    have h1 : [o1, o2] = (["bo", "cy"] : List Str) := ns
    injection h1 with h1 h2
    injection h2 with h2 h3
    exact ⟨h1, h2⟩
  obtain ⟨dx, ob⟩ := hn.ob
  have a0 : N a = none ∧ H3 a = none := ⟨fresh_back e ha, ha⟩
  have k0 : N kd = none := fresh_back e hn.k0
  have m1 : (("bo", p1, L1) : KP) ∈ [(("bo", p1, L1) : KP), ("cy", p2, L2)] := .head _
  have m2 : (("cy", p2, L2) : KP) ∈ [(("bo", p1, L1) : KP), ("cy", p2, L2)] := .tail _ (.head _)
  have pn := pu.nn
  have known : ∀ {X : Hp}, (∀ y, H3 y ≠ none → X y = none) → X a = none → X kd = none → Dj (upd (upd N kd (.dK (kpsD [("bo", p1, L1), ("cy", p2, L2)]))) a (.ins C dx (handF "ana" hv l kd))) X := fun {X} h xa xk b => by
    by_cases za : b = a
    · exact .inr (za ▸ xa)
    · by_cases zk : b = kd
      · exact .inr (zk ▸ xk)
      · rw [upd_ne za, upd_ne zk]
        cases y : N b with
        | none => exact .inl rfl
        | some u => exact .inr (h b (by rw [e _ _ y]; simp))
  refine ⟨p1, p2, upd (upd N kd (.dK (kpsD [("bo", p1, L1), ("cy", p2, L2)]))) a (.ins C dx (handF "ana" hv l kd)), L1, L2, ⟨fun b u hb => ?_, ?_, pu.ex hn.keep, ⟨⟨dx, upd_same⟩, hh.ex ?_, ?_, ok3, by decide +kernel⟩, hn.le, hn.ln _ pn, known hn.ln hn.la hn.lk, hn.kp.ex _ m1, hn.kp.new _ m1 _ pn, known (hn.kp.new _ m1) (hn.pa _ m1) (hn.kp.nkd _ m1), hn.dl _ m1, hn.kp.at_ _ m1, hn.kp.ex _ m2, hn.kp.new _ m2 _ pn, known (hn.kp.new _ m2) (hn.pa _ m2) (hn.kp.nkd _ m2), hn.dl _ m2, ?_, hn.kp.at_ _ m2⟩, ?_, hn.lo⟩
  · by_cases za : b = a
    · subst za
      rw [upd_same] at hb
      cases hb
      exact ob
    · rw [upd_ne za] at hb
      by_cases zk : b = kd
      · subst zk
        rw [upd_same] at hb
        cases hb
        exact hn.ko
      · rw [upd_ne zk] at hb
        exact hn.keep _ _ (e _ _ hb)
  · have n1 : p ≠ a := fun z => pn (by rw [z]; exact ha)
    have n2 : p ≠ kd := fun z => pn (by rw [z]; exact hn.k0)
    show upd _ a _ p = none
    rw [upd_ne n1, upd_ne n2]
    exact np
  · exact (Ex.new k0).trans (Ex.new (by rw [upd_ne hn.ka.symm]; exact a0.1))
  · rw [upd_ne hn.ka]
    exact upd_same
  · exact (List.pairwise_cons.mp hn.kp.dj).1 _ (.head _)
  · exact (Ex.new k0).trans (Ex.new (by rw [upd_ne hn.ka.symm]; exact a0.1))
end Sg
end
section
set_option maxRecDepth 100000
set_option maxHeartbeats 4000000
/-! The law: a letter let, a file told. -/
namespace Sg
open PySem PySem.Spec PyProof.Rows L2 Evl
theorem Dj.joinL {A B X : Hp} (a : Dj A X) (b : Dj B X) : Dj (join A B) X := fun x => by
  rcases a x with h | h
  · rcases b x with g | g
    · exact .inl (by rw [join_r h]; exact g)
    · exact .inr g
  · exact .inr h
theorem Dj.sub {A B X : Hp} (a : Dj B X) (e : Ex A B) : Dj A X := fun x => by
  rcases a x with h | h
  · exact .inl (fresh_back e h)
  · exact .inr h
theorem twoB : TwoH "ana" "bo" := ⟨by decide +kernel, by decide +kernel, by decide +kernel⟩
theorem twoC : TwoH "ana" "cy" := ⟨by decide +kernel, by decide +kernel, by decide +kernel⟩
theorem cy_is : isOther "ana" (hs3.map .str) (.str "cy") = true := by decide +kernel
theorem okCy : OkD (.str "cy") := ⟨by decide +kernel, by decide +kernel⟩
section
variable {S : Fx} {D H L Lb Lc : Hp} {N wc : Int} {nc n : Nat} {wk : Nat → List (Key × V)} {hf : Int → Int} {cC cW cH cN : Addr} {E : XK} {Q : VK}
/-- the letter as it's told -/
def letD (o : Str) (wr : Int) (ls : List (Int × List Str)) : PyData := .tuple [.str "ana", .str o, .int (wr + 1), .tuple [], .tuple (ls.map fun l => .tuple [.none, wordsD l.2])]
theorem told_w {Lk L2 : Hp} {o o2 : Str} {pk p2 : Addr} {wr wr2 : Int} {b b2 : Nat} {v : V} {ls : List (Int × List Str)} (hk : HandK S.K S.C D S.a S.l "ana" S.hv S.kd (kv3 S) (hs3.map .str)) (eD : Ex D H) (eL : Ex L H) (e2 : Ex L2 H) (ek : Ex Lk H)
    (dk : Dj D Lk) (lk : Dj L Lk) (k2 : Dj L2 Lk) (dl : Dj D L) (d2 : Dj D L2) (l2 : Dj L L2) (lo : LotsR S L n hf wk) (hn : n ≤ 1000) (oo : OkD (.str o)) (io : isOther "ana" (hs3.map .str) (.str o) = true) (vo : valV (kv3 S) (.inr o) = some (.ref pk)) (ko : KeepAt S.CK Lk pk "ana" o wr b) (to : TwoH "ana" o)
    (ot : ∀ o' ∈ hs3, PyData.eqv (.str o') (.str "ana") = false → o' = o ∨ o' = o2) (v2 : valV (kv3 S) (.inr o2) = some (.ref p2)) (kk2 : KeepAt S.CK L2 p2 "ana" o2 wr2 b2) (t2 : TwoH "ana" o2) (hb : b ≤ 1000)
    (hd : Da S.K D v (linesD ls)) (okl : OkD (linesD ls)) (al : areLines (linesD ls) = true) (rng : ∀ l ∈ ls, 0 ≤ l.1 ∧ l.1 < (n : Int)) (ll : ls.length ≤ 1000) (mb : mayB hf (fun i => wk (hf i).toNat) ls = true)
    (k : ∀ q v L' N' H', Mv Lk H L' H' → KeepAt S.CK L' pk "ana" o (wr + 1) (b + 2 * ls.length + 1) → Ex (join (join D L) L2) N' → Ex N' H' → Dj N' L' → (∀ x, join (join D L) L2 x = none → Lk x = none → H x ≠ none → N' x = none) → Da S.K N' v (letD o wr ls) → H' q = none → Q (.ref q) (upd H' q (.lst [.str "ok", v]))) :
    spTold S.K S.C S.CL S.CK cC cW cH cN [.ref S.a, .int ((3 : Nat) : Int), .str o, v] H Q E := by
  obtain ⟨dx, ob⟩ := id hk.ob
  obtain ⟨h, m, w, xs, oL, hl, pl⟩ := lo
  have dj3 : Dj (join (join D L) L2) Lk := (dk.joinL lk).joinL k2
  have dj2 : Dj (join D L) L2 := d2.joinL l2
  have eJ : Ex (join (join D L) L2) H := join_ex (join_ex eD eL) e2
  have uD : Ex D (join (join D L) L2) := (ex_l (A := D) (B := L)).trans ex_l
  have uL : Ex L (join (join D L) L2) := (ex_r dl).trans ex_l
  have u2 : Ex L2 (join (join D L) L2) := ex_r dj2
  refine ⟨S.a, 3, .str o, v, dx, "ana", S.hv, S.l, S.kd, rfl, by decide, eD _ _ ob, fun Q' E' q _ => .inr ?_⟩
  refine ⟨join (join D L) L2, Lk, S.a, S.l, "ana", S.hv, S.kd, kv3 S, hs3, h, m, w, xs, hf, _, o, pk, wr, b, .str o, v, ls, rfl, eJ, ek, dj3, hk.ex uD, by decide, oL.ex uL, by omega, fun i i0 i1 => ⟨(pl i i0 i1).1, (pl i i0 i1).2.ex uL⟩, rfl, oo, io, vo, ko, to, hb, fun o' ho' => ⟨?_, fun he => ?_⟩, hd.ex uD, okl, al, ?_, ll, mb, fun v9 L' N' H' mv k9 c1 c2 c3 c4 c5 => q _ _ fun p hp => k p v9 L' N' H' mv k9 c1 c2 c3 c4 c5 hp⟩
  · exact hand3.2.2.2.2 o' ho'
  · rcases ot o' ho' he with z | z
    · exact .inl z
    · subst z
      exact .inr ⟨p2, wr2, b2, v2, kk2.ex u2, t2⟩
  · intro l hl'
    rw [hl]
    exact rng l hl'
theorem ot_c : ∀ o' ∈ hs3, PyData.eqv (.str o') (.str "ana") = false → o' = "cy" ∨ o' = "bo" := by decide +kernel
theorem ot_b : ∀ o' ∈ hs3, PyData.eqv (.str o') (.str "ana") = false → o' = "bo" ∨ o' = "cy" := by decide +kernel
/-- to cy -/
theorem told_wc {v : V} {ls : List (Int × List Str)} (s : SB S D H L Lb Lc N wc nc) (lo : LotsR S L n hf wk) (hn : n ≤ 1000) (hnc : nc ≤ 1000) (hd : Da S.K D v (linesD ls)) (okl : OkD (linesD ls)) (al : areLines (linesD ls) = true) (rng : ∀ l ∈ ls, 0 ≤ l.1 ∧ l.1 < (n : Int)) (ll : ls.length ≤ 1000) (mb : mayB hf (fun i => wk (hf i).toNat) ls = true)
    (k : ∀ q v H2 Lc' nc', SB S (upd D q (.lst [.str "ok", v])) H2 L Lb Lc' N (wc + 1) nc' → Ex D (upd D q (.lst [.str "ok", v])) → Q (.ref q) H2) :
    spTold S.K S.C S.CL S.CK cC cW cH cN [.ref S.a, .int ((3 : Nat) : Int), .str "cy", v] H Q E := by
  refine told_w (L := L) (L2 := Lb) (Lk := Lc) (o2 := "bo") (p2 := S.pb) s.hk s.eD s.eL s.eb s.ec s.dc s.lc s.bc s.dl s.db s.lb lo hn okCy cy_is rfl s.kc twoC ot_c rfl s.kb twoB hnc hd okl al rng ll mb fun q v9 L' N' H' mv k9 c1 c2 c3 c4 c5 hq => ?_
  have uD : Ex D N' := ((ex_l (A := D) (B := L)).trans ex_l).trans c1
  have uL : Ex L N' := ((ex_r s.dl).trans ex_l).trans c1
  have uB : Ex Lb N' := (ex_r (s.db.joinL s.lb)).trans c1
  obtain ⟨p1, p2⟩ := mv.rest S.p s.cp s.pu.nn
  have s2 : SB S D H' L Lb L' N (wc + 1) (nc + 2 * ls.length + 1) := by
    refine ⟨uD.trans c2, s.dp, ?_, s.hk, uL.trans c2, s.lp, s.dl, uB.trans c2, s.bp, s.db, s.lb, s.kb, mv.sub, p2, c3.sub uD, c3.sub uL, c3.sub uB, k9⟩
    obtain ⟨x, y, z, h, r⟩ := s.pu
    exact ⟨x, y, z, by rw [p1]; exact h, r⟩
  exact k q v9 _ L' _ (s2.lst (Ex.new hq) hq upd_same) (Ex.new (fresh_back s2.eD hq))
/-- to bo, and nothing behind it -/
theorem told_wb {v : V} {ls : List (Int × List Str)} (s : SB S D H L Lb Lc N wc nc) (lo : LotsR S L n hf wk) (hn : n ≤ 1000) (hd : Da S.K D v (linesD ls)) (okl : OkD (linesD ls)) (al : areLines (linesD ls) = true) (rng : ∀ l ∈ ls, 0 ≤ l.1 ∧ l.1 < (n : Int)) (ll : ls.length ≤ 1000) (mb : mayB hf (fun i => wk (hf i).toNat) ls = true)
    (k : ∀ q D2 H2, Ex D D2 → Ex D2 H2 → D2 S.p = none → PurseAt S.p N H2 → Da S.K D2 (.ref q) (.list [.str "ok", letD "bo" 0 ls]) → Q (.ref q) H2) :
    spTold S.K S.C S.CL S.CK cC cW cH cN [.ref S.a, .int ((3 : Nat) : Int), .str "bo", v] H Q E := by
  refine told_w (L := L) (L2 := Lc) (Lk := Lb) (o2 := "cy") (p2 := S.pc) s.hk s.eD s.eL s.ec s.eb s.db s.lb s.bc.symm s.dl s.dc s.lc lo hn okBo bo_is rfl s.kb twoB ot_b rfl s.kc twoC (by decide) hd okl al rng ll mb fun q v9 L' N' H' mv k9 c1 c2 c3 c4 c5 hq => ?_
  have uD : Ex D N' := ((ex_l (A := D) (B := L)).trans ex_l).trans c1
  obtain ⟨p1, p2⟩ := mv.rest S.p s.bp s.pu.nn
  have j0 : join (join D L) Lc S.p = none := by rw [join_r (by rw [join_r s.dp]; exact s.lp)]; exact s.cp
  have np : N' S.p = none := c4 _ j0 s.bp s.pu.nn
  have pu : PurseAt S.p N H' := by
    obtain ⟨x, y, z, h, r⟩ := s.pu
    exact ⟨x, y, z, by rw [p1]; exact h, r⟩
  have qp : q ≠ S.p := fun z => pu.nn (z ▸ hq)
  have nq : N' q = none := fresh_back c2 hq
  refine k q (upd N' q (.lst [.str "ok", v9])) _ (uD.trans (Ex.new nq)) (fun b u hb => ?_) (by rw [upd_ne qp.symm]; exact np) (pu.ex (Ex.new hq)) (.lst upd_same (.cons (.str _) (.cons (c5.ex (Ex.new nq)) .nil)))
  by_cases z : b = q
  · subst z
    rw [upd_same] at hb ⊢
    exact hb
  · rw [upd_ne z] at hb ⊢
    exact c2 _ _ hb
end
theorem e_hand {K : PySem.W.Frag} {C CL CK CH CN : Addr} {σ : L2.St} {B H : Hp} {th : TE} {hs : List Str} {E : XK} {Q : VK} (eB : Ex B H) (hb : EU K th σ B (.tuple (hs.map .str))) (f : areHands (.tuple (hs.map .str)) = true ∧ inD (.str "ana") (hs.map .str) = true ∧ hs.Nodup ∧ hs.length ≤ 5 ∧ ∀ o ∈ hs, SeqAt.shaped (.str o) = true) (ok : OkD (.tuple (hs.map .str)))
    (k : ∀ hv N H3 x H4 l kd Ll kps, Gr B H N H3 → Da K N hv (.tuple (hs.map .str)) → H3 x = none → HandNew C CL CK H3 H4 x l kd "ana" hv hs Ll kps → Q (.ref x) H4) : tMake C (spHandI K C CL CK CH CN) [] E (tCons (tC (.str "ana")) (tCons th tNil)) σ H Q :=
  hb B (Ex.refl B) H eB _ fun hv N H3 g hhv x dx hx hdx nex => ⟨H3, N, x, dx, _, hv, rfl, hx, hdx, nex, rfl, g.sub, .inr ⟨"ana", hs, rfl, hhv, okA, ok, f.1, f.2.1, f.2.2.1, f.2.2.2.1, f.2.2.2.2, fun H4 l kd Ll kps hn => ⟨rfl, k hv N H3 x H4 l kd Ll kps g hhv hx hn⟩⟩⟩
theorem d_hand {K : PySem.W.Frag} {C CL CK CH CN : Addr} {σ : L2.St} {B H : Hp} {th : TE} {hs : List Str} {E : XK} {i : Nat} {tz : TS} {D : Ends} (eB : Ex B H) (hb : EU K th σ B (.tuple (hs.map .str))) (f : areHands (.tuple (hs.map .str)) = true ∧ inD (.str "ana") (hs.map .str) = true ∧ hs.Nodup ∧ hs.length ≤ 5 ∧ ∀ o ∈ hs, SeqAt.shaped (.str o) = true) (ok : OkD (.tuple (hs.map .str)))
    (k : ∀ hv N H3 x H4 l kd Ll kps, Gr B H N H3 → Da K N hv (.tuple (hs.map .str)) → H3 x = none → HandNew C CL CK H3 H4 x l kd "ana" hv hs Ll kps → tz D (σ.set i (some (.ref x))) H4) : tSeq (tAsg (tMake C (spHandI K C CL CK CH CN) [] E (tCons (tC (.str "ana")) (tCons th tNil))) (gName i)) tz D σ H :=
  e_hand (Q := fun v H1 => gName i v σ H1 fun σ2 H2 => tz D σ2 H2) eB hb f ok k
theorem d_some {S : Fx} {D H L Lb Lc : Hp} {N wc : Int} {nc : Nat} {x0 x1 x3 x4 x5 x6 x7 x8 x9 x10 x11 x12 x13 x14 x15 : Option V} {tz : TS} {Dd : Ends} (s : SB S D H L Lb Lc N wc nc) (hN : N + 3 < 999999999999)
    (k : ∀ ws v D2 H2 N2, ws ∈ subsI 3 → SB S D2 H2 L Lb Lc N2 wc nc → Ex D D2 → N2 ≤ N + 3 → Da S.K D2 v (wordsD ws) → tz Dd [x0, x1, some (.ref S.p), x3, x4, x5, x6, some v, x8, x9, x10, x11, x12, x13, x14, x15] H2) :
    tSeq (tAsg (tCB (rTupOf S.K) (tCons (tLc (iList S.K (tLst (tCons (tC (V.str "big")) (tCons (tC (V.str "new")) (tCons (tC (V.str "red")) tNil))))) (gName 14) (tTest (tOp (rEqD S.K) (tCall spDraw [] E0 (tCons (tVar 2) (tCons (tC (V.int 2)) tNil))) (tC (V.int 0)))) (tVar 14) (List.map (fun x => x.snd) [(Str.ofString "word", 14)])) tNil)) (gName 7)) tz Dd
      [x0, x1, some (.ref S.p), x3, x4, x5, x6, x7, x8, x9, x10, x11, x12, x13, x14, x15] H :=
  e_some (Q := fun v H1 => gName 7 v [x0, x1, some (.ref S.p), x3, x4, x5, x6, x7, x8, x9, x10, x11, x12, x13, x14, x15] H1 fun σ2 H2 => tz Dd σ2 H2) s hN k
/-- what gives a value and makes nothing -/
def Pu (te : TE) (σ : L2.St) (v : V) : Prop := ∀ (H : Hp) (R : VK), R v H → te σ H R
section
variable {K : PySem.W.Frag} {C CL CK cC cW cH cN : Addr} {σ : L2.St} {H B : Hp} {v v1 v2 v3 : V} {ta t1 t2 t3 tb : TE} {d : PyData} {Qb : Bool → Hp → Prop} {E : XK} {tr : TS} {Dd : Ends} {c1 c2 : TT}
theorem pu_c : Pu (tC v) σ v := fun _ _ r => r
theorem pu_v {i : Nat} (h : σ[i]? = some (some v)) : Pu (tVar i) σ v := fun _ _ r => ⟨v, h, r⟩
theorem pu_sub {i : Nat} {n m : Int} (h : σ[i]? = some (some (.int n))) : Pu (tOp (rI0 fun i j => .int (i - j)) (tVar i) (tC (.int m))) σ (.int (n - m)) := fun _ _ r => ⟨_, h, n, m, rfl, rfl, r⟩
def NeK (K : PySem.W.Frag) (tb : TE) (σ : L2.St) (Qb : Bool → Hp → Prop) : VK := fun x H1 => tb σ H1 fun y H2 => rNeD K x y H2 fun v H3 => ∃ c, v = .bl c ∧ Qb c H3
theorem s_if1 (h : c1 σ H fun b H1 => if b = true then tr Dd σ H1 else tNext Dd σ H1) : tIfS c1 tr tNext Dd σ H := h
theorem s_if2 (h : c1 σ H fun c H1 => if c = true then (if true = true then tr Dd σ H1 else tNext Dd σ H1) else c2 σ H1 fun b H2 => if b = true then tr Dd σ H2 else tNext Dd σ H2) : tIfS (tOr c1 c2) tr tNext Dd σ H := h
theorem ne_told (h0 : Pu ta σ v) (h1 : Pu t1 σ v1) (h2 : Pu t2 σ v2) (h3 : Pu t3 σ v3) (k : spTold K C CL CK cC cW cH cN [v, v1, v2, v3] H (NeK K tb σ Qb) E) :
    tTest (tOp (rNeD K) (tCall (spTold K C CL CK cC cW cH cN) [] E (tCons ta (tCons t1 (tCons t2 (tCons t3 tNil))))) tb) σ H Qb := h0 _ _ (h1 _ _ (h2 _ _ (h3 _ _ k)))
theorem ne_told3 (h0 : Pu ta σ v) (h1 : Pu t1 σ v1) (h2 : Pu t2 σ v2) (e : Ex B H) (h3 : EU K t3 σ B d) (k : ∀ v3 N H1, Gr B H N H1 → Da K N v3 d → spTold K C CL CK cC cW cH cN [v, v1, v2, v3] H1 (NeK K tb σ Qb) E) :
    tTest (tOp (rNeD K) (tCall (spTold K C CL CK cC cW cH cN) [] E (tCons ta (tCons t1 (tCons t2 (tCons t3 tNil))))) tb) σ H Qb := h0 _ _ (h1 _ _ (h2 _ _ (h3 B (Ex.refl B) H e _ fun v3 N H1 g hv => k v3 N H1 g hv)))
theorem ne_told2 (h0 : Pu ta σ v) (h1 : Pu t1 σ v1) (e : Ex B H) (h2 : EU K t2 σ B d) (h3 : Pu t3 σ v3) (k : ∀ v2 N H1, Gr B H N H1 → Da K N v2 d → spTold K C CL CK cC cW cH cN [v, v1, v2, v3] H1 (NeK K tb σ Qb) E) :
    tTest (tOp (rNeD K) (tCall (spTold K C CL CK cC cW cH cN) [] E (tCons ta (tCons t1 (tCons t2 (tCons t3 tNil))))) tb) σ H Qb := h0 _ _ (h1 _ _ (h2 B (Ex.refl B) H e _ fun v2 N H1 g hv => h3 _ _ (k v2 N H1 g hv)))
theorem nek {x : V} (e : Ex B H) (hx : Da K B x d) (hb : EU K tb σ B d) (sd : SeqAt.shaped d = true) (k : ∀ N H2, Gr B H N H2 → Qb false H2) : NeK K tb σ Qb x H := ne_k e hx hb sd k
end
theorem SB.file {S : Fx} {D H L Lb Lc D2 H2 : Hp} {N wc : Int} {nc : Nat} (s : SB S D H L Lb Lc N wc nc) (g : Gr (join D L) H D2 H2) : SB S D2 H2 noneH Lb Lc N wc nc where
  eD := g.sub
  dp := g.new _ (by rw [join_r s.dp]; exact s.lp) s.pu.nn
  pu := s.pu.ex g.act
  hk := (s.hk.ex (ex_l (A := D) (B := L))).ex g.bas
  eL := fun _ _ h => nomatch h
  lp := rfl
  dl := fun _ => .inr rfl
  eb := s.eb.trans g.act
  bp := s.bp
  db := (Pg.ev (p := S.p) g).dj s.eb (s.db.joinL s.lb)
  lb := fun _ => .inl rfl
  kb := s.kb
  ec := s.ec.trans g.act
  cp := s.cp
  dc := (Pg.ev (p := S.p) g).dj s.ec (s.dc.joinL s.lc)
  lc := fun _ => .inl rfl
  bc := s.bc
  kc := s.kc
/-- the file, lots known -/
theorem e_file {S : Fx} {D B H : Hp} {σ : L2.St} {n : Nat} {wk : Nat → List (Key × V)} {E : XK} {Q : VK} {i : Nat} (hs : σ[i]? = some (some (.ref S.a))) (hk : HandK S.K S.C D S.a S.l "ana" S.hv S.kd (kv3 S) (hs3.map .str)) (eD : Ex D B) (eB : Ex B H) (lo : LotsAt S.CL B S.l n wk) (hn : n < 64) (hw : ∀ i, i < n → TextKeys (wk i) ∧ (keysW (wk i)).length < 64)
    (k : ∀ v N H2, Gr B H N H2 → Da S.K N v (listedD n wk) → Q v H2) : tMeth S.C "file" (spFile S.K S.C S.CL) [] E (tVar i) tNil σ H Q := by
  obtain ⟨dx, ob⟩ := id hk.ob
  exact ⟨_, hs, S.a, dx, _, rfl, eB _ _ (eD _ _ ob), rfl, B, S.a, S.l, n, wk, rfl, eB, (hk.ex eD).handO, lo, hn, hw, k⟩
theorem d_file {S : Fx} {D B H : Hp} {σ : L2.St} {n : Nat} {wk : Nat → List (Key × V)} {E : XK} {i j : Nat} {tz : TS} {Dd : Ends} (hs : σ[i]? = some (some (.ref S.a))) (hk : HandK S.K S.C D S.a S.l "ana" S.hv S.kd (kv3 S) (hs3.map .str)) (eD : Ex D B) (eB : Ex B H) (lo : LotsAt S.CL B S.l n wk) (hn : n < 64) (hw : ∀ i, i < n → TextKeys (wk i) ∧ (keysW (wk i)).length < 64)
    (k : ∀ v N H2, Gr B H N H2 → Da S.K N v (listedD n wk) → tz Dd (σ.set j (some v)) H2) : tSeq (tAsg (tMeth S.C "file" (spFile S.K S.C S.CL) [] E (tVar i) tNil) (gName j)) tz Dd σ H :=
  e_file (Q := fun v H1 => gName j v σ H1 fun σ2 H2 => tz Dd σ2 H2) hs hk eD eB lo hn hw k
/-- of the last place no more is said than this -/
def GoodL (kv : List (Key × V)) : Prop := TextKeys kv ∧ (keysW kv).length < 64 ∧ kv.length ≤ 1000 ∧ hasW kv "zzz" = false ∧ ((keysW kv).all fun s => PyData.canLay0 (.str s)) = true
theorem good_last : GoodL (putsW ["yy"]) := by
  have h : (putsW ["yy"]).map (·.1) = (keysW (putsW ["yy"])).map (fun s => (Sum.inr s : Key)) ∧ (keysW (putsW ["yy"])).length < 64 ∧ (putsW ["yy"]).length ≤ 1000 ∧ hasW (putsW ["yy"]) "zzz" = false ∧ ((keysW (putsW ["yy"])).all fun s => PyData.canLay0 (.str s)) = true := by decide +kernel
  exact h
theorem lay_all : ∀ {ds : List PyData}, (∀ d ∈ ds, PyData.canLay0 d = true) → PyData.canLayAll0 ds = true
  | [], _ => rfl
  | d :: ds, h => by
    show (PyData.canLay0 d && PyData.canLayAll0 ds) = true
    rw [h d (.head _), lay_all fun x hx => h x (.tail _ hx)]
    rfl
theorem depth_all : ∀ {ds : List PyData} {m : Nat}, (∀ d ∈ ds, PyData.depth d ≤ m) → PyData.depthAll ds ≤ m
  | [], _, _ => Nat.zero_le _
  | d :: ds, m, h => by
    have h1 := h d (.head _)
    have h2 := depth_all (ds := ds) (m := m) fun x hx => h x (.tail _ hx)
    show max (PyData.depth d) (PyData.depthAll ds) ≤ m
    omega
theorem shaped_listed {n : Nat} {wk : Nat → List (Key × V)} (h : ∀ i, i < n → ((keysW (wk i)).all fun s => PyData.canLay0 (.str s)) = true) : SeqAt.shaped (listedD n wk) = true := by
  have hd : ∀ ss : List Str, PyData.depthAll (ss.map PyData.str) ≤ 1 := fun ss => depth_all fun d hd => by
    obtain ⟨s, _, rfl⟩ := List.mem_map.mp hd
    exact Nat.le_of_ble_eq_true rfl
  unfold SeqAt.shaped
  refine (Bool.and_eq_true _ _).mpr ⟨lay_all fun d hd => ?_, decide_eq_true ?_⟩
  · obtain ⟨i, hi, rfl⟩ := List.mem_map.mp hd
    have h1 := h i (List.mem_range.mp hi)
    have h2 : PyData.canLay0 (wordsD (strSort (keysW (wk i)))) = true := lay_all fun d hd2 => by
      obtain ⟨s, hs, rfl⟩ := List.mem_map.mp hd2
      have hs2 : s ∈ keysW (wk i) := by
        unfold strSort at hs
        first | exact List.mem_mergeSort.mp hs | exact (List.mem_mergeSort (le := _)).mp hs
      exact List.all_eq_true.mp h1 s hs2
    show (true && (PyData.canLay0 (wordsD (strSort (keysW (wk i)))) && true)) = true
    rw [h2]
    rfl
  · have : PyData.depthAll ((List.range n).map fun (i : Nat) => PyData.tuple [.tuple [.int (i : Int)], wordsD (strSort (keysW (wk i)))]) ≤ 5 := depth_all fun d hd' => by
      obtain ⟨i, hi, rfl⟩ := List.mem_map.mp hd'
      have := hd (strSort (keysW (wk i)))
      simp only [PyData.depth, PyData.depthAll, wordsD]
      omega
    show PyData.depth (.list _) ≤ 64
    simp only [PyData.depth]
    omega
section
variable {K : PySem.W.Frag} {C CL CK cC cW cH cN : Addr} {σ : L2.St} {H B : Hp} {v v1 v2 v3 : V} {ta t1 t2 t3 tb : TE} {d : PyData} {Qb : Bool → Hp → Prop} {E : XK}
def NeOk (K : PySem.W.Frag) (Qb : Bool → Hp → Prop) : VK := fun x H2 => rIxL K x (.int 0) H2 fun y H3 => rNeD K y (.str "ok") H3 fun v H4 => ∃ c, v = .bl c ∧ Qb c H4
theorem ne_toldI (h0 : Pu ta σ v) (h1 : Pu t1 σ v1) (h2 : Pu t2 σ v2) (e : Ex B H) (h3 : EU K t3 σ B d) (k : ∀ v3 N H1, Gr B H N H1 → Da K N v3 d → spTold K C CL CK cC cW cH cN [v, v1, v2, v3] H1 (NeOk K Qb) E) :
    tTest (tOp (rNeD K) (tOp (rIxL K) (tCall (spTold K C CL CK cC cW cH cN) [] E (tCons ta (tCons t1 (tCons t2 (tCons t3 tNil))))) (tC (.int 0))) (tC (.str "ok"))) σ H Qb := h0 _ _ (h1 _ _ (h2 _ _ (h3 B (Ex.refl B) H e _ fun v3 N H1 g hv => k v3 N H1 g hv)))
theorem neOk {q : Addr} (h : H q = some (.lst [.str "ok", v])) (k : Qb false H) : NeOk K Qb (.ref q) H := by
  refine ⟨q, [.str "ok", v], 0, .str "ok", rfl, rfl, SqL.of h, atI_nat (j := 0) rfl, .str "ok", .str "ok", (Da.str (K := K) (H := H) "ok").dp, (Da.str (K := K) (H := H) "ok").dp, by decide +kernel, by decide +kernel, _, rfl, ?_⟩
  have e : PyData.eqv (.str "ok") (.str "ok") = true := by decide +kernel
  rw [e]
  exact k
theorem eu_mod {j : Nat} {n m : Int} (h : σ[j]? = some (some (.int n))) (h0 : 0 < n) : EU K (tOp (rI (fun _ j => 0 < j) fun i j => .int (i % j)) (tC (.int m)) (tVar j)) σ B (.int (m % n)) := eu_of fun H Q q => ⟨_, h, m, n, rfl, rfl, h0, q⟩
end
theorem err_lay : ∀ j < 4, SeqAt.shaped (.list [.str (errN j)]) = true := by decide +kernel
theorem may_wet {n : Nat} {wk : Nat → List (Key × V)} (h : hasW (wk 0) "wet" = true) : mayB (lastH n) (fun i => wk (lastH n i).toNat) [(0, ["wet"])] = true := by
  have e : lastH n 0 = 0 := by unfold lastH; split <;> rfl
  unfold mayB
  rw [if_neg (by simp [nub])]
  simp [e, h]
theorem may_last {n : Nat} {kn : Int → List (Key × V)} (hn : 2 ≤ n) : ∀ ks : List Int, ks = [0, (n : Int) - 1] ∨ ks = [0, 1, (n : Int) - 1] ∨ ks = [1, 0, (n : Int) - 1] → mayB (lastH n) kn (ks.map fun i => (i, [])) = false := by
  have e0 : lastH n 0 = 0 := by unfold lastH; split <;> rfl
  have el : lastH n ((n : Int) - 1) = 0 := by unfold lastH; rw [if_pos rfl]
  intro ks h
  unfold mayB
  rw [if_pos]
  rcases h with rfl | rfl | rfl
  · simp [e0, el, nub]
  · by_cases z : lastH n 1 = 0
    · simp [e0, el, nub, z]
    · simp [e0, el, nub, z]
  · by_cases z : lastH n 1 = 0
    · simp [e0, el, nub, z]
    · simp [e0, el, nub, z]
theorem eu_bare {K : PySem.W.Frag} {B : Hp} {v : V} {ks : List Int} {x0 x1 x2 x3 x4 x5 x6 x8 x9 x10 x11 x12 x13 x14 x15 : Option V} (hd : Da K B v (.tuple (ks.map .int))) (hk : ks.length ≤ 100) :
    EU K (tCB (rTupOf K) (tCons (tLc (iTup K (tVar 7)) (gName 15) tYes (tTup (tCons (tVar 15) (tCons (tTup tNil) tNil))) (List.map (fun x => x.snd) [(Str.ofString "card", 15)])) tNil)) [x0, x1, x2, x3, x4, x5, x6, some v, x8, x9, x10, x11, x12, x13, x14, x15] B (linesD (ks.map fun i => (i, []))) := fun N e => by
  have h := ed_tupL (K := K) (ed_mapN (K := K) (te := tTup (tCons (tVar 15) (tCons (tTup tNil) tNil))) (j := 15) (vs := List.map (fun x => x.snd) [(Str.ofString "card", 15)]) ks (fun k => .tuple [.int k, .tuple []]) (by omega) (wd_tupM (f := PyData.int) (ys := ks) (ed_var (σ := [x0, x1, x2, x3, x4, x5, x6, some v, x8, x9, x10, x11, x12, x13, x14, x15]) (i := 7) rfl (hd.ex e))) (fun _ => rfl) fun i x y N2 e2 hy hx => ?_)
  · unfold linesD
    rw [List.map_map]
    exact h
  · have hx := pd_map hy hx
    exact ed_tup (eds_cons (ed_var rfl hx) fun _ _ => eds_cons (ed_tup eds_nil (Nat.zero_le _)) fun _ _ => eds_nil) (by show 2 ≤ 100000; decide)
def ForL (K : PySem.W.Frag) (a : Addr) (g : TG) (tb : TS) (D : Ends) (σ : L2.St) (H1 : Hp) : Prop := ∃ W : Nat → Nat → L2.St → Hp → Prop, (∃ m, W 0 m σ H1) ∧ ∀ i m σ H, W i m σ H →
  ((Itl K a).stop i H ∧ D.nx σ H) ∨ ((Itl K a).go i H ∧ ∃ N : L2.St → Hp → Prop, (∀ σ' H', N σ' H' → ∃ m', m' < m ∧ W (i + 1) m' σ' H') ∧ ∀ x H', (Itl K a).yld i H x H' → g x σ H' fun σ2 H2 => tb { D with nx := N, ct := N, bk := D.nx } σ2 H2)
theorem for_eu {K : PySem.W.Frag} {tl : TE} {g : TG} {tb : TS} {D : Ends} {σ : L2.St} {B H : Hp} {ds : List PyData} (eB : Ex B H) (h : EU K tl σ B (.list ds)) (k : ∀ a xs N H1, Gr B H N H1 → N a = some (.lst xs) → DaAll K N xs ds → ForL K a g tb D σ H1) : tFor (iList K tl) g tb D σ H :=
  h B (Ex.refl B) H eB _ fun v N H1 g hd => by
    cases hd with
    | lst h1 h2 => exact ⟨_, rfl, ⟨_, sq_of (g.sub _ _ h1)⟩, k _ _ N H1 g h1 h2⟩
theorem all3 {n : Nat} {i k j : Int} {ws vs us : List Str} (h : i < (n : Int)) (g : k < (n : Int)) (f : j < (n : Int)) : ([(i, ws), (k, vs), (j, us)] : List (Int × List Str)).all (fun l => decide (l.1 < (n : Int))) = true := by simp [h, g, f]
theorem bare_refused {n : Nat} {wk : Nat → List (Key × V)} (hn : 2 ≤ n) {ks : List Int} (h : ks = [0, (n : Int) - 1] ∨ ks = [0, 1, (n : Int) - 1] ∨ ks = [1, 0, (n : Int) - 1]) : OkD (linesD (ks.map fun i => (i, []))) ∧ RefX n wk (lastH n) (.str "bo") (linesD (ks.map fun i => (i, []))) 3 3 := by
  have hm := fun kn => may_last (kn := kn) hn ks h
  have n1 : (0 : Int) ≤ (n : Int) - 1 := by omega
  have n3 : (n : Int) - 1 < n := by omega
  have n0 : (0 : Int) < n := by omega
  have m1 : (1 : Int) < n := by omega
  rcases h with rfl | rfl | rfl
  · exact ⟨⟨by kernel_rfl, by kernel_rfl⟩, by show 2 ≤ 1000; decide, .inr (.inl ⟨wx3 (ln2 (line_is (by decide) wE) (line_is n1 wE)) (all2 n0 n3) (hm _), rfl⟩)⟩
  · exact ⟨⟨by kernel_rfl, by kernel_rfl⟩, by show 3 ≤ 1000; decide, .inr (.inl ⟨wx3 (ln3 (line_is (by decide) wE) (line_is (by decide) wE) (line_is n1 wE)) (all3 n0 m1 n3) (hm _), rfl⟩)⟩
  · exact ⟨⟨by kernel_rfl, by kernel_rfl⟩, by show 3 ≤ 1000; decide, .inr (.inl ⟨wx3 (ln3 (line_is (by decide) wE) (line_is (by decide) wE) (line_is n1 wE)) (all3 m1 n0 n3) (hm _), rfl⟩)⟩
section
variable {K : PySem.W.Frag} {C CL CK CH CN CW : Addr} {σ : L2.St} {H B : Hp} {v v1 v2 : V} {ta t1 t2 th tb : TE} {d d1 d2 : PyData} {Qb : Bool → Hp → Prop} {E E2 : XK}
theorem ne_zero {x : Int} (e : x = 0) (k : Qb false H) : rNeD K (.int x) (.int 0) H fun v H3 => ∃ c, v = .bl c ∧ Qb c H3 := by
  subst e
  exact ⟨.int 0, .int 0, (Da.int (K := K) (H := H) 0).dp, (Da.int (K := K) (H := H) 0).dp, rfl, rfl, _, rfl, k⟩
/-- a new hand sees a thing, the first -/
theorem ne_see {ws : List Str} {i : Nat} (eB : Ex B H) (hb : EU K th σ B (.tuple ((["ana", "bo"] : List Str).map .str))) (hs : σ[i]? = some (some v)) (hv : Da K B v (wordsD ws)) (ok : OkD (wordsD ws)) (hw : isWords (wordsD ws) = true) (hl : ws.length ≤ 1000) (k : ∀ H2, Ex H H2 → Qb false H2) :
    tTest (tOp (rNeD K) (tMeth C "see" (spSee K C CL CW) [] E (tMake C (spHandI K C CL CK CH CN) [] E2 (tCons (tC (.str "ana")) (tCons th tNil))) (tCons (tVar i) tNil)) (tC (.int 0))) σ H Qb := by
  refine e_hand (Q := fun x H1 => ∃ a dx fs, x = .ref a ∧ H1 a = some (.ins C dx fs) ∧ fs.lookup ("see" : Str) = none ∧ tCons (tVar i) tNil σ H1 fun vs H2 => spSee K C CL CW (x :: (vs ++ [])) H2 (fun x H1 => tC (.int 0) σ H1 fun y H2 => rNeD K x y H2 fun v H3 => ∃ c, v = .bl c ∧ Qb c H3) E) eB hb hand2 ok2 fun hv2 N H3 x H4 l kd Ll kps g hhv hx hn => ?_
  obtain ⟨dx, ob⟩ := hn.ob
  have nx : N x = none := fresh_back g.sub hx
  have eN : Ex (upd N x (.ins C dx (handF "ana" hv2 l kd))) H4 := fun b u hb => by
    by_cases z : b = x
    · subst z
      rw [upd_same] at hb
      cases hb
      exact ob
    · rw [upd_ne z] at hb
      exact hn.keep _ _ (g.sub _ _ hb)
  have dj : Dj (upd N x (.ins C dx (handF "ana" hv2 l kd))) Ll := fun b => by
    by_cases z : b = x
    · exact .inr (z ▸ hn.la)
    · rw [upd_ne z]
      cases y : N b with
      | none => exact .inl rfl
      | some u => exact .inr (hn.ln b (by rw [g.sub _ _ y]; simp))
  refine ⟨x, dx, _, rfl, ob, rfl, _, hs, .inr ⟨_, Ll, x, l, 0, _, v, ws, rfl, eN, hn.le, dj, ⟨dx, "ana", hv2, kd, upd_same⟩, hn.lo, by decide, (hv.ex g.bas).ex (Ex.new nx), ok, hw, hl, fun L' H5 m lo => ne_zero rfl (k H5 fun b u hb => ?_)⟩⟩
  have h3 : H3 b = some u := g.act _ _ hb
  have h4 : H4 b = some u := hn.keep _ _ h3
  rw [(m.rest b (hn.ln b (by rw [h3]; simp)) (by rw [h4]; simp)).1]
  exact h4
theorem ne_made (eB : Ex B H) (h1 : EU K t1 σ B d1) (h2 : EU K t2 σ B d2) (k : ∀ v1 v2 N H1, Gr B H N H1 → Da K N v1 d1 → Da K N v2 d2 → spMade K [v1, v2] H1 (NeK K tb σ Qb) E) :
    tTest (tOp (rNeD K) (tCall (spMade K) [] E (tCons t1 (tCons t2 tNil))) tb) σ H Qb :=
  h1 B (Ex.refl B) H eB _ fun v1 N H1 g hv1 => h2 N g.bas H1 g.sub _ fun v2 N2 H2 g2 hv2 => k v1 v2 N2 H2 (g.trans g2) (hv1.ex g2.bas) hv2
theorem ne_kept {S : Fx} {D L Lb Lc : Hp} {N wc : Int} {nc i : Nat} (s : SB S D H L Lb Lc N wc nc) (hs : σ[i]? = some (some (.ref S.a))) (k : ∀ H2, Ex H H2 → Qb false H2) :
    tTest (tOp (rNeD S.K) (tMeth S.C "kept" (spKept S.K S.C S.CK CH) [] E (tVar i) (tCons (tC (.str "bo")) tNil)) (tC (.int 0))) σ H Qb := by
  obtain ⟨dx, ob⟩ := id s.hk.ob
  refine ⟨_, hs, S.a, dx, _, rfl, s.eD _ _ ob, rfl, join D Lb, S.a, S.l, "ana", S.hv, S.kd, kv3 S, _, .str "bo", .str "bo", rfl, join_ex s.eD s.eb, s.hk.ex ex_l, .str _, okBo, (fun hb => by rw [bo_is] at hb; cases hb), fun _ => ⟨"bo", S.pb, 0, 0, rfl, rfl, s.kb.ex (ex_r s.db), fun z H2 hz e => ne_zero (by omega) (k H2 e)⟩⟩
end
theorem ex_lst {D H H2 : Hp} {q : Addr} {o : HO} (e : Ex D H) (e2 : Ex H H2) (hq : H q = none) (h : H2 q = some o) : Ex (upd D q o) H2 := fun b u hb => by
  by_cases z : b = q
  · subst z
    rw [upd_same] at hb
    cases hb
    exact h
  · rw [upd_ne z] at hb
    exact e2 _ _ (e _ _ hb)
section
variable {K : PySem.W.Frag} {σ : L2.St} {H D : Hp} {te t1 tb : TE} {d1 : PyData} {ds : List PyData} {Qb : Bool → Hp → Prop} {E E1 : XK} {p : Addr} {N n : Int} {j : Nat} {u : Str}
theorem ne_made1 (hl : EvD K te σ D (.list ds)) (e : Ex D H) (dp : D p = none) (hs : σ[j]? = some (some (.ref p))) (hn : n = (ds.length : Int)) (pu : PurseAt p N H) (hN : N < 999999999999) (l1 : 1 ≤ ds.length) (l2 : ds.length < 1000)
    (k : ∀ v d D2 H2, Pg p D H D2 H2 → PurseAt p (N + 1) H2 → Da K D2 v d → d ∈ ds → spMade K [v, .str u] H2 (NeK K tb σ Qb) E) :
    tTest (tOp (rNeD K) (tCall (spMade K) [] E (tCons (tOp (rIxL K) te (tCall spDraw [] E1 (tCons (tVar j) (tCons (tC (.int n)) tNil)))) (tCons (tC (.str u)) tNil))) tb) σ H Qb := by
  subst hn
  exact e_pick (Q := fun x H1 => spMade K [x, .str u] H1 (NeK K tb σ Qb) E) hl e dp hs (fun _ _ q => q) pu hN l1 l2 k
theorem ne_made2 (h1 : EU K t1 σ D d1) (hl : EU K te σ D (.list ds)) (e : Ex D H) (dp : D p = none) (hs : σ[j]? = some (some (.ref p))) (hn : n = (ds.length : Int)) (pu : PurseAt p N H) (hN : N < 999999999999) (l1 : 1 ≤ ds.length) (l2 : ds.length < 1000)
    (k : ∀ v1 v d D2 H2, Pg p D H D2 H2 → Da K D2 v1 d1 → Da K D2 v d → d ∈ ds → spMade K [v1, v] H2 (NeK K tb σ Qb) E) :
    tTest (tOp (rNeD K) (tCall (spMade K) [] E (tCons t1 (tCons (tOp (rIxL K) te (tCall spDraw [] E1 (tCons (tVar j) (tCons (tC (.int n)) tNil)))) tNil))) tb) σ H Qb := by
  subst hn
  refine h1 D (Ex.refl D) H e _ fun v1 N1 H1 g hv1 => ?_
  have g1 : Pg p D H N1 H1 := .ev g
  exact e_pick (Q := fun x H1 => spMade K [v1, x] H1 (NeK K tb σ Qb) E) (hl N1 g.bas) g.sub (g1.out dp pu) hs (fun _ _ q => q) (pu.ex g.act) hN l1 l2 fun v d D2 H2 g2 _ hd hm => k v1 v d D2 H2 (g1.trans g2) (hv1.ex g2.bas) hd hm
end
def badHs : List PyData := [.tuple [.str "ana"], .tuple [.str "bo", .str "ana"], .list [.str "ana", .str "bo"], .none, .tuple [.str "ana", .str "ana"], .tuple [.str "a", .str "b", .str "c", .str "d", .str "e", .str "f"]]
theorem badHs_is : ∀ d ∈ badHs, areHands d = false ∧ OkD d := by
  have h : ∀ d ∈ badHs, areHands d = false ∧ fitD d = true ∧ SeqAt.shaped d = true := by decide +kernel
  exact h
def noHs : List PyData := [.str "cy", .none, .int 0, .tuple [.str "ana"]]
theorem noHs_is : ∀ d ∈ noHs, inD d ((["ana", "bo"] : List Str).map .str) = false ∧ OkD d := by
  have h : ∀ d ∈ noHs, inD d ((["ana", "bo"] : List Str).map .str) = false ∧ fitD d = true ∧ SeqAt.shaped d = true := by decide +kernel
  exact h
def anaPq : List Str := ["ana", "pq"]
theorem handPq : areHands (.tuple (anaPq.map .str)) = true ∧ inD (.str "pq") (anaPq.map .str) = true ∧ anaPq.Nodup ∧ anaPq.length ≤ 5 ∧ ∀ o ∈ anaPq, SeqAt.shaped (.str o) = true := by decide +kernel
theorem okPq : OkD (.tuple (anaPq.map .str)) ∧ OkD (.str "pq") := ⟨⟨by decide +kernel, by decide +kernel⟩, by decide +kernel, by decide +kernel⟩
def signs4 : List Str := ["abcdefgh", "ijklmnop", "qrstuvwx", "yz"]
theorem signs_is : isWords (wordsD signs4) = true ∧ OkD (wordsD signs4) ∧ signs4.length ≤ 1000 := by
  have h : isWords (wordsD signs4) = true ∧ fitD (wordsD signs4) = true ∧ SeqAt.shaped (wordsD signs4) = true ∧ signs4.length ≤ 1000 := by decide +kernel
  exact ⟨h.1, ⟨h.2.1, h.2.2.1⟩, h.2.2.2⟩
end Sg
end
section
set_option maxRecDepth 100000
set_option maxHeartbeats 4000000
/-! The law. -/
namespace Sg
open PySem PySem.Spec PyProof.Rows L2 Evl
structure MgZ (mg : Str → Option Value) : Prop where
  m_range : mg "range" = none
  m_len : mg "len" = none
  m_min : mg "min" = none
  m_tuple : mg "tuple" = none
theorem sqx {K : PySem.W.Frag} {H H' : Hp} {a : Addr} {xs : List V} (e : Ex H H') (h : SqL K H a xs) : SqL K H' a xs := Same.seq e h
def spLaw (K : PySem.W.Frag) : Sp := fun vs H Q _ => ∃ (a : Addr) (ns : List Int), vs = [.ref a] ∧ SqL K H a (ns.map V.int) ∧ ns.length ≤ 63 ∧ ∀ H2, Q (.bl true) H2
theorem da_intL {K : PySem.W.Frag} (N : Hp) : ∀ ks : List Int, DaAll K N (ks.map V.int) (ks.map PyData.int)
  | [] => .nil
  | k :: ks => .cons (.int k) (da_intL N ks)
def WkI (n : Nat) (wk : Nat → List (Key × V)) : Prop := ∀ j, j < n → Good (wk j)
section
variable {P : Program} {w : World} {K : PySem.W.Frag} {mg : Str → Option Value} {base : Heap} {C CL CK CS : Addr} {C_NoCard C_NoWords C_NoHand C_NoLines C_NoHands C_SaidError : Addr}
abbrev s_law : Stmt := topS 56
theorem sc_law : FnScope ["script", "at", "purse", "alone", "many", "k", "held", "some", "all_signs", "bad", "way", "one", "two", "due", "word", "card"] ["script"] (defScope s_law) := ⟨rfl, rfl, rfl, by decide +kernel, rfl, by decide +kernel, by decide +kernel⟩
theorem ok_law (M : MgZ mg) (T : THand K C) (G__law_purse : Own P w K mg base 2 "_law_purse" ["script", "at"] [] (spPurse K)) (G__law_draw : Own P w K mg base 2 "_law_draw" ["purse", "out_of"] [] spDraw)
    (G_Hand : Okc P w K mg base (L2.CX P w) 4 C "Hand" ["self", "name", "hands"] [] (spHandI K C CL CK C_NoHands C_NoHand))
    (G__law_told : Own P w K mg base 6 "_law_told" ["alone", "way", "one", "two"] [] (spTold K C CL CK C_NoCard C_NoWords C_NoHand C_NoLines)) (G__law_doors : Own P w K mg base 4 "_law_doors" ["purse", "alone", "many"] [] (spDoors K)) (G__law_made : Own P w K mg base 6 "_law_made" ["hands", "who"] [] (spMade K))
    (G_Hand_file : OwnM P w K mg base 2 C "file" ["self"] (spFile K C CL)) (G_Hand_see : OwnX P w K mg base 3 C "see" ["self", "words"] (spSee K C CL C_NoWords)) (G_Hand_kept : OwnX P w K mg base 2 C "kept" ["self", "other"] (spKept K C CK C_NoHand))
    {f : Addr} {fd : FuncData} (F : Fun K "law" "law" s_law f fd) : FnOk P w K mg base CX0 7 f fd ["script"] (spLaw K) := by
  refine F.ok sc_law (fun vs H Q E h => ?_) (fun cdv A outer s H vs Q E hr h => ?_)
  · obtain ⟨a, ns, rfl, _⟩ := h
    rfl
  obtain ⟨a, ns, rfl, ha, hz, q⟩ := h
  refine ⟨_, (pss_cons (ps_for PassesOwn.never rfl (pi_range1 (by rfl) M.m_range (pa_cons (pe_op op_add pe_int (pe_callB (call_min2 rfl) (by rfl) M.m_min (by decide +kernel) (pa_cons pe_int (pa_cons (pe_callB (call_lenK (K := K)) (by rfl) M.m_len boot_len (pa_cons (pv 0) pa_nil)) pa_nil)))) pa_nil)) (pg_name (i := 1) sc_law.nd rfl (by first | exact Or.inl rfl | exact Or.inr rfl)) (pss_cons (ps_set (i := 2) sc_law.nd rfl (by first | exact Or.inl rfl | exact Or.inr rfl) (pe_own G__law_purse (hr.mono (by decide)) (pa_cons (pv 0) (pa_cons (pv 1) pa_nil)) pass0))
      (pss_cons (ps_set (i := 3) sc_law.nd rfl (by first | exact Or.inl rfl | exact Or.inr rfl) (pe_ownC G_Hand (hr.mono (by decide)) (pa_cons pe_str (pa_cons (pe_tup (pa_cons pe_str (pa_cons pe_str (pa_cons pe_str pa_nil)))) pa_nil)) passF))
      (pss_cons (ps_set (i := 4) sc_law.nd rfl (by first | exact Or.inl rfl | exact Or.inr rfl) (pe_op op_add pe_int (pe_own G__law_draw (hr.mono (by decide)) (pa_cons (pv 2) (pa_cons pe_int pa_nil)) pass0)))
      (pss_cons (ps_for PassesOwn.never rfl (pi_range1 (by rfl) M.m_range (pa_cons (pv 4) pa_nil)) (pg_name (i := 5) sc_law.nd rfl (by first | exact Or.inl rfl | exact Or.inr rfl)) (pss_cons (ps_set (i := 7) sc_law.nd rfl (by first | exact Or.inl rfl | exact Or.inr rfl) (pe_callTy (cr_tupOf (K := K)) (by rfl) M.m_tuple (by decide +kernel) (pa_cons (pe_lc (own := [("word", 14)]) rfl sc_law.nd (pi_listK (K := K) (pe_lst (pa_cons pe_str (pa_cons pe_str (pa_cons pe_str pa_nil))))) (blkOk_by (N := ["script", "at", "purse", "alone", "many", "k", "held", "some", "all_signs", "bad", "way", "one", "two", "due", "word", "card"]) (sc := defScope s_law) (by decide +kernel)) (fun _ _ _ _ _ => (pg_name (i := 14) sc_law.nd rfl (by first | exact Or.inl rfl | exact Or.inr rfl))) (fun _ _ _ _ _ => pts_one (pt_cmpR (op_eqDK (K := K) hr.units) (pe_own G__law_draw (hr.mono (by decide)) (pa_cons (pv 2) (pa_cons pe_int pa_nil)) pass0) pe_int (nomark _))) (fun _ _ _ _ _ => (pv 14))) pa_nil)))
      (pss_one (ps_if (PW.pt (pw_or (pt_cmpR (op_neDK (K := K) hr.units) (pe_own G__law_told (hr.mono (by decide)) (pa_cons (pv 3) (pa_cons pe_int (pa_cons (pv 7) (pa_cons pe_non pa_nil)))) pass0) (pe_lst (pa_cons pe_str (pa_cons (pv 5) pa_nil))) (nomark _)) (pw_or1 (pt_cmpR (op_neDK (K := K) hr.units) (pe_own G__law_told (hr.mono (by decide)) (pa_cons (pv 3) (pa_cons pe_int (pa_cons (pv 5) (pa_cons (pe_tup (pa_cons pe_str pa_nil)) pa_nil)))) pass0) (pe_lst (pa_cons pe_str (pa_cons pe_non pa_nil))) (nomark _))))) (pss_one (ps_ret pe_bl)) pss_nil))))
      (pss_cons (ps_if (pt_cmpR (op_neDK (K := K) hr.units) (pe_own G__law_told (hr.mono (by decide)) (pa_cons (pv 3) (pa_cons pe_int (pa_cons (pe_tup (pa_cons pe_str pa_nil)) (pa_cons pe_non pa_nil)))) pass0) (pe_lst (pa_cons pe_str (pa_cons (pv 4) pa_nil))) (nomark _)) (pss_one (ps_ret pe_bl)) pss_nil)
      (pss_cons (ps_set (i := 4) sc_law.nd rfl (by first | exact Or.inl rfl | exact Or.inr rfl) (pe_op op_add (pv 4) pe_int))
      (pss_cons (ps_set (i := 6) sc_law.nd rfl (by first | exact Or.inl rfl | exact Or.inr rfl) (pe_ownM0 G_Hand_file (hr.mono (by decide)) (pv 3) pass0))
      (pss_cons (ps_for PassesOwn.never rfl (pi_listK (K := K) (pe_own G__law_doors (hr.mono (by decide)) (pa_cons (pv 2) (pa_cons (pv 3) (pa_cons (pv 4) pa_nil))) pass0)) (pg_lstK (K := K) (n := 4) rfl (pgs_cons (pg_name (i := 10) sc_law.nd rfl (by first | exact Or.inl rfl | exact Or.inr rfl)) (pgs_cons (pg_name (i := 11) sc_law.nd rfl (by first | exact Or.inl rfl | exact Or.inr rfl)) (pgs_cons (pg_name (i := 12) sc_law.nd rfl (by first | exact Or.inl rfl | exact Or.inr rfl)) (pgs_cons (pg_name (i := 13) sc_law.nd rfl (by first | exact Or.inl rfl | exact Or.inr rfl)) pgs_nil))))) (pss_one (ps_if (PW.pt (pw_or (pt_cmpR (op_neDK (K := K) hr.units) (pe_own G__law_told (hr.mono (by decide)) (pa_cons (pv 3) (pa_cons (pv 10) (pa_cons (pv 11) (pa_cons (pv 12) pa_nil)))) pass0) (pe_lst (pa_cons (pv 13) pa_nil)) (nomark _)) (pw_or1 (pt_cmpR (op_neDK (K := K) hr.units) (pe_ownM0 G_Hand_file (hr.mono (by decide)) (pv 3) pass0) (pv 6) (nomark _))))) (pss_one (ps_ret pe_bl)) pss_nil)))
      (pss_cons (ps_if (PW.pt (pw_or (pt_cmpR (op_neDK (K := K) hr.units) (pe_own G__law_told (hr.mono (by decide)) (pa_cons (pv 3) (pa_cons pe_int (pa_cons pe_int (pa_cons (pe_op op_sub (pv 4) pe_int) pa_nil)))) pass0) (pe_lst (pa_cons pe_str (pa_cons pe_non pa_nil))) (nomark _)) (pw_or1 (pt_cmpR (op_neDK (K := K) hr.units) (pe_ix (ix_listK (K := K)) (pe_own G__law_told (hr.mono (by decide)) (pa_cons (pv 3) (pa_cons pe_int (pa_cons pe_str (pa_cons (pe_tup (pa_cons (pe_tup (pa_cons pe_int (pa_cons (pe_tup (pa_cons pe_str pa_nil)) pa_nil))) pa_nil)) pa_nil)))) pass0) pe_int (fun _ _ => rfl)) pe_str (nomark _))))) (pss_one (ps_ret pe_bl)) pss_nil)
      (pss_cons (ps_for PassesOwn.never rfl (pi_listK (K := K) (pe_lst (pa_cons (pe_tup (pa_cons pe_int (pa_cons (pe_op op_sub (pv 4) pe_int) pa_nil))) (pa_cons (pe_tup (pa_cons pe_int (pa_cons (pe_op op_mod pe_int (pv 4)) (pa_cons (pe_op op_sub (pv 4) pe_int) pa_nil)))) (pa_cons (pe_tup (pa_cons (pe_op op_mod pe_int (pv 4)) (pa_cons pe_int (pa_cons (pe_op op_sub (pv 4) pe_int) pa_nil)))) pa_nil))))) (pg_name (i := 7) sc_law.nd rfl (by first | exact Or.inl rfl | exact Or.inr rfl)) (pss_one (ps_if (pt_cmpR (op_neDK (K := K) hr.units) (pe_own G__law_told (hr.mono (by decide)) (pa_cons (pv 3) (pa_cons pe_int (pa_cons pe_str (pa_cons (pe_callTy (cr_tupOf (K := K)) (by rfl) M.m_tuple (by decide +kernel) (pa_cons (pe_lc (own := [("card", 15)]) rfl sc_law.nd (pi_tupK (K := K) (pv 7)) (blkOk_by (N := ["script", "at", "purse", "alone", "many", "k", "held", "some", "all_signs", "bad", "way", "one", "two", "due", "word", "card"]) (sc := defScope s_law) (by decide +kernel)) (fun _ _ _ _ _ => (pg_name (i := 15) sc_law.nd rfl (by first | exact Or.inl rfl | exact Or.inr rfl))) (fun _ _ _ _ _ => pts_nil) (fun _ _ _ _ _ => (pe_tup (pa_cons (pv 15) (pa_cons (pe_tup pa_nil) pa_nil))))) pa_nil)) pa_nil)))) pass0) (pe_lst (pa_cons pe_str pa_nil)) (nomark _)) (pss_one (ps_ret pe_bl)) pss_nil)))
      (pss_cons (ps_set (i := 8) sc_law.nd rfl (by first | exact Or.inl rfl | exact Or.inr rfl) (pe_tup (pa_cons pe_str (pa_cons pe_str (pa_cons pe_str (pa_cons pe_str pa_nil))))))
      (pss_cons (ps_if (PW.pt (pw_or (pt_cmpR (op_neDK (K := K) hr.units) (pe_ownM G_Hand_see (hr.mono (by decide)) (pe_ownC G_Hand (hr.mono (by decide)) (pa_cons pe_str (pa_cons (pe_tup (pa_cons pe_str (pa_cons pe_str pa_nil))) pa_nil)) passF) (pa_cons (pv 8) pa_nil) passF) pe_int (nomark _)) (pw_or1 (pt_cmpR (op_neDK (K := K) hr.units) (pe_own G__law_made (hr.mono (by decide)) (pa_cons (pe_tup (pa_cons pe_str (pa_cons pe_str pa_nil))) (pa_cons pe_str pa_nil)) pass0) (pe_lst (pa_cons pe_bl (pa_cons pe_bl pa_nil))) (nomark _))))) (pss_one (ps_ret pe_bl)) pss_nil)
      (pss_cons (ps_if (PW.pt (pw_or (pt_cmpR (op_neDK (K := K) hr.units) (pe_ownM G_Hand_kept (hr.mono (by decide)) (pv 3) (pa_cons pe_str pa_nil) passF) pe_int (nomark _)) (pw_or1 (pt_cmpR (op_neDK (K := K) hr.units) (pe_own G__law_told (hr.mono (by decide)) (pa_cons (pv 3) (pa_cons pe_int (pa_cons pe_str (pa_cons (pe_tup pa_nil) pa_nil)))) pass0) (pe_lst (pa_cons pe_str (pa_cons (pe_tup (pa_cons pe_str (pa_cons pe_str (pa_cons pe_int (pa_cons (pe_tup pa_nil) (pa_cons (pe_tup pa_nil) pa_nil)))))) pa_nil))) (nomark _))))) (pss_one (ps_ret pe_bl)) pss_nil)
      (pss_cons (ps_set (i := 9) sc_law.nd rfl (by first | exact Or.inl rfl | exact Or.inr rfl) (pe_lst (pa_cons (pe_tup (pa_cons pe_str pa_nil)) (pa_cons (pe_tup (pa_cons pe_str (pa_cons pe_str pa_nil))) (pa_cons (pe_lst (pa_cons pe_str (pa_cons pe_str pa_nil))) (pa_cons pe_non (pa_cons (pe_tup (pa_cons pe_str (pa_cons pe_str pa_nil))) (pa_cons (pe_tup (pa_cons pe_str (pa_cons pe_str (pa_cons pe_str (pa_cons pe_str (pa_cons pe_str (pa_cons pe_str pa_nil))))))) pa_nil))))))))
      (pss_cons (ps_if (pt_cmpR (op_neDK (K := K) hr.units) (pe_own G__law_made (hr.mono (by decide)) (pa_cons (pe_ix (ix_listK (K := K)) (pv 9) (pe_own G__law_draw (hr.mono (by decide)) (pa_cons (pv 2) (pa_cons pe_int pa_nil)) pass0) (fun _ _ => rfl)) (pa_cons pe_str pa_nil)) pass0) (pe_lst (pa_cons pe_bl (pa_cons pe_bl pa_nil))) (nomark _)) (pss_one (ps_ret pe_bl)) pss_nil)
      (pss_one (ps_if (pt_cmpR (op_neDK (K := K) hr.units) (pe_own G__law_made (hr.mono (by decide)) (pa_cons (pe_tup (pa_cons pe_str (pa_cons pe_str pa_nil))) (pa_cons (pe_ix (ix_listK (K := K)) (pe_lst (pa_cons pe_str (pa_cons pe_non (pa_cons pe_int (pa_cons (pe_tup (pa_cons pe_str pa_nil)) pa_nil))))) (pe_own G__law_draw (hr.mono (by decide)) (pa_cons (pv 2) (pa_cons pe_int pa_nil)) pass0) (fun _ _ => rfl)) pa_nil)) pass0) (pe_lst (pa_cons pe_bl (pa_cons pe_bl pa_nil))) (nomark _)) (pss_one (ps_ret pe_bl)) pss_nil))))))))))))))))))
      (pss_one (ps_ret pe_bl))), ?_⟩
  refine q_seq ⟨_, rfl, .ref a, ns.length, rfl, .inl ⟨_, ha, (List.length_map _).symm⟩, 4, (ns.length : Int), rfl, 1, _, rfl, rfl, _, rfl, (by split <;> omega), (by split <;> omega), ?_⟩
  generalize en : (1 + (if (ns.length : Int) < 4 then (ns.length : Int) else 4)).toNat = cnt
  have hcnt : cnt ≤ 5 := by
    rw [← en]
    split <;> omega
  refine for_range (lo := 0) (n := cnt) (fun i σ' H' => (∃ r : List (Option V), r.length = 15 ∧ σ' = some (.ref a) :: r) ∧ SqL K H' a (ns.map V.int)) ⟨⟨_, rfl, rfl⟩, ha⟩ (fun i σ' H' hi hp => ?_) fun σ' H' hp => q H'
  obtain ⟨⟨r, hr15, rfl⟩, ha'⟩ := hp
  match r, hr15 with
  | [x1, x2, x3, x4, x5, x6, x7, x8, x9, x10, x11, x12, x13, x14, x15], _ =>
  -- purse = _law_purse(script, at)
  refine ⟨_, rfl, _, rfl, a, ns, 0 + (i : Int), rfl, ⟨ha', hz⟩, ⟨by omega, by omega⟩, fun p H2 hp pu2 bt nn => ?_⟩
  have eB : Ex H' H2 := fun b u hb => bt _ _ (fun z => by rw [z, hp] at hb; cases hb) hb
  -- alone = Hand("ana", ("ana", "bo", "cy"))
  show tSeq _ _ _ [some (.ref a), some (.int (0 + (i : Int))), some (.ref p), x3, x4, x5, x6, x7, x8, x9, x10, x11, x12, x13, x14, x15] H2
  refine d_hand (hs := hs3) eB (eu_tup (eu_cons eu_str (eu_cons eu_str (eu_cons eu_str eu_nil))) (by decide)) hand3 ok3 fun hv N3 H3 x H4 l kd Ll kps g3 hhv hx hn => ?_
  have np3 : N3 p = none := g3.new p hp pu2.nn
  obtain ⟨pb, pc, D4, Lb, Lc, s4, e34, lo4⟩ := sb_new hn g3.sub hhv np3 (pu2.ex g3.act) hx
  generalize eS : (⟨K, C, CL, CK, p, x, l, kd, pb, pc, hv⟩ : Fx) = S at s4
  obtain ⟨rfl, rfl, rfl, rfl, rfl, rfl, rfl, rfl, rfl⟩ : S.K = K ∧ S.C = C ∧ S.CL = CL ∧ S.CK = CK ∧ S.p = p ∧ S.a = x ∧ S.l = l ∧ S.kd = kd ∧ S.hv = hv := by
    subst eS
    exact ⟨rfl, rfl, rfl, rfl, rfl, rfl, rfl, rfl, rfl⟩
  have hD4 : SqL S.K D4 a (ns.map V.int) := sqx e34 (sqx g3.bas ha')
  generalize eN : (1000 * (0 + (i : Int))) = N0 at s4
  have hN0 : N0 ≤ 5000 := by omega
  -- many = 1 + _law_draw(purse, 5)
  refine ⟨_, rfl, S.p, 5, N0, rfl, by decide, s4.pu, by omega, fun r H5 r0 r1 pu5 bt5 nn5 => ⟨1, r, rfl, rfl, ?_⟩⟩
  have s5 := s4.pg (.draw s4.eD s4.dp bt5 pu5) pu5
  obtain ⟨nm, em⟩ : ∃ nm : Nat, 1 + r = (nm : Int) := ⟨(1 + r).toNat, by omega⟩
  have hnm : 1 ≤ nm ∧ nm ≤ 5 := by omega
  show tSeq _ _ _ [some (.ref a), some (.int (0 + (i : Int))), some (.ref S.p), some (.ref S.a), some (.int (1 + r)), x5, x6, x7, x8, x9, x10, x11, x12, x13, x14, x15] H5
  rw [em]
  refine q_seq ⟨_, rfl, (nm : Int), rfl, by omega, by omega, ?_⟩
  rw [Int.toNat_natCast]
  refine for_range (lo := 0) (n := nm) (fun i' σ' H' => ∃ D L N wk y5 y7, σ' = [some (.ref a), some (.int (0 + (i : Int))), some (.ref S.p), some (.ref S.a), some (.int (nm : Int)), y5, x6, y7, x8, x9, x10, x11, x12, x13, x14, x15] ∧ SB S D H' L Lb Lc N 0 0 ∧ LotsAt S.CL L S.l i' wk ∧ WkI i' wk ∧ Ex D4 D ∧ N ≤ N0 + 1 + 3 * (i' : Int)) ⟨D4, Ll, _, _, _, _, rfl, s5, lo4, (fun j hj => absurd hj (Nat.not_lt_zero j)), Ex.refl _, by omega⟩ (fun k σ' H' hk hp' => ?_) fun σ' H' hp' => ?_
  · obtain ⟨D6, L6, N6, wk6, y5, y7, rfl, s6, lo6, wk_6, e6, hN6⟩ := hp'
    rw [Int.zero_add (k : Int)]
    show tSeq _ _ _ [some (.ref a), some (.int (0 + (i : Int))), some (.ref S.p), some (.ref S.a), some (.int (nm : Int)), some (.int (k : Int)), x6, y7, x8, x9, x10, x11, x12, x13, x14, x15] H'
    refine d_some s6 (by omega) fun ws v D7 H7 N7 hw s7 e7 hN7 hv7 => ?_
    obtain ⟨w1, w2, w3, w4, w5⟩ := subs_ok ws hw
    refine s_if2 (ne_told (v := .ref S.a) (v1 := .int ((0 : Nat) : Int)) (v2 := v) (v3 := .non) (pu_v rfl) pu_c (pu_v rfl) pu_c ?_)
    refine told_see (two := .non) (ws := ws) s7 lo6 (by omega) hv7 w2 w1 (by omega) fun q8 H8 L8 lo8 s8 e8 h8 => ?_
    refine nek s8.eD h8 (eu_lst (eu_cons eu_str (eu_cons (eu_var rfl (.int _)) eu_nil)) (Nat.le_of_ble_eq_true rfl)) (by kernel_rfl) fun D9 H9 g9 => ?_
    have s9 := s8.gr g9
    refine iff_ (ne_told3 (v := .ref S.a) (v1 := .int ((1 : Nat) : Int)) (v2 := .int (k : Int)) (d := wordsD ["wet"]) (pu_v rfl) pu_c (pu_v rfl) s9.eD (eu_tup (eu_cons eu_str eu_nil) (by decide)) fun v10 D10 H10 g10 h10 => ?_)
    have s10 := s9.gr g10
    refine told_look (ws := ["wet"]) s10 lo8 (by omega) (Nat.lt_succ_self k) (by rw [setN_same]; simp; omega) h10 ⟨by decide +kernel, by decide +kernel⟩ (by decide +kernel) fun q11 H11 L11 lo11 s11 e11 h11 => ?_
    refine nek s11.eD h11 (eu_lst (eu_cons eu_str (eu_cons eu_non eu_nil)) (by decide)) (by kernel_rfl) fun D12 H12 g12 => ?_
    have s12 := s11.gr g12
    refine iff_ ⟨D12, L11, N7, _, _, _, rfl, s12, lo11, fun j hj => ?_, (((((e6.trans e7).trans e8).trans g9.bas).trans g10.bas).trans e11).trans g12.bas, by omega⟩
    rw [setN_same]
    by_cases z : j = k
    · rw [z, setN_same]
      exact w5
    · rw [setN_ne z, setN_ne z]
      exact wk_6 j (by omega)
  · obtain ⟨D6, L6, N6, wk6, y5, y7, rfl, s6, lo6, wk_6, e6, hN6⟩ := hp'
    show tSeq _ _ _ _ _
    refine q_seq (s_if1 (ne_told2 (v := .ref S.a) (v1 := .int ((0 : Nat) : Int)) (v3 := .non) (d := wordsD ["yy"]) (pu_v rfl) pu_c s6.eD (eu_tup (eu_cons eu_str eu_nil) (by decide)) pu_c fun v7 D7 H7 g7 h7 => ?_))
    have s7 := s6.gr g7
    refine told_see (two := .non) (ws := ["yy"]) s7 lo6 (by omega) h7 ⟨by decide +kernel, by decide +kernel⟩ (by decide +kernel) (by decide) fun q8 H8 L8 lo8 s8 e8 h8 => ?_
    refine nek s8.eD h8 (eu_lst (eu_cons eu_str (eu_cons (eu_var rfl (.int _)) eu_nil)) (Nat.le_of_ble_eq_true rfl)) (by kernel_rfl) fun D9 H9 g9 => ?_
    have s9 := s8.gr g9
    refine iff_ ?_
    -- many = many + 1
    refine ⟨_, rfl, (nm : Int), 1, rfl, rfl, ?_⟩
    have e9 : Ex D4 D9 := ((e6.trans g7.bas).trans e8).trans g9.bas
    generalize ewk : setN wk6 nm (putsW ["yy"]) = wk at lo8
    have gw : ∀ j, j < nm → Good (wk j) := fun j hj => by
      rw [← ewk, setN_ne (by omega)]
      exact wk_6 j hj
    have gl : GoodL (wk nm) := by
      rw [← ewk, setN_same]
      exact good_last
    generalize enn : nm + 1 = n at lo8
    have hn : 2 ≤ n ∧ n ≤ 6 := by omega
    have g0 : Good (wk 0) := gw 0 (by omega)
    have gt : ∀ j, j < n → TextKeys (wk j) ∧ (keysW (wk j)).length < 64 := fun j hj => by
      by_cases z : j < nm
      · exact ⟨(gw j z).1, (gw j z).2.1⟩
      · have : j = nm := by omega
        rw [this]
        exact ⟨gl.1, gl.2.1⟩
    have W : WkOk n wk := ⟨fun j hj => by
      by_cases z : j < nm
      · exact (gw j z).2.2.2.1
      · have : j = nm := by omega
        rw [this]
        exact gl.2.2.2.1, g0.2.2.2.2.1, g0.2.2.2.2.2.1⟩
    have enn' : (nm : Int) + 1 = (n : Int) := by omega
    show tSeq _ _ _ [some (.ref a), some (.int (0 + (i : Int))), some (.ref S.p), some (.ref S.a), some (.int ((nm : Int) + 1)), y5, x6, y7, x8, x9, x10, x11, x12, x13, x14, x15] H9
    rw [enn']
    -- held = alone.file()
    refine d_file (D := D9) (B := join D9 L8) (n := n) (wk := wk) rfl s9.hk ex_l (join_ex s9.eD s9.eL) (lo8.ex (ex_r s9.dl)) (by omega) gt fun v10 D10 H10 g10 h10 => ?_
    have so := s9.up g10.act
    have sn := s9.file g10
    have lo10 : LotsAt S.CL D10 S.l n wk := (lo8.ex (ex_r s9.dl)).ex g10.bas
    show tSeq _ _ _ [some (.ref a), some (.int (0 + (i : Int))), some (.ref S.p), some (.ref S.a), some (.int (n : Int)), y5, some v10, y7, x8, x9, x10, x11, x12, x13, x14, x15] H10
    have gsh : ∀ j, j < n → ((keysW (wk j)).all fun s => PyData.canLay0 (.str s)) = true := fun j hj => by
      by_cases z : j < nm
      · exact (gw j z).2.2.2.2.2.2.2
      · have : j = nm := by omega
        rw [this]
        exact gl.2.2.2.2
    have shl := shaped_listed gsh
    -- for way, one, two, due in _law_doors(purse, alone, many)
    refine q_seq ⟨_, rfl, _, rfl, _, rfl, D10, S.p, N6, .ref S.a, (n : Int), rfl, sn.eD, sn.dp, sn.pu, by omega, by omega, by omega, fun v11 odd bad at_ strange D11 H11 g11 pu11 ho hb a0 a1 hs hd11 => ?_⟩
    have so11 := so.pg (g11.less so.eD so.dp) pu11
    have sn11 := sn.pg g11 pu11
    have lo11 := lo10.ex g11.bas
    have h11 := h10.ex g11.bas
    have rows := doors_ok (n := n) (wk := wk) (by omega) hn.1 ho hb a0 a1 hs W
    cases hd11 with
    | @lst qa xs _ hq hall =>
    refine ⟨qa, rfl, ⟨_, sq_of (sn11.eD _ _ hq)⟩, ?_⟩
    refine for_list (K := S.K) (a := qa) (xs := xs) (fun i' σ' H' => ∃ Dn y10 y11 y12 y13, σ' = [some (.ref a), some (.int (0 + (i : Int))), some (.ref S.p), some (.ref S.a), some (.int (n : Int)), y5, some v10, y7, x8, x9, y10, y11, y12, y13, x14, x15] ∧ SB S Dn H' noneH Lb Lc (N6 + 4) 0 0 ∧ SB S D9 H' L8 Lb Lc (N6 + 4) 0 0 ∧ Ex D11 Dn) ⟨D11, _, _, _, _, rfl, sn11, so11, Ex.refl _⟩ (fun i' σ' H' hi' hp' => ?_) (fun i' x' σ' H' hx' hp' => ?_) fun σ' H' hp' => ?_
    · obtain ⟨Dn, _, _, _, _, _, sx, _, ex⟩ := hp'
      exact sq_of (sx.eD _ _ (ex _ _ hq))
    · obtain ⟨Dn, y10, y11, y12, y13, rfl, sx, sy, ex⟩ := hp'
      obtain ⟨d, hd, dx⟩ := hall.get hx'
      obtain ⟨way, one, two, j, rfl, w5, j4, ok1, ok2, rx⟩ := rows d (List.mem_of_getElem? hd)
      cases dx with
      | @lst ra rs _ hr hrs =>
      cases hrs with
      | @cons u1 _ _ _ d1 t1 =>
      cases t1 with
      | @cons u2 _ _ _ d2 t2 =>
      cases t2 with
      | @cons u3 _ _ _ d3 t3 =>
      cases t3 with
      | @cons u4 _ _ _ d4 t4 =>
      cases t4
      cases d1
      refine ⟨ra, _, rfl, sq_of (sx.eD _ _ (ex _ _ hr)), rfl, ?_⟩
      refine ⟨_, _, rfl, _, _, rfl, _, _, rfl, _, _, rfl, rfl, ?_⟩
      show tIfS _ _ _ _ [some (.ref a), some (.int (0 + (i : Int))), some (.ref S.p), some (.ref S.a), some (.int (n : Int)), y5, some v10, y7, x8, x9, some (.int (way : Int)), some u2, some u3, some u4, x14, x15] H'
      refine s_if2 (ne_told (v := .ref S.a) (v1 := .int (way : Int)) (v2 := u2) (v3 := u3) (pu_v rfl) (pu_v rfl) (pu_v rfl) (pu_v rfl) ?_)
      refine told_x (n := n) (wk := wk) (hf := fun i => i) sx ((lotsR_at (lo11.ex ex)).ex ex_l) (by omega) w5 (d2.ex ex) (d3.ex ex) ok1 ok2 rx fun q12 H12 e12 s12 b12 h12 => ?_
      refine nek s12.eD h12 (eu_lst (eu_cons (eu_var rfl ((d4.ex ex).ex b12)) eu_nil) (Nat.le_of_ble_eq_true rfl)) ?_ fun D13 H13 g13 => ?_
      · exact err_lay j j4
      have s13 := s12.gr g13
      have ex13 := (ex.trans b12).trans g13.bas
      have sy13 := sy.up (e12.trans g13.act)
      refine iff_ (e_file (D := D13) (B := D13) (n := n) (wk := wk) rfl s13.hk (Ex.refl _) s13.eD (lo11.ex ex13) (by omega) gt fun v14 D14 H14 g14 h14 => ?_)
      refine nek g14.sub h14 (eu_var rfl ((h11.ex ex13).ex g14.bas)) shl fun D15 H15 g15 => ?_
      refine iff_ ⟨D15, _, _, _, _, rfl, (s13.gr g14).gr g15, (sy13.up g14.act).up g15.act, (ex13.trans g14.bas).trans g15.bas⟩
    · obtain ⟨Dn, y10, y11, y12, y13, rfl, _, s16, _⟩ := hp'
      show tSeq _ _ _ [some (.ref a), some (.int (0 + (i : Int))), some (.ref S.p), some (.ref S.a), some (.int (n : Int)), y5, some v10, y7, x8, x9, y10, y11, y12, y13, x14, x15] H'
      have en1 : (n : Int) - 1 = (nm : Int) := by omega
      refine q_seq (s_if2 (ne_told (v := .ref S.a) (v1 := .int ((2 : Nat) : Int)) (v2 := .int 0) (v3 := .int ((n : Int) - 1)) (pu_v rfl) pu_c pu_c (pu_sub rfl) ?_))
      rw [en1]
      refine told_one (g := nm) (ks := keysW (wk nm)) s16 lo8 enn.symm hnm.1 (by omega) gl.1 g0.2.2.1 gl.2.2.1 fun q17 H17 L17 lo17 s17 e17 h17 => ?_
      refine nek s17.eD h17 (eu_lst (eu_cons eu_str (eu_cons eu_non eu_nil)) (Nat.le_of_ble_eq_true rfl)) (by kernel_rfl) fun D18 H18 g18 => ?_
      have s18 := s17.gr g18
      obtain ⟨wk2, lr, hw2⟩ := lotsR_u lo17 hn.1
      have wet := hw2 _ g0.2.2.2.2.2.2.1
      refine iff_ (ne_toldI (v := .ref S.a) (v1 := .int ((3 : Nat) : Int)) (v2 := .str "cy") (d := linesD [(0, ["wet"])]) (pu_v rfl) pu_c pu_c s18.eD (eu_tup (eu_cons (eu_tup (eu_cons eu_int (eu_cons (eu_tup (eu_cons eu_str eu_nil) (Nat.le_of_ble_eq_true rfl)) eu_nil)) (Nat.le_of_ble_eq_true rfl)) eu_nil) (Nat.le_of_ble_eq_true rfl)) fun v19 D19 H19 g19 h19 => ?_)
      have s19 := s18.gr g19
      refine told_wc (n := n) (wk := wk2) (hf := lastH n) (ls := [(0, ["wet"])]) s19 lr (by omega) (by decide) h19 ⟨by decide +kernel, by decide +kernel⟩ (by decide +kernel) (fun l hl => by rw [List.mem_singleton.mp hl]; exact ⟨Int.le_refl 0, by show (0 : Int) < n; omega⟩) (by decide) (may_wet wet) fun q20 v20 H20 Lc2 nc2 s20 e20 => ?_
      refine neOk (s20.eD _ _ upd_same) (iff_ ?_)
      unfold tNext
      dsimp only
      show tSeq _ _ _ [some (.ref a), some (.int (0 + (i : Int))), some (.ref S.p), some (.ref S.a), some (.int (n : Int)), y5, some v10, y7, x8, x9, y10, y11, y12, y13, x14, x15] H20
      have e1n : (1 : Int) % (n : Int) = 1 := Int.emod_eq_of_lt (by decide) (by omega)
      -- for some in [..]
      refine q_seq ?_
      refine for_eu (K := S.K) (B := upd D19 q20 (.lst [.str "ok", v20])) (ds := [.tuple [.int 0, .int ((n : Int) - 1)], .tuple [.int 0, .int (1 % (n : Int)), .int ((n : Int) - 1)], .tuple [.int (1 % (n : Int)), .int 0, .int ((n : Int) - 1)]]) s20.eD (eu_lst (eu_cons (eu_tup (eu_cons eu_int (eu_cons (eu_sub rfl) eu_nil)) (Nat.le_of_ble_eq_true rfl)) (eu_cons (eu_tup (eu_cons eu_int (eu_cons (eu_mod rfl (by omega)) (eu_cons (eu_sub rfl) eu_nil))) (Nat.le_of_ble_eq_true rfl)) (eu_cons (eu_tup (eu_cons (eu_mod rfl (by omega)) (eu_cons eu_int (eu_cons (eu_sub rfl) eu_nil))) (Nat.le_of_ble_eq_true rfl)) eu_nil))) (Nat.le_of_ble_eq_true rfl)) fun qb xs2 D21 H21 g21 hq2 hall2 => ?_
      rw [e1n] at hall2
      have s21 := s20.gr g21
      refine for_list (K := S.K) (a := qb) (xs := xs2) (fun i' σ' H' => ∃ Dn z7, σ' = [some (.ref a), some (.int (0 + (i : Int))), some (.ref S.p), some (.ref S.a), some (.int (n : Int)), y5, some v10, z7, x8, x9, y10, y11, y12, y13, x14, x15] ∧ SB S Dn H' L17 Lb Lc2 (N6 + 4) (0 + 1) nc2 ∧ Ex D21 Dn) ⟨D21, _, rfl, s21, Ex.refl _⟩ (fun i' σ' H' hi' hp' => ?_) (fun i' x' σ' H' hx' hp' => ?_) fun σ' H' hp' => ?_
      · obtain ⟨Dn, _, _, sx, ex⟩ := hp'
        exact sq_of (sx.eD _ _ (ex _ _ hq2))
      · obtain ⟨Dn, z7, rfl, sx, ex⟩ := hp'
        obtain ⟨d, hd, dx⟩ := hall2.get hx'
        obtain ⟨ks, rfl, hks⟩ : ∃ ks : List Int, d = .tuple (ks.map .int) ∧ (ks = [0, (n : Int) - 1] ∨ ks = [0, 1, (n : Int) - 1] ∨ ks = [1, 0, (n : Int) - 1]) := by
          have hm := List.mem_of_getElem? hd
          simp only [List.mem_cons, List.not_mem_nil, or_false] at hm
          rcases hm with rfl | rfl | rfl
          · exact ⟨[0, (n : Int) - 1], rfl, .inl rfl⟩
          · exact ⟨[0, 1, (n : Int) - 1], rfl, .inr (.inl rfl)⟩
          · exact ⟨[1, 0, (n : Int) - 1], rfl, .inr (.inr rfl)⟩
        show tIfS _ _ _ _ [some (.ref a), some (.int (0 + (i : Int))), some (.ref S.p), some (.ref S.a), some (.int (n : Int)), y5, some v10, some x', x8, x9, y10, y11, y12, y13, x14, x15] H'
        refine s_if1 (ne_told3 (v := .ref S.a) (v1 := .int ((3 : Nat) : Int)) (v2 := .str "bo") (pu_v rfl) pu_c pu_c sx.eD (eu_bare (dx.ex ex) (by rcases hks with rfl | rfl | rfl <;> exact Nat.le_of_ble_eq_true rfl)) fun v22 D22 H22 g22 h22 => ?_)
        have s22 := sx.gr g22
        obtain ⟨okb, rx⟩ := bare_refused (wk := wk2) hn.1 hks
        refine told_x (n := n) (wk := wk2) (hf := lastH n) (j := 3) s22 (lr.ex (ex_r s22.dl)) (by omega) (by decide) (.str "bo") h22 okBo okb rx fun q23 H23 e23 s23 b23 h23 => ?_
        refine nek s23.eD h23 (eu_lst (eu_cons eu_str eu_nil) (Nat.le_of_ble_eq_true rfl)) (err_lay 3 (by decide)) fun D24 H24 g24 => ?_
        exact iff_ ⟨D24, _, rfl, s23.gr g24, ((ex.trans g22.bas).trans b23).trans g24.bas⟩
      · obtain ⟨Dn, z7, rfl, sB, exn⟩ := hp'
        have eZ : Ex D4 Dn := (((((e9.trans e17).trans g18.bas).trans g19.bas).trans e20).trans g21.bas).trans exn
        show tSeq _ _ _ [some (.ref a), some (.int (0 + (i : Int))), some (.ref S.p), some (.ref S.a), some (.int (n : Int)), y5, some v10, z7, x8, x9, y10, y11, y12, y13, x14, x15] H'
        refine d_asg (K := S.K) (H := Dn) (d := wordsD signs4) (eu_tup (eu_cons eu_str (eu_cons eu_str (eu_cons eu_str (eu_cons eu_str eu_nil)))) (Nat.le_of_ble_eq_true rfl) Dn (Ex.refl _)) sB.eD fun v25 D25 H25 g25 h25 => ?_
        have s25 := sB.gr g25
        show tSeq _ _ _ [some (.ref a), some (.int (0 + (i : Int))), some (.ref S.p), some (.ref S.a), some (.int (n : Int)), y5, some v10, z7, some v25, x9, y10, y11, y12, y13, x14, x15] H25
        -- Hand(..).see(all_signs), _law_made(..)
        refine q_seq (s_if2 (ne_see (K := S.K) (ws := signs4) s25.eD (eu_tup (eu_cons eu_str (eu_cons eu_str eu_nil)) (Nat.le_of_ble_eq_true rfl)) rfl h25 signs_is.2.1 signs_is.1 signs_is.2.2 fun H26 e26 => ?_))
        have s26 := s25.up e26
        refine iff_ (ne_made (K := S.K) (d1 := .tuple (anaPq.map .str)) (d2 := .str "pq") s26.eD (eu_tup (eu_cons eu_str (eu_cons eu_str eu_nil)) (Nat.le_of_ble_eq_true rfl)) eu_str fun u1 u2 D27 H27 g27 hu1 hu2 => ?_)
        have s27 := s26.gr g27
        refine ⟨D27, u1, u2, _, _, rfl, s27.eD, hu1, hu2, okPq.1, okPq.2, .inr (.inr ⟨"pq", anaPq, rfl, rfl, handPq.1, handPq.2.1, handPq.2.2.1, handPq.2.2.2.1, handPq.2.2.2.2, fun q28 H28 hq28 e28 h28 => ?_⟩)⟩
        have s28 := s27.lst e28 hq28 h28
        refine nek s28.eD (.lst upd_same (.cons (.bl _) (.cons (.bl _) .nil))) (eu_lst (eu_cons eu_bl (eu_cons eu_bl eu_nil)) (Nat.le_of_ble_eq_true rfl)) (by decide +kernel) fun D29 H29 g29 => ?_
        have s29 := s28.gr g29
        refine iff_ ?_
        unfold tNext
        dsimp only
        -- alone.kept("bo"), the letter to bo
        refine q_seq (s_if2 (ne_kept s29 rfl fun H30 e30 => ?_))
        have s30 := s29.up e30
        refine iff_ (ne_told3 (v := .ref S.a) (v1 := .int ((3 : Nat) : Int)) (v2 := .str "bo") (d := linesD []) (pu_v rfl) pu_c pu_c s30.eD (eu_tup eu_nil (Nat.le_of_ble_eq_true rfl)) fun v31 D31 H31 g31 h31 => ?_)
        have s31 := s30.gr g31
        refine told_wb (n := n) (wk := wk2) (hf := lastH n) (ls := []) s31 lr (by omega) h31 ⟨by decide +kernel, by decide +kernel⟩ (by decide +kernel) (fun l hl => nomatch hl) (by decide) rfl fun q32 D32 H32 b32 e32 dp32 pu32 h32 => ?_
        refine nek e32 h32 (eu_lst (eu_cons eu_str (eu_cons (eu_tup (eu_cons eu_str (eu_cons eu_str (eu_cons eu_int (eu_cons (eu_tup eu_nil (Nat.le_of_ble_eq_true rfl)) (eu_cons (eu_tup eu_nil (Nat.le_of_ble_eq_true rfl)) eu_nil))))) (Nat.le_of_ble_eq_true rfl)) eu_nil)) (Nat.le_of_ble_eq_true rfl)) (by decide +kernel) fun D33 H33 g33 => ?_
        have dp33 : D33 S.p = none := g33.new _ dp32 pu32.nn
        have pu33 := pu32.ex g33.act
        have eY : Ex D4 D33 := ((((((eZ.trans g25.bas).trans g27.bas).trans (Ex.new (fresh_back s27.eD hq28))).trans g29.bas).trans g31.bas).trans b32).trans g33.bas
        refine iff_ ?_
        unfold tNext
        dsimp only
        -- bad = [..]
        refine d_asg (K := S.K) (H := D33) (d := .list badHs) (eu_lst (eu_cons (eu_tup (eu_cons eu_str eu_nil) (Nat.le_of_ble_eq_true rfl)) (eu_cons (eu_tup (eu_cons eu_str (eu_cons eu_str eu_nil)) (Nat.le_of_ble_eq_true rfl)) (eu_cons (eu_lst (eu_cons eu_str (eu_cons eu_str eu_nil)) (Nat.le_of_ble_eq_true rfl)) (eu_cons eu_non (eu_cons (eu_tup (eu_cons eu_str (eu_cons eu_str eu_nil)) (Nat.le_of_ble_eq_true rfl)) (eu_cons (eu_tup (eu_cons eu_str (eu_cons eu_str (eu_cons eu_str (eu_cons eu_str (eu_cons eu_str (eu_cons eu_str eu_nil)))))) (Nat.le_of_ble_eq_true rfl)) eu_nil)))))) (Nat.le_of_ble_eq_true rfl) D33 (Ex.refl _)) g33.sub fun v34 D34 H34 g34 h34 => ?_
        have dp34 : D34 S.p = none := g34.new _ dp33 pu33.nn
        have pu34 := pu33.ex g34.act
        show tSeq _ _ _ [some (.ref a), some (.int (0 + (i : Int))), some (.ref S.p), some (.ref S.a), some (.int (n : Int)), y5, some v10, z7, some v25, some v34, y10, y11, y12, y13, x14, x15] H34
        refine q_seq (s_if1 (ne_made1 (K := S.K) (ds := badHs) (ed_var rfl h34) g34.sub dp34 rfl rfl pu34 (by omega) (Nat.le_of_ble_eq_true rfl) (Nat.le_of_ble_eq_true rfl) fun v35 d35 D35 H35 g35 pu35 h35 m35 => ?_))
        refine ⟨D35, v35, .str "ana", d35, _, rfl, g35.sub, h35, .str _, (badHs_is _ m35).2, okA, .inl ⟨(badHs_is _ m35).1, fun q36 H36 hq36 e36 h36 => ?_⟩⟩
        have n36 : D35 q36 = none := fresh_back g35.sub hq36
        have p36 : q36 ≠ S.p := fun z => pu35.nn (z ▸ hq36)
        refine nek (B := upd D35 q36 (.lst [.bl true, .bl false])) (ex_lst g35.sub e36 hq36 h36) (.lst upd_same (.cons (.bl _) (.cons (.bl _) .nil))) (eu_lst (eu_cons eu_bl (eu_cons eu_bl eu_nil)) (Nat.le_of_ble_eq_true rfl)) (by decide +kernel) fun D37 H37 g37 => ?_
        have pu36 := pu35.ex e36
        have dp37 : D37 S.p = none := g37.new _ (by rw [upd_ne p36.symm]; exact g35.out dp34 pu34) pu36.nn
        have pu37 := pu36.ex g37.act
        refine iff_ ?_
        unfold tNext
        dsimp only
        refine s_if1 (ne_made2 (K := S.K) (d1 := .tuple ((["ana", "bo"] : List Str).map .str)) (ds := noHs) (eu_tup (eu_cons eu_str (eu_cons eu_str eu_nil)) (Nat.le_of_ble_eq_true rfl)) (eu_lst (eu_cons eu_str (eu_cons eu_non (eu_cons eu_int (eu_cons (eu_tup (eu_cons eu_str eu_nil) (Nat.le_of_ble_eq_true rfl)) eu_nil)))) (Nat.le_of_ble_eq_true rfl)) g37.sub dp37 rfl rfl pu37 (by omega) (Nat.le_of_ble_eq_true rfl) (Nat.le_of_ble_eq_true rfl) fun v38 v39 d39 D39 H39 g39 h38 h39 m39 => ?_)
        refine ⟨D39, v38, v39, _, d39, rfl, g39.sub, h38, h39, ok2, (noHs_is _ m39).2, .inr (.inl ⟨_, rfl, hand2.1, (noHs_is _ m39).1, fun q40 H40 hq40 e40 h40 => ?_⟩)⟩
        refine nek (B := upd D39 q40 (.lst [.bl false, .bl true])) (ex_lst g39.sub e40 hq40 h40) (.lst upd_same (.cons (.bl _) (.cons (.bl _) .nil))) (eu_lst (eu_cons eu_bl (eu_cons eu_bl eu_nil)) (Nat.le_of_ble_eq_true rfl)) (by decide +kernel) fun D41 H41 g41 => ?_
        refine iff_ ⟨⟨_, rfl, rfl⟩, ?_⟩
        have eX : Ex D4 D41 := (((((eY.trans g34.bas).trans g35.bas).trans (Ex.new n36)).trans g37.bas).trans g39.bas).trans ((Ex.new (fresh_back g39.sub hq40)).trans g41.bas)
        exact sqx g41.sub (sqx eX hD4)
end
end Sg
end
section
set_option maxRecDepth 100000
set_option maxHeartbeats 4000000
namespace Sg
open PySem PySem.Spec PyProof.Rows L2 Evl
theorem kit_cl {K : PySem.W.Frag} {S : Addr} {t : Value} {b : Bool} (h2 : PySem.W.isClsIn K S = true) (h3 : PySem.W.typeIn K (.ref S) = some (.type "type")) (h4 : PySem.W.subIn K t (.ref S) = some b) : PySem.W.kitCls K t (.ref S) = some b := by
  have e2 : ((PySem.W.clsIn K S).isSome && PySem.W.typeIn K (.ref S) == some (.type "type")) = true := by
    have h2' : (PySem.W.clsIn K S).isSome = true := h2
    rw [h2', h3]
    rfl
  show (if _ = true then PySem.W.subIn K t (.ref S) else none) = some b
  rw [if_pos e2, h4]
theorem exm_cl {K : PySem.W.Frag} {S : Addr} {t : Value} {b : Bool} (h1 : PySem.W.subIn K (.ref S) (.type "BaseException") = some true) (h2 : PySem.W.isClsIn K S = true) (h3 : PySem.W.typeIn K (.ref S) = some (.type "type")) (h4 : PySem.W.subIn K t (.ref S) = some b) : PySem.W.exmOne K t (.ref S) = some b := by
  unfold PySem.W.exmOne
  rw [if_pos (by rw [h1]; rfl)]
  exact kit_cl h2 h3 h4
theorem kit_at {K : PySem.W.Frag} {S : Addr} {t : Value} {b : Bool} (h2 : PySem.W.isClsIn K S = true) (h3 : PySem.W.typeIn K (.ref S) = some (.type "type")) (hs : PySem.W.subIn K (.ref S) (.ref S) = some true) (h4 : PySem.W.subIn K t (.ref S) = some b) : PySem.W.kitOne K t (.ref S) = some b := by
  unfold PySem.W.kitOne
  by_cases e : (t == Value.ref S) = true
  · rw [if_pos e]
    rw [eq_of_beq e, hs] at h4
    exact h4
  · rw [if_neg e]
    exact kit_cl h2 h3 h4
theorem all_mk {l : PySem.W.OpenLaw} {w : World} {K : PySem.W.Frag} {h : Heap} {mg : Str → Option Value} {fa C CL CK CS T0 C_NoCard C_NoWords C_NoHand C_NoLines C_NoHands C_SaidError f0 f1 f2 f3 f4 f5 f6 f7 f8 f9 f10 f11 f12 f13 f14 f15 f16 f17 f18 f19 f20 f21 f22 f23 f24 f25 f26 f27 f28 f29 f30 f31 f32 f33 f34 f35 f36 f37 f38 f39 f40 f41 f42 f43 f44 f45 f46 f47 f48 f49 f50 f51 f52 : Addr} {odT od0 an0 od1 an1 od2 an2 od3 an3 od4 an4 od5 an5 od6 an6 od7 an7 od8 an8 od9 an9 od10 an10 od11 an11 od12 an12 od13 an13 od14 an14 od15 an15 od16 an16 od17 an17 od18 an18 od19 an19 od20 an20 od21 an21 od22 an22 od23 an23 od24 an24 od25 an25 od26 an26 od27 an27 od28 an28 od29 an29 od30 an30 od31 an31 od32 an32 od33 an33 od34 an34 od35 an35 od36 an36 od37 an37 od38 an38 od39 an39 od40 an40 od41 an41 od42 an42 od43 an43 od44 an44 od45 an45 od46 an46 od47 an47 od48 an48 od49 an49 od50 an50 od51 an51 od52 an52 : Option Addr} {slT sl0 sl1 sl2 sl3 sl4 sl5 sl6 sl7 sl8 sl9 sl10 sl11 sl12 sl13 sl14 sl15 sl16 sl17 sl18 sl19 sl20 sl21 sl22 sl23 sl24 sl25 sl26 sl27 sl28 sl29 sl30 sl31 sl32 sl33 sl34 sl35 sl36 sl37 sl38 sl39 sl40 sl41 sl42 sl43 sl44 sl45 sl46 sl47 sl48 sl49 sl50 sl51 sl52 : Array (Option Value)} {ocT oc0 kV0 dc0 pm0 cd0 ct0 oc1 kV1 dc1 pm1 cd1 ct1 oc2 kV2 dc2 pm2 cd2 ct2 oc3 kV3 dc3 pm3 cd3 ct3 oc4 kV4 dc4 pm4 cd4 ct4 oc5 kV5 dc5 pm5 cd5 ct5 oc6 kV6 dc6 pm6 cd6 ct6 oc7 kV7 dc7 pm7 cd7 ct7 oc8 kV8 dc8 pm8 cd8 ct8 oc9 kV9 dc9 pm9 cd9 ct9 oc10 kV10 dc10 pm10 cd10 ct10 oc11 kV11 dc11 pm11 cd11 ct11 oc12 kV12 dc12 pm12 cd12 ct12 oc13 kV13 dc13 pm13 cd13 ct13 oc14 kV14 dc14 pm14 cd14 ct14 oc15 kV15 dc15 pm15 cd15 ct15 oc16 kV16 dc16 pm16 cd16 ct16 oc17 kV17 dc17 pm17 cd17 ct17 oc18 kV18 dc18 pm18 cd18 ct18 oc19 kV19 dc19 pm19 cd19 ct19 oc20 kV20 dc20 pm20 cd20 ct20 oc21 kV21 dc21 pm21 cd21 ct21 oc22 kV22 dc22 pm22 cd22 ct22 oc23 kV23 dc23 pm23 cd23 ct23 oc24 kV24 dc24 pm24 cd24 ct24 oc25 kV25 dc25 pm25 cd25 ct25 oc26 kV26 dc26 pm26 cd26 ct26 oc27 kV27 dc27 pm27 cd27 ct27 oc28 kV28 dc28 pm28 cd28 ct28 oc29 kV29 dc29 pm29 cd29 ct29 oc30 kV30 dc30 pm30 cd30 ct30 oc31 kV31 dc31 pm31 cd31 ct31 oc32 kV32 dc32 pm32 cd32 ct32 oc33 kV33 dc33 pm33 cd33 ct33 oc34 kV34 dc34 pm34 cd34 ct34 oc35 kV35 dc35 pm35 cd35 ct35 oc36 kV36 dc36 pm36 cd36 ct36 oc37 kV37 dc37 pm37 cd37 ct37 oc38 kV38 dc38 pm38 cd38 ct38 oc39 kV39 dc39 pm39 cd39 ct39 oc40 kV40 dc40 pm40 cd40 ct40 oc41 kV41 dc41 pm41 cd41 ct41 oc42 kV42 dc42 pm42 cd42 ct42 oc43 kV43 dc43 pm43 cd43 ct43 oc44 kV44 dc44 pm44 cd44 ct44 oc45 kV45 dc45 pm45 cd45 ct45 oc46 kV46 dc46 pm46 cd46 ct46 oc47 kV47 dc47 pm47 cd47 ct47 oc48 kV48 dc48 pm48 cd48 ct48 oc49 kV49 dc49 pm49 cd49 ct49 oc50 kV50 dc50 pm50 cd50 ct50 oc51 kV51 dc51 pm51 cd51 ct51 oc52 kV52 dc52 pm52 cd52 ct52 : Value} {tkT nT tS tLONGEST tFEWEST_HANDS tMOST_HANDS : Nat} (X : K.In h) (G : h.Ns mainGlobals mg) (hfa : mg "law" = some (.ref fa))
    (aCL : PySem.W.nsIn K mainGlobals "Lots" = some (some (.ref CL)))
    (aCS : PySem.W.nsIn K mainGlobals "Sheet" = some (some (.ref CS)))
    (aCK : PySem.W.nsIn K mainGlobals "Keeping" = some (some (.ref CK)))
    (aC : PySem.W.nsIn K mainGlobals "Hand" = some (some (.ref C)))
    (aENoCard : PySem.W.nsIn K mainGlobals "NoCard" = some (some (.ref C_NoCard)))
    (aENoWords : PySem.W.nsIn K mainGlobals "NoWords" = some (some (.ref C_NoWords)))
    (aENoHand : PySem.W.nsIn K mainGlobals "NoHand" = some (some (.ref C_NoHand)))
    (aENoLines : PySem.W.nsIn K mainGlobals "NoLines" = some (some (.ref C_NoLines)))
    (aENoHands : PySem.W.nsIn K mainGlobals "NoHands" = some (some (.ref C_NoHands)))
    (aESaidError : PySem.W.nsIn K mainGlobals "SaidError" = some (some (.ref C_SaidError)))
    (a0 : PySem.W.nsIn K mainGlobals "is_whole" = some (some (.ref f0)))
    (l0 : K.lookup f0 = some ⟨oc0, od0, .func (PySem.W.fnOf "is_whole" "is_whole" (defArgs s_is_whole) (defBody s_is_whole) (defScope s_is_whole) (.ref T0) kV0 dc0 pm0 an0 cd0 ct0), sl0⟩)
    (lT : K.lookup T0 = some ⟨ocT, odT, .seq #[.int 0 tkT] nT, slT⟩)
    (c0 : PySem.W.codeIn K cd0 "is_whole" = true)
    (k0 : PySem.W.keepIn K (.ref f0) = true)
    (a1 : PySem.W.nsIn K mainGlobals "is_word" = some (some (.ref f1)))
    (l1 : K.lookup f1 = some ⟨oc1, od1, .func (PySem.W.fnOf "is_word" "is_word" (defArgs s_is_word) (defBody s_is_word) (defScope s_is_word) .none kV1 dc1 pm1 an1 cd1 ct1), sl1⟩)
    (c1 : PySem.W.codeIn K cd1 "is_word" = true)
    (k1 : PySem.W.keepIn K (.ref f1) = true)
    (a2 : PySem.W.nsIn K mainGlobals "is_rising" = some (some (.ref f2)))
    (l2 : K.lookup f2 = some ⟨oc2, od2, .func (PySem.W.fnOf "is_rising" "is_rising" (defArgs s_is_rising) (defBody s_is_rising) (defScope s_is_rising) .none kV2 dc2 pm2 an2 cd2 ct2), sl2⟩)
    (c2 : PySem.W.codeIn K cd2 "is_rising" = true)
    (k2 : PySem.W.keepIn K (.ref f2) = true)
    (a3 : PySem.W.nsIn K mainGlobals "is_words" = some (some (.ref f3)))
    (l3 : K.lookup f3 = some ⟨oc3, od3, .func (PySem.W.fnOf "is_words" "is_words" (defArgs s_is_words) (defBody s_is_words) (defScope s_is_words) .none kV3 dc3 pm3 an3 cd3 ct3), sl3⟩)
    (c3 : PySem.W.codeIn K cd3 "is_words" = true)
    (k3 : PySem.W.keepIn K (.ref f3) = true)
    (a4 : PySem.W.nsIn K mainGlobals "are_hands" = some (some (.ref f4)))
    (l4 : K.lookup f4 = some ⟨oc4, od4, .func (PySem.W.fnOf "are_hands" "are_hands" (defArgs s_are_hands) (defBody s_are_hands) (defScope s_are_hands) .none kV4 dc4 pm4 an4 cd4 ct4), sl4⟩)
    (c4 : PySem.W.codeIn K cd4 "are_hands" = true)
    (k4 : PySem.W.keepIn K (.ref f4) = true)
    (a5 : PySem.W.nsIn K mainGlobals "is_row" = some (some (.ref f5)))
    (l5 : K.lookup f5 = some ⟨oc5, od5, .func (PySem.W.fnOf "is_row" "is_row" (defArgs s_is_row) (defBody s_is_row) (defScope s_is_row) .none kV5 dc5 pm5 an5 cd5 ct5), sl5⟩)
    (c5 : PySem.W.codeIn K cd5 "is_row" = true)
    (k5 : PySem.W.keepIn K (.ref f5) = true)
    (a6 : PySem.W.nsIn K mainGlobals "is_line" = some (some (.ref f6)))
    (l6 : K.lookup f6 = some ⟨oc6, od6, .func (PySem.W.fnOf "is_line" "is_line" (defArgs s_is_line) (defBody s_is_line) (defScope s_is_line) .none kV6 dc6 pm6 an6 cd6 ct6), sl6⟩)
    (c6 : PySem.W.codeIn K cd6 "is_line" = true)
    (k6 : PySem.W.keepIn K (.ref f6) = true)
    (a7 : PySem.W.nsIn K mainGlobals "are_lines" = some (some (.ref f7)))
    (l7 : K.lookup f7 = some ⟨oc7, od7, .func (PySem.W.fnOf "are_lines" "are_lines" (defArgs s_are_lines) (defBody s_are_lines) (defScope s_are_lines) .none kV7 dc7 pm7 an7 cd7 ct7), sl7⟩)
    (c7 : PySem.W.codeIn K cd7 "are_lines" = true)
    (k7 : PySem.W.keepIn K (.ref f7) = true)
    (a8 : PySem.W.nsIn K mainGlobals "masks_of" = some (some (.ref f8)))
    (l8 : K.lookup f8 = some ⟨oc8, od8, .func (PySem.W.fnOf "masks_of" "masks_of" (defArgs s_masks_of) (defBody s_masks_of) (defScope s_masks_of) .none kV8 dc8 pm8 an8 cd8 ct8), sl8⟩)
    (c8 : PySem.W.codeIn K cd8 "masks_of" = true)
    (k8 : PySem.W.keepIn K (.ref f8) = true)
    (a9 : PySem.W.nsIn K mainGlobals "least_safe" = some (some (.ref f9)))
    (l9 : K.lookup f9 = some ⟨oc9, od9, .func (PySem.W.fnOf "least_safe" "least_safe" (defArgs s_least_safe) (defBody s_least_safe) (defScope s_least_safe) .none kV9 dc9 pm9 an9 cd9 ct9), sl9⟩)
    (c9 : PySem.W.codeIn K cd9 "least_safe" = true)
    (k9 : PySem.W.keepIn K (.ref f9) = true)
    (a10 : PySem.W.nsIn K mainGlobals "name_in" = some (some (.ref f10)))
    (l10 : K.lookup f10 = some ⟨oc10, od10, .func (PySem.W.fnOf "name_in" "name_in" (defArgs s_name_in) (defBody s_name_in) (defScope s_name_in) .none kV10 dc10 pm10 an10 cd10 ct10), sl10⟩)
    (c10 : PySem.W.codeIn K cd10 "name_in" = true)
    (k10 : PySem.W.keepIn K (.ref f10) = true)
    (a11 : PySem.W.nsIn K mainGlobals "lots_of" = some (some (.ref f11)))
    (l11 : K.lookup f11 = some ⟨oc11, od11, .func (PySem.W.fnOf "lots_of" "lots_of" (defArgs s_lots_of) (defBody s_lots_of) (defScope s_lots_of) .none kV11 dc11 pm11 an11 cd11 ct11), sl11⟩)
    (c11 : PySem.W.codeIn K cd11 "lots_of" = true)
    (k11 : PySem.W.keepIn K (.ref f11) = true)
    (a12 : PySem.W.nsIn K mainGlobals "_law_at" = some (some (.ref f12)))
    (l12 : K.lookup f12 = some ⟨oc12, od12, .func (PySem.W.fnOf "_law_at" "_law_at" (defArgs s__law_at) (defBody s__law_at) (defScope s__law_at) .none kV12 dc12 pm12 an12 cd12 ct12), sl12⟩)
    (c12 : PySem.W.codeIn K cd12 "_law_at" = true)
    (k12 : PySem.W.keepIn K (.ref f12) = true)
    (a13 : PySem.W.nsIn K mainGlobals "_law_mixed" = some (some (.ref f13)))
    (l13 : K.lookup f13 = some ⟨oc13, od13, .func (PySem.W.fnOf "_law_mixed" "_law_mixed" (defArgs s__law_mixed) (defBody s__law_mixed) (defScope s__law_mixed) .none kV13 dc13 pm13 an13 cd13 ct13), sl13⟩)
    (c13 : PySem.W.codeIn K cd13 "_law_mixed" = true)
    (k13 : PySem.W.keepIn K (.ref f13) = true)
    (a14 : PySem.W.nsIn K mainGlobals "_law_purse" = some (some (.ref f14)))
    (l14 : K.lookup f14 = some ⟨oc14, od14, .func (PySem.W.fnOf "_law_purse" "_law_purse" (defArgs s__law_purse) (defBody s__law_purse) (defScope s__law_purse) .none kV14 dc14 pm14 an14 cd14 ct14), sl14⟩)
    (c14 : PySem.W.codeIn K cd14 "_law_purse" = true)
    (k14 : PySem.W.keepIn K (.ref f14) = true)
    (a15 : PySem.W.nsIn K mainGlobals "_law_draw" = some (some (.ref f15)))
    (l15 : K.lookup f15 = some ⟨oc15, od15, .func (PySem.W.fnOf "_law_draw" "_law_draw" (defArgs s__law_draw) (defBody s__law_draw) (defScope s__law_draw) .none kV15 dc15 pm15 an15 cd15 ct15), sl15⟩)
    (c15 : PySem.W.codeIn K cd15 "_law_draw" = true)
    (k15 : PySem.W.keepIn K (.ref f15) = true)
    (a16 : PySem.W.nsIn K mainGlobals "_law_told" = some (some (.ref f16)))
    (l16 : K.lookup f16 = some ⟨oc16, od16, .func (PySem.W.fnOf "_law_told" "_law_told" (defArgs s__law_told) (defBody s__law_told) (defScope s__law_told) .none kV16 dc16 pm16 an16 cd16 ct16), sl16⟩)
    (c16 : PySem.W.codeIn K cd16 "_law_told" = true)
    (k16 : PySem.W.keepIn K (.ref f16) = true)
    (a17 : PySem.W.nsIn K mainGlobals "_law_made" = some (some (.ref f17)))
    (l17 : K.lookup f17 = some ⟨oc17, od17, .func (PySem.W.fnOf "_law_made" "_law_made" (defArgs s__law_made) (defBody s__law_made) (defScope s__law_made) .none kV17 dc17 pm17 an17 cd17 ct17), sl17⟩)
    (c17 : PySem.W.codeIn K cd17 "_law_made" = true)
    (k17 : PySem.W.keepIn K (.ref f17) = true)
    (a18 : PySem.W.nsIn K mainGlobals "_law_bad_words" = some (some (.ref f18)))
    (l18 : K.lookup f18 = some ⟨oc18, od18, .func (PySem.W.fnOf "_law_bad_words" "_law_bad_words" (defArgs s__law_bad_words) (defBody s__law_bad_words) (defScope s__law_bad_words) .none kV18 dc18 pm18 an18 cd18 ct18), sl18⟩)
    (c18 : PySem.W.codeIn K cd18 "_law_bad_words" = true)
    (k18 : PySem.W.keepIn K (.ref f18) = true)
    (a19 : PySem.W.nsIn K mainGlobals "_law_doors" = some (some (.ref f19)))
    (l19 : K.lookup f19 = some ⟨oc19, od19, .func (PySem.W.fnOf "_law_doors" "_law_doors" (defArgs s__law_doors) (defBody s__law_doors) (defScope s__law_doors) .none kV19 dc19 pm19 an19 cd19 ct19), sl19⟩)
    (c19 : PySem.W.codeIn K cd19 "_law_doors" = true)
    (k19 : PySem.W.keepIn K (.ref f19) = true)
    (a20 : PySem.W.nsIn K mainGlobals "law" = some (some (.ref f20)))
    (l20 : K.lookup f20 = some ⟨oc20, od20, .func (PySem.W.fnOf "law" "law" (defArgs s_law) (defBody s_law) (defScope s_law) .none kV20 dc20 pm20 an20 cd20 ct20), sl20⟩)
    (c20 : PySem.W.codeIn K cd20 "law" = true)
    (k20 : PySem.W.keepIn K (.ref f20) = true)
    (a21 : PySem.W.findIn K (.ref CL) "__init__" = some (some (.ref f21)))
    (i21 : PySem.W.isFn K (.ref f21) = true)
    (l21 : K.lookup f21 = some ⟨oc21, od21, .func (PySem.W.fnOf "__init__" "Lots.__init__" (defArgs s_Lots___init__) (defBody s_Lots___init__) (defScope s_Lots___init__) .none kV21 dc21 pm21 an21 cd21 ct21), sl21⟩)
    (c21 : PySem.W.codeIn K cd21 "Lots.__init__" = true)
    (k21 : PySem.W.keepIn K (.ref f21) = true)
    (a22 : PySem.W.findIn K (.ref CL) "new" = some (some (.ref f22)))
    (i22 : PySem.W.isFn K (.ref f22) = true)
    (l22 : K.lookup f22 = some ⟨oc22, od22, .func (PySem.W.fnOf "new" "Lots.new" (defArgs s_Lots_new) (defBody s_Lots_new) (defScope s_Lots_new) .none kV22 dc22 pm22 an22 cd22 ct22), sl22⟩)
    (c22 : PySem.W.codeIn K cd22 "Lots.new" = true)
    (k22 : PySem.W.keepIn K (.ref f22) = true)
    (a23 : PySem.W.findIn K (.ref CL) "has" = some (some (.ref f23)))
    (i23 : PySem.W.isFn K (.ref f23) = true)
    (l23 : K.lookup f23 = some ⟨oc23, od23, .func (PySem.W.fnOf "has" "Lots.has" (defArgs s_Lots_has) (defBody s_Lots_has) (defScope s_Lots_has) .none kV23 dc23 pm23 an23 cd23 ct23), sl23⟩)
    (c23 : PySem.W.codeIn K cd23 "Lots.has" = true)
    (k23 : PySem.W.keepIn K (.ref f23) = true)
    (a24 : PySem.W.findIn K (.ref CL) "has_all" = some (some (.ref f24)))
    (i24 : PySem.W.isFn K (.ref f24) = true)
    (l24 : K.lookup f24 = some ⟨oc24, od24, .func (PySem.W.fnOf "has_all" "Lots.has_all" (defArgs s_Lots_has_all) (defBody s_Lots_has_all) (defScope s_Lots_has_all) .none kV24 dc24 pm24 an24 cd24 ct24), sl24⟩)
    (c24 : PySem.W.codeIn K cd24 "Lots.has_all" = true)
    (k24 : PySem.W.keepIn K (.ref f24) = true)
    (a25 : PySem.W.findIn K (.ref CL) "may_stand" = some (some (.ref f25)))
    (i25 : PySem.W.isFn K (.ref f25) = true)
    (l25 : K.lookup f25 = some ⟨oc25, od25, .func (PySem.W.fnOf "may_stand" "Lots.may_stand" (defArgs s_Lots_may_stand) (defBody s_Lots_may_stand) (defScope s_Lots_may_stand) .none kV25 dc25 pm25 an25 cd25 ct25), sl25⟩)
    (c25 : PySem.W.codeIn K cd25 "Lots.may_stand" = true)
    (k25 : PySem.W.keepIn K (.ref f25) = true)
    (a26 : PySem.W.findIn K (.ref CL) "head" = some (some (.ref f26)))
    (i26 : PySem.W.isFn K (.ref f26) = true)
    (l26 : K.lookup f26 = some ⟨oc26, od26, .func (PySem.W.fnOf "head" "Lots.head" (defArgs s_Lots_head) (defBody s_Lots_head) (defScope s_Lots_head) .none kV26 dc26 pm26 an26 cd26 ct26), sl26⟩)
    (c26 : PySem.W.codeIn K cd26 "Lots.head" = true)
    (k26 : PySem.W.keepIn K (.ref f26) = true)
    (a27 : PySem.W.findIn K (.ref CL) "unknown" = some (some (.ref f27)))
    (i27 : PySem.W.isFn K (.ref f27) = true)
    (l27 : K.lookup f27 = some ⟨oc27, od27, .func (PySem.W.fnOf "unknown" "Lots.unknown" (defArgs s_Lots_unknown) (defBody s_Lots_unknown) (defScope s_Lots_unknown) .none kV27 dc27 pm27 an27 cd27 ct27), sl27⟩)
    (c27 : PySem.W.codeIn K cd27 "Lots.unknown" = true)
    (k27 : PySem.W.keepIn K (.ref f27) = true)
    (a28 : PySem.W.findIn K (.ref CL) "learn" = some (some (.ref f28)))
    (i28 : PySem.W.isFn K (.ref f28) = true)
    (l28 : K.lookup f28 = some ⟨oc28, od28, .func (PySem.W.fnOf "learn" "Lots.learn" (defArgs s_Lots_learn) (defBody s_Lots_learn) (defScope s_Lots_learn) .none kV28 dc28 pm28 an28 cd28 ct28), sl28⟩)
    (c28 : PySem.W.codeIn K cd28 "Lots.learn" = true)
    (k28 : PySem.W.keepIn K (.ref f28) = true)
    (a29 : PySem.W.findIn K (.ref CL) "unite" = some (some (.ref f29)))
    (i29 : PySem.W.isFn K (.ref f29) = true)
    (l29 : K.lookup f29 = some ⟨oc29, od29, .func (PySem.W.fnOf "unite" "Lots.unite" (defArgs s_Lots_unite) (defBody s_Lots_unite) (defScope s_Lots_unite) .none kV29 dc29 pm29 an29 cd29 ct29), sl29⟩)
    (c29 : PySem.W.codeIn K cd29 "Lots.unite" = true)
    (k29 : PySem.W.keepIn K (.ref f29) = true)
    (a30 : PySem.W.findIn K (.ref CL) "listed" = some (some (.ref f30)))
    (i30 : PySem.W.isFn K (.ref f30) = true)
    (l30 : K.lookup f30 = some ⟨oc30, od30, .func (PySem.W.fnOf "listed" "Lots.listed" (defArgs s_Lots_listed) (defBody s_Lots_listed) (defScope s_Lots_listed) .none kV30 dc30 pm30 an30 cd30 ct30), sl30⟩)
    (c30 : PySem.W.codeIn K cd30 "Lots.listed" = true)
    (k30 : PySem.W.keepIn K (.ref f30) = true)
    (a31 : PySem.W.findIn K (.ref CS) "__init__" = some (some (.ref f31)))
    (i31 : PySem.W.isFn K (.ref f31) = true)
    (l31 : K.lookup f31 = some ⟨oc31, od31, .func (PySem.W.fnOf "__init__" "Sheet.__init__" (defArgs s_Sheet___init__) (defBody s_Sheet___init__) (defScope s_Sheet___init__) .none kV31 dc31 pm31 an31 cd31 ct31), sl31⟩)
    (c31 : PySem.W.codeIn K cd31 "Sheet.__init__" = true)
    (k31 : PySem.W.keepIn K (.ref f31) = true)
    (a32 : PySem.W.findIn K (.ref CK) "__init__" = some (some (.ref f32)))
    (i32 : PySem.W.isFn K (.ref f32) = true)
    (l32 : K.lookup f32 = some ⟨oc32, od32, .func (PySem.W.fnOf "__init__" "Keeping.__init__" (defArgs s_Keeping___init__) (defBody s_Keeping___init__) (defScope s_Keeping___init__) .none kV32 dc32 pm32 an32 cd32 ct32), sl32⟩)
    (c32 : PySem.W.codeIn K cd32 "Keeping.__init__" = true)
    (k32 : PySem.W.keepIn K (.ref f32) = true)
    (a33 : PySem.W.findIn K (.ref CK) "kept_numbers" = some (some (.ref f33)))
    (i33 : PySem.W.isFn K (.ref f33) = true)
    (l33 : K.lookup f33 = some ⟨oc33, od33, .func (PySem.W.fnOf "kept_numbers" "Keeping.kept_numbers" (defArgs s_Keeping_kept_numbers) (defBody s_Keeping_kept_numbers) (defScope s_Keeping_kept_numbers) .none kV33 dc33 pm33 an33 cd33 ct33), sl33⟩)
    (c33 : PySem.W.codeIn K cd33 "Keeping.kept_numbers" = true)
    (k33 : PySem.W.keepIn K (.ref f33) = true)
    (a34 : PySem.W.findIn K (.ref CK) "read_numbers" = some (some (.ref f34)))
    (i34 : PySem.W.isFn K (.ref f34) = true)
    (l34 : K.lookup f34 = some ⟨oc34, od34, .func (PySem.W.fnOf "read_numbers" "Keeping.read_numbers" (defArgs s_Keeping_read_numbers) (defBody s_Keeping_read_numbers) (defScope s_Keeping_read_numbers) .none kV34 dc34 pm34 an34 cd34 ct34), sl34⟩)
    (c34 : PySem.W.codeIn K cd34 "Keeping.read_numbers" = true)
    (k34 : PySem.W.keepIn K (.ref f34) = true)
    (a35 : PySem.W.findIn K (.ref CK) "told_by" = some (some (.ref f35)))
    (i35 : PySem.W.isFn K (.ref f35) = true)
    (l35 : K.lookup f35 = some ⟨oc35, od35, .func (PySem.W.fnOf "told_by" "Keeping.told_by" (defArgs s_Keeping_told_by) (defBody s_Keeping_told_by) (defScope s_Keeping_told_by) .none kV35 dc35 pm35 an35 cd35 ct35), sl35⟩)
    (c35 : PySem.W.codeIn K cd35 "Keeping.told_by" = true)
    (k35 : PySem.W.keepIn K (.ref f35) = true)
    (a36 : PySem.W.findIn K (.ref CK) "ground" = some (some (.ref f36)))
    (i36 : PySem.W.isFn K (.ref f36) = true)
    (l36 : K.lookup f36 = some ⟨oc36, od36, .func (PySem.W.fnOf "ground" "Keeping.ground" (defArgs s_Keeping_ground) (defBody s_Keeping_ground) (defScope s_Keeping_ground) .none kV36 dc36 pm36 an36 cd36 ct36), sl36⟩)
    (c36 : PySem.W.codeIn K cd36 "Keeping.ground" = true)
    (k36 : PySem.W.keepIn K (.ref f36) = true)
    (a37 : PySem.W.findIn K (.ref CK) "own_ground" = some (some (.ref f37)))
    (i37 : PySem.W.isFn K (.ref f37) = true)
    (l37 : K.lookup f37 = some ⟨oc37, od37, .func (PySem.W.fnOf "own_ground" "Keeping.own_ground" (defArgs s_Keeping_own_ground) (defBody s_Keeping_own_ground) (defScope s_Keeping_own_ground) .none kV37 dc37 pm37 an37 cd37 ct37), sl37⟩)
    (c37 : PySem.W.codeIn K cd37 "Keeping.own_ground" = true)
    (k37 : PySem.W.keepIn K (.ref f37) = true)
    (a38 : PySem.W.findIn K (.ref CK) "file" = some (some (.ref f38)))
    (i38 : PySem.W.isFn K (.ref f38) = true)
    (l38 : K.lookup f38 = some ⟨oc38, od38, .func (PySem.W.fnOf "file" "Keeping.file" (defArgs s_Keeping_file) (defBody s_Keeping_file) (defScope s_Keeping_file) .none kV38 dc38 pm38 an38 cd38 ct38), sl38⟩)
    (c38 : PySem.W.codeIn K cd38 "Keeping.file" = true)
    (k38 : PySem.W.keepIn K (.ref f38) = true)
    (a39 : PySem.W.findIn K (.ref CK) "next_sheet" = some (some (.ref f39)))
    (i39 : PySem.W.isFn K (.ref f39) = true)
    (l39 : K.lookup f39 = some ⟨oc39, od39, .func (PySem.W.fnOf "next_sheet" "Keeping.next_sheet" (defArgs s_Keeping_next_sheet) (defBody s_Keeping_next_sheet) (defScope s_Keeping_next_sheet) .none kV39 dc39 pm39 an39 cd39 ct39), sl39⟩)
    (c39 : PySem.W.codeIn K cd39 "Keeping.next_sheet" = true)
    (k39 : PySem.W.keepIn K (.ref f39) = true)
    (a40 : PySem.W.findIn K (.ref CK) "keep" = some (some (.ref f40)))
    (i40 : PySem.W.isFn K (.ref f40) = true)
    (l40 : K.lookup f40 = some ⟨oc40, od40, .func (PySem.W.fnOf "keep" "Keeping.keep" (defArgs s_Keeping_keep) (defBody s_Keeping_keep) (defScope s_Keeping_keep) .none kV40 dc40 pm40 an40 cd40 ct40), sl40⟩)
    (c40 : PySem.W.codeIn K cd40 "Keeping.keep" = true)
    (k40 : PySem.W.keepIn K (.ref f40) = true)
    (a41 : PySem.W.findIn K (.ref CK) "give_cards" = some (some (.ref f41)))
    (i41 : PySem.W.isFn K (.ref f41) = true)
    (l41 : K.lookup f41 = some ⟨oc41, od41, .func (PySem.W.fnOf "give_cards" "Keeping.give_cards" (defArgs s_Keeping_give_cards) (defBody s_Keeping_give_cards) (defScope s_Keeping_give_cards) .none kV41 dc41 pm41 an41 cd41 ct41), sl41⟩)
    (c41 : PySem.W.codeIn K cd41 "Keeping.give_cards" = true)
    (k41 : PySem.W.keepIn K (.ref f41) = true)
    (a42 : PySem.W.findIn K (.ref C) "__init__" = some (some (.ref f42)))
    (i42 : PySem.W.isFn K (.ref f42) = true)
    (l42 : K.lookup f42 = some ⟨oc42, od42, .func (PySem.W.fnOf "__init__" "Hand.__init__" (defArgs s_Hand___init__) (defBody s_Hand___init__) (defScope s_Hand___init__) .none kV42 dc42 pm42 an42 cd42 ct42), sl42⟩)
    (c42 : PySem.W.codeIn K cd42 "Hand.__init__" = true)
    (k42 : PySem.W.keepIn K (.ref f42) = true)
    (a43 : PySem.W.findIn K (.ref C) "see" = some (some (.ref f43)))
    (i43 : PySem.W.isFn K (.ref f43) = true)
    (l43 : K.lookup f43 = some ⟨oc43, od43, .func (PySem.W.fnOf "see" "Hand.see" (defArgs s_Hand_see) (defBody s_Hand_see) (defScope s_Hand_see) .none kV43 dc43 pm43 an43 cd43 ct43), sl43⟩)
    (c43 : PySem.W.codeIn K cd43 "Hand.see" = true)
    (k43 : PySem.W.keepIn K (.ref f43) = true)
    (a44 : PySem.W.findIn K (.ref C) "look" = some (some (.ref f44)))
    (i44 : PySem.W.isFn K (.ref f44) = true)
    (l44 : K.lookup f44 = some ⟨oc44, od44, .func (PySem.W.fnOf "look" "Hand.look" (defArgs s_Hand_look) (defBody s_Hand_look) (defScope s_Hand_look) .none kV44 dc44 pm44 an44 cd44 ct44), sl44⟩)
    (c44 : PySem.W.codeIn K cd44 "Hand.look" = true)
    (k44 : PySem.W.keepIn K (.ref f44) = true)
    (a45 : PySem.W.findIn K (.ref C) "one" = some (some (.ref f45)))
    (i45 : PySem.W.isFn K (.ref f45) = true)
    (l45 : K.lookup f45 = some ⟨oc45, od45, .func (PySem.W.fnOf "one" "Hand.one" (defArgs s_Hand_one) (defBody s_Hand_one) (defScope s_Hand_one) .none kV45 dc45 pm45 an45 cd45 ct45), sl45⟩)
    (c45 : PySem.W.codeIn K cd45 "Hand.one" = true)
    (k45 : PySem.W.keepIn K (.ref f45) = true)
    (a46 : PySem.W.findIn K (.ref C) "write" = some (some (.ref f46)))
    (i46 : PySem.W.isFn K (.ref f46) = true)
    (l46 : K.lookup f46 = some ⟨oc46, od46, .func (PySem.W.fnOf "write" "Hand.write" (defArgs s_Hand_write) (defBody s_Hand_write) (defScope s_Hand_write) .none kV46 dc46 pm46 an46 cd46 ct46), sl46⟩)
    (c46 : PySem.W.codeIn K cd46 "Hand.write" = true)
    (k46 : PySem.W.keepIn K (.ref f46) = true)
    (a47 : PySem.W.findIn K (.ref C) "file" = some (some (.ref f47)))
    (i47 : PySem.W.isFn K (.ref f47) = true)
    (l47 : K.lookup f47 = some ⟨oc47, od47, .func (PySem.W.fnOf "file" "Hand.file" (defArgs s_Hand_file) (defBody s_Hand_file) (defScope s_Hand_file) .none kV47 dc47 pm47 an47 cd47 ct47), sl47⟩)
    (c47 : PySem.W.codeIn K cd47 "Hand.file" = true)
    (k47 : PySem.W.keepIn K (.ref f47) = true)
    (a48 : PySem.W.findIn K (.ref C) "ground" = some (some (.ref f48)))
    (i48 : PySem.W.isFn K (.ref f48) = true)
    (l48 : K.lookup f48 = some ⟨oc48, od48, .func (PySem.W.fnOf "ground" "Hand.ground" (defArgs s_Hand_ground) (defBody s_Hand_ground) (defScope s_Hand_ground) .none kV48 dc48 pm48 an48 cd48 ct48), sl48⟩)
    (c48 : PySem.W.codeIn K cd48 "Hand.ground" = true)
    (k48 : PySem.W.keepIn K (.ref f48) = true)
    (a49 : PySem.W.findIn K (.ref C) "kept" = some (some (.ref f49)))
    (i49 : PySem.W.isFn K (.ref f49) = true)
    (l49 : K.lookup f49 = some ⟨oc49, od49, .func (PySem.W.fnOf "kept" "Hand.kept" (defArgs s_Hand_kept) (defBody s_Hand_kept) (defScope s_Hand_kept) .none kV49 dc49 pm49 an49 cd49 ct49), sl49⟩)
    (c49 : PySem.W.codeIn K cd49 "Hand.kept" = true)
    (k49 : PySem.W.keepIn K (.ref f49) = true)
    (a50 : PySem.W.findIn K (.ref C) "check_card" = some (some (.ref f50)))
    (i50 : PySem.W.isFn K (.ref f50) = true)
    (l50 : K.lookup f50 = some ⟨oc50, od50, .func (PySem.W.fnOf "check_card" "Hand.check_card" (defArgs s_Hand_check_card) (defBody s_Hand_check_card) (defScope s_Hand_check_card) .none kV50 dc50 pm50 an50 cd50 ct50), sl50⟩)
    (c50 : PySem.W.codeIn K cd50 "Hand.check_card" = true)
    (k50 : PySem.W.keepIn K (.ref f50) = true)
    (a51 : PySem.W.findIn K (.ref C) "keeping" = some (some (.ref f51)))
    (i51 : PySem.W.isFn K (.ref f51) = true)
    (l51 : K.lookup f51 = some ⟨oc51, od51, .func (PySem.W.fnOf "keeping" "Hand.keeping" (defArgs s_Hand_keeping) (defBody s_Hand_keeping) (defScope s_Hand_keeping) .none kV51 dc51 pm51 an51 cd51 ct51), sl51⟩)
    (c51 : PySem.W.codeIn K cd51 "Hand.keeping" = true)
    (k51 : PySem.W.keepIn K (.ref f51) = true)
    (a52 : PySem.W.findIn K (.ref C) "names" = some (some (.ref f52)))
    (i52 : PySem.W.isFn K (.ref f52) = true)
    (l52 : K.lookup f52 = some ⟨oc52, od52, .func (PySem.W.fnOf "names" "Hand.names" (defArgs s_Hand_names) (defBody s_Hand_names) (defScope s_Hand_names) .none kV52 dc52 pm52 an52 cd52 ct52), sl52⟩)
    (c52 : PySem.W.codeIn K cd52 "Hand.names" = true)
    (k52 : PySem.W.keepIn K (.ref f52) = true)
    (pgCL : PySem.W.plainGet K CL Str.empty = true)
    (hdCL : PySem.W.hasDictIn K CL = true)
    (poCL : PySem.W.plainOver K CL = true)
    (saCL : PySem.W.findIn K (.ref CL) "__setattr__" = some (some (.builtin "object.__setattr__")))
    (mkCL : PySem.W.makesIn K CL = true)
    (kcCL : PySem.W.keepIn K (.ref CL) = true)
    (nCL_heads : PySem.W.findIn K (.ref CL) "heads" = some none)
    (nCL_members : PySem.W.findIn K (.ref CL) "members" = some none)
    (nCL_words : PySem.W.findIn K (.ref CL) "words" = some none)
    (pgCS : PySem.W.plainGet K CS Str.empty = true)
    (hdCS : PySem.W.hasDictIn K CS = true)
    (poCS : PySem.W.plainOver K CS = true)
    (saCS : PySem.W.findIn K (.ref CS) "__setattr__" = some (some (.builtin "object.__setattr__")))
    (mkCS : PySem.W.makesIn K CS = true)
    (kcCS : PySem.W.keepIn K (.ref CS) = true)
    (nCS_names : PySem.W.findIn K (.ref CS) "names" = some none)
    (nCS_descriptions : PySem.W.findIn K (.ref CS) "descriptions" = some none)
    (nCS_places : PySem.W.findIn K (.ref CS) "places" = some none)
    (nCS_meant : PySem.W.findIn K (.ref CS) "meant" = some none)
    (pgCK : PySem.W.plainGet K CK Str.empty = true)
    (hdCK : PySem.W.hasDictIn K CK = true)
    (poCK : PySem.W.plainOver K CK = true)
    (saCK : PySem.W.findIn K (.ref CK) "__setattr__" = some (some (.builtin "object.__setattr__")))
    (mkCK : PySem.W.makesIn K CK = true)
    (kcCK : PySem.W.keepIn K (.ref CK) = true)
    (nCK_hand : PySem.W.findIn K (.ref CK) "hand" = some none)
    (nCK_other : PySem.W.findIn K (.ref CK) "other" = some none)
    (nCK_written : PySem.W.findIn K (.ref CK) "written" = some none)
    (nCK_read_all : PySem.W.findIn K (.ref CK) "read_all" = some none)
    (nCK_count : PySem.W.findIn K (.ref CK) "count" = some none)
    (nCK_laid : PySem.W.findIn K (.ref CK) "laid" = some none)
    (nCK_said : PySem.W.findIn K (.ref CK) "said" = some none)
    (nCK_cards : PySem.W.findIn K (.ref CK) "cards" = some none)
    (nCK_sheets : PySem.W.findIn K (.ref CK) "sheets" = some none)
    (pgC : PySem.W.plainGet K C Str.empty = true)
    (hdC : PySem.W.hasDictIn K C = true)
    (poC : PySem.W.plainOver K C = true)
    (saC : PySem.W.findIn K (.ref C) "__setattr__" = some (some (.builtin "object.__setattr__")))
    (mkC : PySem.W.makesIn K C = true)
    (kcC : PySem.W.keepIn K (.ref C) = true)
    (nC_hand : PySem.W.findIn K (.ref C) "hand" = some none)
    (nC_hands : PySem.W.findIn K (.ref C) "hands" = some none)
    (nC_lots : PySem.W.findIn K (.ref C) "lots" = some none)
    (nC_keepings : PySem.W.findIn K (.ref C) "keepings" = some none)
    (z_all : PySem.W.nsIn K mainGlobals "all" = some none)
    (z_any : PySem.W.nsIn K mainGlobals "any" = some none)
    (z_bool : PySem.W.nsIn K mainGlobals "bool" = some none)
    (z_enumerate : PySem.W.nsIn K mainGlobals "enumerate" = some none)
    (z_int : PySem.W.nsIn K mainGlobals "int" = some none)
    (z_isinstance : PySem.W.nsIn K mainGlobals "isinstance" = some none)
    (z_len : PySem.W.nsIn K mainGlobals "len" = some none)
    (z_list : PySem.W.nsIn K mainGlobals "list" = some none)
    (z_max : PySem.W.nsIn K mainGlobals "max" = some none)
    (z_min : PySem.W.nsIn K mainGlobals "min" = some none)
    (z_range : PySem.W.nsIn K mainGlobals "range" = some none)
    (z_set : PySem.W.nsIn K mainGlobals "set" = some none)
    (z_sorted : PySem.W.nsIn K mainGlobals "sorted" = some none)
    (z_str : PySem.W.nsIn K mainGlobals "str" = some none)
    (z_sum : PySem.W.nsIn K mainGlobals "sum" = some none)
    (z_tuple : PySem.W.nsIn K mainGlobals "tuple" = some none)
    (z_zip : PySem.W.nsIn K mainGlobals "zip" = some none)
    (cSIGNS : PySem.W.nsIn K mainGlobals "SIGNS" = some (some (.str "abcdefghijklmnopqrstuvwxyz" tS)))
    (cLONGEST : PySem.W.nsIn K mainGlobals "LONGEST" = some (some (.int 8 tLONGEST)))
    (cFEWEST_HANDS : PySem.W.nsIn K mainGlobals "FEWEST_HANDS" = some (some (.int 2 tFEWEST_HANDS)))
    (cMOST_HANDS : PySem.W.nsIn K mainGlobals "MOST_HANDS" = some (some (.int 5 tMOST_HANDS)))
    (cComb : PySem.W.nsIn K mainGlobals "combinations" = some (some (.type Comb.T)))
    (xNoCard : PySem.W.excIn K C_NoCard [.type "ValueError", .type "Exception", .type "BaseException", .type "object"] "ValueError.__new__" = true)
    (yNoCard : PySem.W.keepIn K (.ref C_NoCard) = true)
    (bNoCard : PySem.W.subIn K (.ref C_NoCard) (.type "BaseException") = some true)
    (tNoCard : PySem.W.typeIn K (.ref C_NoCard) = some (.type "type"))
    (g1NoCard : PySem.W.findIn K (.ref C_NoCard) "__getattribute__" = some (some (.builtin "BaseException.__getattribute__")))
    (g2NoCard : PySem.W.findIn K (.ref C_NoCard) "__getattr__" = some none)
    (g4NoCard : PySem.W.hasDictIn K C_NoCard = true)
    (g5NoCard : PySem.W.findIn K (.ref C_NoCard) "__class__" = some (some (.builtin "object.__class__")))
    (g8NoCard : PySem.W.mroIn K C_NoCard (.type "object") = some true)
    (ieNoCard : PySem.W.isClsIn K C_NoCard = true)
    (suNoCard : PySem.W.subIn K (.ref C_NoCard) (.ref C_SaidError) = some true)
    (unNoCard : PySem.W.subIn K (.type "NoneType") (.ref C_NoCard) = some false)
    (uuNoCard_NoCard : PySem.W.subIn K (.ref C_NoCard) (.ref C_NoCard) = some true)
    (uuNoCard_NoWords : PySem.W.subIn K (.ref C_NoCard) (.ref C_NoWords) = some false)
    (uuNoCard_NoHand : PySem.W.subIn K (.ref C_NoCard) (.ref C_NoHand) = some false)
    (uuNoCard_NoLines : PySem.W.subIn K (.ref C_NoCard) (.ref C_NoLines) = some false)
    (uuNoCard_NoHands : PySem.W.subIn K (.ref C_NoCard) (.ref C_NoHands) = some false)
    (xNoWords : PySem.W.excIn K C_NoWords [.type "ValueError", .type "Exception", .type "BaseException", .type "object"] "ValueError.__new__" = true)
    (yNoWords : PySem.W.keepIn K (.ref C_NoWords) = true)
    (bNoWords : PySem.W.subIn K (.ref C_NoWords) (.type "BaseException") = some true)
    (tNoWords : PySem.W.typeIn K (.ref C_NoWords) = some (.type "type"))
    (g1NoWords : PySem.W.findIn K (.ref C_NoWords) "__getattribute__" = some (some (.builtin "BaseException.__getattribute__")))
    (g2NoWords : PySem.W.findIn K (.ref C_NoWords) "__getattr__" = some none)
    (g4NoWords : PySem.W.hasDictIn K C_NoWords = true)
    (g5NoWords : PySem.W.findIn K (.ref C_NoWords) "__class__" = some (some (.builtin "object.__class__")))
    (g8NoWords : PySem.W.mroIn K C_NoWords (.type "object") = some true)
    (ieNoWords : PySem.W.isClsIn K C_NoWords = true)
    (suNoWords : PySem.W.subIn K (.ref C_NoWords) (.ref C_SaidError) = some true)
    (unNoWords : PySem.W.subIn K (.type "NoneType") (.ref C_NoWords) = some false)
    (uuNoWords_NoCard : PySem.W.subIn K (.ref C_NoWords) (.ref C_NoCard) = some false)
    (uuNoWords_NoWords : PySem.W.subIn K (.ref C_NoWords) (.ref C_NoWords) = some true)
    (uuNoWords_NoHand : PySem.W.subIn K (.ref C_NoWords) (.ref C_NoHand) = some false)
    (uuNoWords_NoLines : PySem.W.subIn K (.ref C_NoWords) (.ref C_NoLines) = some false)
    (uuNoWords_NoHands : PySem.W.subIn K (.ref C_NoWords) (.ref C_NoHands) = some false)
    (xNoHand : PySem.W.excIn K C_NoHand [.type "ValueError", .type "Exception", .type "BaseException", .type "object"] "ValueError.__new__" = true)
    (yNoHand : PySem.W.keepIn K (.ref C_NoHand) = true)
    (bNoHand : PySem.W.subIn K (.ref C_NoHand) (.type "BaseException") = some true)
    (tNoHand : PySem.W.typeIn K (.ref C_NoHand) = some (.type "type"))
    (g1NoHand : PySem.W.findIn K (.ref C_NoHand) "__getattribute__" = some (some (.builtin "BaseException.__getattribute__")))
    (g2NoHand : PySem.W.findIn K (.ref C_NoHand) "__getattr__" = some none)
    (g4NoHand : PySem.W.hasDictIn K C_NoHand = true)
    (g5NoHand : PySem.W.findIn K (.ref C_NoHand) "__class__" = some (some (.builtin "object.__class__")))
    (g8NoHand : PySem.W.mroIn K C_NoHand (.type "object") = some true)
    (ieNoHand : PySem.W.isClsIn K C_NoHand = true)
    (suNoHand : PySem.W.subIn K (.ref C_NoHand) (.ref C_SaidError) = some true)
    (unNoHand : PySem.W.subIn K (.type "NoneType") (.ref C_NoHand) = some false)
    (uuNoHand_NoCard : PySem.W.subIn K (.ref C_NoHand) (.ref C_NoCard) = some false)
    (uuNoHand_NoWords : PySem.W.subIn K (.ref C_NoHand) (.ref C_NoWords) = some false)
    (uuNoHand_NoHand : PySem.W.subIn K (.ref C_NoHand) (.ref C_NoHand) = some true)
    (uuNoHand_NoLines : PySem.W.subIn K (.ref C_NoHand) (.ref C_NoLines) = some false)
    (uuNoHand_NoHands : PySem.W.subIn K (.ref C_NoHand) (.ref C_NoHands) = some false)
    (xNoLines : PySem.W.excIn K C_NoLines [.type "ValueError", .type "Exception", .type "BaseException", .type "object"] "ValueError.__new__" = true)
    (yNoLines : PySem.W.keepIn K (.ref C_NoLines) = true)
    (bNoLines : PySem.W.subIn K (.ref C_NoLines) (.type "BaseException") = some true)
    (tNoLines : PySem.W.typeIn K (.ref C_NoLines) = some (.type "type"))
    (g1NoLines : PySem.W.findIn K (.ref C_NoLines) "__getattribute__" = some (some (.builtin "BaseException.__getattribute__")))
    (g2NoLines : PySem.W.findIn K (.ref C_NoLines) "__getattr__" = some none)
    (g4NoLines : PySem.W.hasDictIn K C_NoLines = true)
    (g5NoLines : PySem.W.findIn K (.ref C_NoLines) "__class__" = some (some (.builtin "object.__class__")))
    (g8NoLines : PySem.W.mroIn K C_NoLines (.type "object") = some true)
    (ieNoLines : PySem.W.isClsIn K C_NoLines = true)
    (suNoLines : PySem.W.subIn K (.ref C_NoLines) (.ref C_SaidError) = some true)
    (unNoLines : PySem.W.subIn K (.type "NoneType") (.ref C_NoLines) = some false)
    (uuNoLines_NoCard : PySem.W.subIn K (.ref C_NoLines) (.ref C_NoCard) = some false)
    (uuNoLines_NoWords : PySem.W.subIn K (.ref C_NoLines) (.ref C_NoWords) = some false)
    (uuNoLines_NoHand : PySem.W.subIn K (.ref C_NoLines) (.ref C_NoHand) = some false)
    (uuNoLines_NoLines : PySem.W.subIn K (.ref C_NoLines) (.ref C_NoLines) = some true)
    (uuNoLines_NoHands : PySem.W.subIn K (.ref C_NoLines) (.ref C_NoHands) = some false)
    (xNoHands : PySem.W.excIn K C_NoHands [.type "ValueError", .type "Exception", .type "BaseException", .type "object"] "ValueError.__new__" = true)
    (yNoHands : PySem.W.keepIn K (.ref C_NoHands) = true)
    (bNoHands : PySem.W.subIn K (.ref C_NoHands) (.type "BaseException") = some true)
    (tNoHands : PySem.W.typeIn K (.ref C_NoHands) = some (.type "type"))
    (g1NoHands : PySem.W.findIn K (.ref C_NoHands) "__getattribute__" = some (some (.builtin "BaseException.__getattribute__")))
    (g2NoHands : PySem.W.findIn K (.ref C_NoHands) "__getattr__" = some none)
    (g4NoHands : PySem.W.hasDictIn K C_NoHands = true)
    (g5NoHands : PySem.W.findIn K (.ref C_NoHands) "__class__" = some (some (.builtin "object.__class__")))
    (g8NoHands : PySem.W.mroIn K C_NoHands (.type "object") = some true)
    (ieNoHands : PySem.W.isClsIn K C_NoHands = true)
    (suNoHands : PySem.W.subIn K (.ref C_NoHands) (.ref C_SaidError) = some true)
    (unNoHands : PySem.W.subIn K (.type "NoneType") (.ref C_NoHands) = some false)
    (uuNoHands_NoCard : PySem.W.subIn K (.ref C_NoHands) (.ref C_NoCard) = some false)
    (uuNoHands_NoWords : PySem.W.subIn K (.ref C_NoHands) (.ref C_NoWords) = some false)
    (uuNoHands_NoHand : PySem.W.subIn K (.ref C_NoHands) (.ref C_NoHand) = some false)
    (uuNoHands_NoLines : PySem.W.subIn K (.ref C_NoHands) (.ref C_NoLines) = some false)
    (uuNoHands_NoHands : PySem.W.subIn K (.ref C_NoHands) (.ref C_NoHands) = some true)
    (bSaidError : PySem.W.subIn K (.ref C_SaidError) (.type "BaseException") = some true)
    (tSaidError : PySem.W.typeIn K (.ref C_SaidError) = some (.type "type"))
    (ieSaidError : PySem.W.isClsIn K C_SaidError = true)
    (g6 : PySem.W.specialIn K (.builtin "object.__class__") "__get__" = some (some (.builtin "getset_descriptor.__get__")))
    (g7 : PySem.W.takesIn K (.builtin "object.__class__") = some true)
    : ∃ fd : FuncData, (∀ (s : Shared) (v : Value), BindsTo s fd ⟨[v], []⟩ [("script", v)]) ∧ ∀ base : Heap, K.In base → base.Ns mainGlobals mg → FnOk l.prog w K mg base CX0 7 fa fd ["script"] (spLaw K) := by
  have e := hfa.symm.trans (PySem.W.mg_of X G a20)
  cases e
  have no : ∀ {n : Str}, PySem.W.nsIn K mainGlobals n = some none → mg n = none := fun e => PySem.W.mg_none_of X G e
  have at_ : ∀ {n : Str} {v : Value}, PySem.W.nsIn K mainGlobals n = some (some v) → mg n = some v := fun e => PySem.W.mg_of X G e
  have QCL : Cls K CL := ⟨pgCL, hdCL, poCL, saCL⟩
  have QCS : Cls K CS := ⟨pgCS, hdCS, poCS, saCS⟩
  have QCK : Cls K CK := ⟨pgCK, hdCK, poCK, saCK⟩
  have QC : Cls K C := ⟨pgC, hdC, poC, saC⟩
  have G_NoCard : Err0 K mg C_NoCard "NoCard" := ⟨_, _, _, _, PySem.F.excBase_ValueError, xNoCard, at_ aENoCard, yNoCard, bNoCard, tNoCard⟩
  have ExNoCard : ExcC K C_NoCard := ⟨g1NoCard, g2NoCard, bNoCard, g4NoCard, g5NoCard, g6, g7, g8NoCard⟩
  have G_NoWords : Err0 K mg C_NoWords "NoWords" := ⟨_, _, _, _, PySem.F.excBase_ValueError, xNoWords, at_ aENoWords, yNoWords, bNoWords, tNoWords⟩
  have ExNoWords : ExcC K C_NoWords := ⟨g1NoWords, g2NoWords, bNoWords, g4NoWords, g5NoWords, g6, g7, g8NoWords⟩
  have G_NoHand : Err0 K mg C_NoHand "NoHand" := ⟨_, _, _, _, PySem.F.excBase_ValueError, xNoHand, at_ aENoHand, yNoHand, bNoHand, tNoHand⟩
  have ExNoHand : ExcC K C_NoHand := ⟨g1NoHand, g2NoHand, bNoHand, g4NoHand, g5NoHand, g6, g7, g8NoHand⟩
  have G_NoLines : Err0 K mg C_NoLines "NoLines" := ⟨_, _, _, _, PySem.F.excBase_ValueError, xNoLines, at_ aENoLines, yNoLines, bNoLines, tNoLines⟩
  have ExNoLines : ExcC K C_NoLines := ⟨g1NoLines, g2NoLines, bNoLines, g4NoLines, g5NoLines, g6, g7, g8NoLines⟩
  have G_NoHands : Err0 K mg C_NoHands "NoHands" := ⟨_, _, _, _, PySem.F.excBase_ValueError, xNoHands, at_ aENoHands, yNoHands, bNoHands, tNoHands⟩
  have ExNoHands : ExcC K C_NoHands := ⟨g1NoHands, g2NoHands, bNoHands, g4NoHands, g5NoHands, g6, g7, g8NoHands⟩
  have M_Mg : Mg mg := ⟨no z_isinstance, no z_int, no z_bool, no z_str, no z_tuple, no z_list, no z_len, no z_all, no z_any, no z_range, no z_enumerate, ⟨_, at_ cSIGNS, _, rfl⟩, ⟨_, at_ cLONGEST, _, rfl⟩, ⟨_, at_ cFEWEST_HANDS, _, rfl⟩, ⟨_, at_ cMOST_HANDS, _, rfl⟩⟩
  have M_MgW : MgW mg := ⟨no z_len, no z_range, no z_max⟩
  have M_MgO : MgO mg := ⟨no z_len, no z_min, no z_max, no z_tuple, no z_list, no z_range, no z_enumerate, no z_set, no z_all, no z_any, no z_sorted⟩
  have M_MgL : MgL mg := ⟨no z_isinstance⟩
  have M_MgZ : MgZ mg := ⟨no z_range, no z_len, no z_min, no z_tuple⟩
  have M_MgK : MgK mg := ⟨no z_zip⟩
  have M_MgC : MgC mg := ⟨no z_sum, at_ cComb⟩
  have TCL : TLots K CL := ⟨QCL, nCL_heads, nCL_members, nCL_words⟩
  have TCS : TSheet K CS := ⟨QCS, nCS_names, nCS_descriptions, nCS_places, nCS_meant⟩
  have TCK : TKeep K CK := ⟨QCK, nCK_hand, nCK_other, nCK_written, nCK_read_all, nCK_count, nCK_laid, nCK_said, nCK_cards, nCK_sheets⟩
  have TC : THand K C := ⟨QC, nC_hand, nC_hands, nC_lots, nC_keepings⟩
  have sNoCard := exm_cl bSaidError ieSaidError tSaidError suNoCard
  have knNoCard := kit_at ieNoCard tNoCard uuNoCard_NoCard unNoCard
  have kkNoCard_NoCard := kit_at ieNoCard tNoCard uuNoCard_NoCard uuNoCard_NoCard
  have kkNoCard_NoWords := kit_at ieNoWords tNoWords uuNoWords_NoWords uuNoCard_NoWords
  have kkNoCard_NoHand := kit_at ieNoHand tNoHand uuNoHand_NoHand uuNoCard_NoHand
  have kkNoCard_NoLines := kit_at ieNoLines tNoLines uuNoLines_NoLines uuNoCard_NoLines
  have kkNoCard_NoHands := kit_at ieNoHands tNoHands uuNoHands_NoHands uuNoCard_NoHands
  have sNoWords := exm_cl bSaidError ieSaidError tSaidError suNoWords
  have knNoWords := kit_at ieNoWords tNoWords uuNoWords_NoWords unNoWords
  have kkNoWords_NoCard := kit_at ieNoCard tNoCard uuNoCard_NoCard uuNoWords_NoCard
  have kkNoWords_NoWords := kit_at ieNoWords tNoWords uuNoWords_NoWords uuNoWords_NoWords
  have kkNoWords_NoHand := kit_at ieNoHand tNoHand uuNoHand_NoHand uuNoWords_NoHand
  have kkNoWords_NoLines := kit_at ieNoLines tNoLines uuNoLines_NoLines uuNoWords_NoLines
  have kkNoWords_NoHands := kit_at ieNoHands tNoHands uuNoHands_NoHands uuNoWords_NoHands
  have sNoHand := exm_cl bSaidError ieSaidError tSaidError suNoHand
  have knNoHand := kit_at ieNoHand tNoHand uuNoHand_NoHand unNoHand
  have kkNoHand_NoCard := kit_at ieNoCard tNoCard uuNoCard_NoCard uuNoHand_NoCard
  have kkNoHand_NoWords := kit_at ieNoWords tNoWords uuNoWords_NoWords uuNoHand_NoWords
  have kkNoHand_NoHand := kit_at ieNoHand tNoHand uuNoHand_NoHand uuNoHand_NoHand
  have kkNoHand_NoLines := kit_at ieNoLines tNoLines uuNoLines_NoLines uuNoHand_NoLines
  have kkNoHand_NoHands := kit_at ieNoHands tNoHands uuNoHands_NoHands uuNoHand_NoHands
  have sNoLines := exm_cl bSaidError ieSaidError tSaidError suNoLines
  have knNoLines := kit_at ieNoLines tNoLines uuNoLines_NoLines unNoLines
  have kkNoLines_NoCard := kit_at ieNoCard tNoCard uuNoCard_NoCard uuNoLines_NoCard
  have kkNoLines_NoWords := kit_at ieNoWords tNoWords uuNoWords_NoWords uuNoLines_NoWords
  have kkNoLines_NoHand := kit_at ieNoHand tNoHand uuNoHand_NoHand uuNoLines_NoHand
  have kkNoLines_NoLines := kit_at ieNoLines tNoLines uuNoLines_NoLines uuNoLines_NoLines
  have kkNoLines_NoHands := kit_at ieNoHands tNoHands uuNoHands_NoHands uuNoLines_NoHands
  have sNoHands := exm_cl bSaidError ieSaidError tSaidError suNoHands
  have knNoHands := kit_at ieNoHands tNoHands uuNoHands_NoHands unNoHands
  have kkNoHands_NoCard := kit_at ieNoCard tNoCard uuNoCard_NoCard uuNoHands_NoCard
  have kkNoHands_NoWords := kit_at ieNoWords tNoWords uuNoWords_NoWords uuNoHands_NoWords
  have kkNoHands_NoHand := kit_at ieNoHand tNoHand uuNoHand_NoHand uuNoHands_NoHand
  have kkNoHands_NoLines := kit_at ieNoLines tNoLines uuNoLines_NoLines uuNoHands_NoLines
  have kkNoHands_NoHands := kit_at ieNoHands tNoHands uuNoHands_NoHands uuNoHands_NoHands
  have D0 : FunD K "is_whole" "is_whole" (defArgs s_is_whole) (defBody s_is_whole) (defScope s_is_whole) [.int 0] [] f0 (PySem.W.fnOf "is_whole" "is_whole" (defArgs s_is_whole) (defBody s_is_whole) (defScope s_is_whole) (.ref T0) kV0 dc0 pm0 an0 cd0 ct0) := ⟨⟨_, _, _, _, _, _, _, _, _, _, rfl, l0, c0, .inr ⟨by simp, T0, _, [.int 0 tkT], nT, rfl, lT, rfl, .cons ⟨_, rfl⟩ .nil⟩, .inl rfl⟩, k0⟩
  have F1 := fun_mk (st := s_is_word) l1 c1 k1
  have B1 := F1.binds (ps := ["thing"]) fun _ _ _ _ _ _ us hl => match us, hl with | [_], _ => rfl
  have F2 := fun_mk (st := s_is_rising) l2 c2 k2
  have B2 := F2.binds (ps := ["row"]) fun _ _ _ _ _ _ us hl => match us, hl with | [_], _ => rfl
  have F3 := fun_mk (st := s_is_words) l3 c3 k3
  have B3 := F3.binds (ps := ["thing"]) fun _ _ _ _ _ _ us hl => match us, hl with | [_], _ => rfl
  have F4 := fun_mk (st := s_are_hands) l4 c4 k4
  have B4 := F4.binds (ps := ["thing"]) fun _ _ _ _ _ _ us hl => match us, hl with | [_], _ => rfl
  have F5 := fun_mk (st := s_is_row) l5 c5 k5
  have B5 := F5.binds (ps := ["thing", "many"]) fun _ _ _ _ _ _ us hl => match us, hl with | [_, _], _ => rfl
  have F6 := fun_mk (st := s_is_line) l6 c6 k6
  have B6 := F6.binds (ps := ["thing"]) fun _ _ _ _ _ _ us hl => match us, hl with | [_], _ => rfl
  have F7 := fun_mk (st := s_are_lines) l7 c7 k7
  have B7 := F7.binds (ps := ["thing"]) fun _ _ _ _ _ _ us hl => match us, hl with | [_], _ => rfl
  have F8 := fun_mk (st := s_masks_of) l8 c8 k8
  have B8 := F8.binds (ps := ["lots", "bits"]) fun _ _ _ _ _ _ us hl => match us, hl with | [_, _], _ => rfl
  have F9 := fun_mk (st := s_least_safe) l9 c9 k9
  have B9 := F9.binds (ps := ["faces", "others"]) fun _ _ _ _ _ _ us hl => match us, hl with | [_, _], _ => rfl
  have F10 := fun_mk (st := s_name_in) l10 c10 k10
  have B10 := F10.binds (ps := ["lots", "held"]) fun _ _ _ _ _ _ us hl => match us, hl with | [_, _], _ => rfl
  have F11 := fun_mk (st := s_lots_of) l11 c11 k11
  have B11 := F11.binds (ps := ["members", "words", "joins"]) fun _ _ _ _ _ _ us hl => match us, hl with | [_, _, _], _ => rfl
  have F12 := fun_mk (st := s__law_at) l12 c12 k12
  have B12 := F12.binds (ps := ["script", "k"]) fun _ _ _ _ _ _ us hl => match us, hl with | [_, _], _ => rfl
  have F13 := fun_mk (st := s__law_mixed) l13 c13 k13
  have B13 := F13.binds (ps := ["cell", "k"]) fun _ _ _ _ _ _ us hl => match us, hl with | [_, _], _ => rfl
  have F14 := fun_mk (st := s__law_purse) l14 c14 k14
  have B14 := F14.binds (ps := ["script", "at"]) fun _ _ _ _ _ _ us hl => match us, hl with | [_, _], _ => rfl
  have F15 := fun_mk (st := s__law_draw) l15 c15 k15
  have B15 := F15.binds (ps := ["purse", "out_of"]) fun _ _ _ _ _ _ us hl => match us, hl with | [_, _], _ => rfl
  have F16 := fun_mk (st := s__law_told) l16 c16 k16
  have B16 := F16.binds (ps := ["alone", "way", "one", "two"]) fun _ _ _ _ _ _ us hl => match us, hl with | [_, _, _, _], _ => rfl
  have F17 := fun_mk (st := s__law_made) l17 c17 k17
  have B17 := F17.binds (ps := ["hands", "who"]) fun _ _ _ _ _ _ us hl => match us, hl with | [_, _], _ => rfl
  have F18 := fun_mk (st := s__law_bad_words) l18 c18 k18
  have B18 := F18.binds (ps := ["purse"]) fun _ _ _ _ _ _ us hl => match us, hl with | [_], _ => rfl
  have F19 := fun_mk (st := s__law_doors) l19 c19 k19
  have B19 := F19.binds (ps := ["purse", "alone", "many"]) fun _ _ _ _ _ _ us hl => match us, hl with | [_, _, _], _ => rfl
  have F20 := fun_mk (st := s_law) l20 c20 k20
  have F21 := fun_mk (st := s_Lots___init__) l21 c21 k21
  have B21 := F21.binds (ps := ["self"]) fun _ _ _ _ _ _ us hl => match us, hl with | [_], _ => rfl
  have F22 := fun_mk (st := s_Lots_new) l22 c22 k22
  have B22 := F22.binds (ps := ["self", "words"]) fun _ _ _ _ _ _ us hl => match us, hl with | [_, _], _ => rfl
  have F23 := fun_mk (st := s_Lots_has) l23 c23 k23
  have B23 := F23.binds (ps := ["self", "place"]) fun _ _ _ _ _ _ us hl => match us, hl with | [_, _], _ => rfl
  have F24 := fun_mk (st := s_Lots_has_all) l24 c24 k24
  have B24 := F24.binds (ps := ["self", "lines"]) fun _ _ _ _ _ _ us hl => match us, hl with | [_, _], _ => rfl
  have F25 := fun_mk (st := s_Lots_may_stand) l25 c25 k25
  have B25 := F25.binds (ps := ["self", "lines"]) fun _ _ _ _ _ _ us hl => match us, hl with | [_, _], _ => rfl
  have F26 := fun_mk (st := s_Lots_head) l26 c26 k26
  have B26 := F26.binds (ps := ["self", "place"]) fun _ _ _ _ _ _ us hl => match us, hl with | [_, _], _ => rfl
  have F27 := fun_mk (st := s_Lots_unknown) l27 c27 k27
  have B27 := F27.binds (ps := ["self", "place", "words"]) fun _ _ _ _ _ _ us hl => match us, hl with | [_, _, _], _ => rfl
  have F28 := fun_mk (st := s_Lots_learn) l28 c28 k28
  have B28 := F28.binds (ps := ["self", "place", "words"]) fun _ _ _ _ _ _ us hl => match us, hl with | [_, _, _], _ => rfl
  have F29 := fun_mk (st := s_Lots_unite) l29 c29 k29
  have B29 := F29.binds (ps := ["self", "place", "other"]) fun _ _ _ _ _ _ us hl => match us, hl with | [_, _, _], _ => rfl
  have F30 := fun_mk (st := s_Lots_listed) l30 c30 k30
  have B30 := F30.binds (ps := ["self"]) fun _ _ _ _ _ _ us hl => match us, hl with | [_], _ => rfl
  have F31 := fun_mk (st := s_Sheet___init__) l31 c31 k31
  have B31 := F31.binds (ps := ["self", "names", "descriptions", "places", "meant"]) fun _ _ _ _ _ _ us hl => match us, hl with | [_, _, _, _, _], _ => rfl
  have F32 := fun_mk (st := s_Keeping___init__) l32 c32 k32
  have B32 := F32.binds (ps := ["self", "hand", "other"]) fun _ _ _ _ _ _ us hl => match us, hl with | [_, _, _], _ => rfl
  have F33 := fun_mk (st := s_Keeping_kept_numbers) l33 c33 k33
  have B33 := F33.binds (ps := ["self"]) fun _ _ _ _ _ _ us hl => match us, hl with | [_], _ => rfl
  have F34 := fun_mk (st := s_Keeping_read_numbers) l34 c34 k34
  have B34 := F34.binds (ps := ["self"]) fun _ _ _ _ _ _ us hl => match us, hl with | [_], _ => rfl
  have F35 := fun_mk (st := s_Keeping_told_by) l35 c35 k35
  have B35 := F35.binds (ps := ["self", "names", "hand"]) fun _ _ _ _ _ _ us hl => match us, hl with | [_, _, _], _ => rfl
  have F36 := fun_mk (st := s_Keeping_ground) l36 c36 k36
  have B36 := F36.binds (ps := ["self", "writer", "names"]) fun _ _ _ _ _ _ us hl => match us, hl with | [_, _, _], _ => rfl
  have F37 := fun_mk (st := s_Keeping_own_ground) l37 c37 k37
  have B37 := F37.binds (ps := ["self"]) fun _ _ _ _ _ _ us hl => match us, hl with | [_], _ => rfl
  have F38 := fun_mk (st := s_Keeping_file) l38 c38 k38
  have B38 := F38.binds (ps := ["self", "keys"]) fun _ _ _ _ _ _ us hl => match us, hl with | [_, _], _ => rfl
  have F39 := fun_mk (st := s_Keeping_next_sheet) l39 c39 k39
  have B39 := F39.binds (ps := ["self", "names", "descriptions", "lots"]) fun _ _ _ _ _ _ us hl => match us, hl with | [_, _, _, _], _ => rfl
  have F40 := fun_mk (st := s_Keeping_keep) l40 c40 k40
  have B40 := F40.binds (ps := ["self", "key", "sheet", "said"]) fun _ _ _ _ _ _ us hl => match us, hl with | [_, _, _, _], _ => rfl
  have F41 := fun_mk (st := s_Keeping_give_cards) l41 c41 k41
  have B41 := F41.binds (ps := ["self", "sheet", "cards"]) fun _ _ _ _ _ _ us hl => match us, hl with | [_, _, _], _ => rfl
  have F42 := fun_mk (st := s_Hand___init__) l42 c42 k42
  have B42 := F42.binds (ps := ["self", "name", "hands"]) fun _ _ _ _ _ _ us hl => match us, hl with | [_, _, _], _ => rfl
  have F43 := fun_mk (st := s_Hand_see) l43 c43 k43
  have B43 := F43.binds (ps := ["self", "words"]) fun _ _ _ _ _ _ us hl => match us, hl with | [_, _], _ => rfl
  have F44 := fun_mk (st := s_Hand_look) l44 c44 k44
  have B44 := F44.binds (ps := ["self", "card", "words"]) fun _ _ _ _ _ _ us hl => match us, hl with | [_, _, _], _ => rfl
  have F45 := fun_mk (st := s_Hand_one) l45 c45 k45
  have B45 := F45.binds (ps := ["self", "card", "other"]) fun _ _ _ _ _ _ us hl => match us, hl with | [_, _, _], _ => rfl
  have F46 := fun_mk (st := s_Hand_write) l46 c46 k46
  have B46 := F46.binds (ps := ["self", "to", "lines"]) fun _ _ _ _ _ _ us hl => match us, hl with | [_, _, _], _ => rfl
  have F47 := fun_mk (st := s_Hand_file) l47 c47 k47
  have B47 := F47.binds (ps := ["self"]) fun _ _ _ _ _ _ us hl => match us, hl with | [_], _ => rfl
  have F48 := fun_mk (st := s_Hand_ground) l48 c48 k48
  have B48 := F48.binds (ps := ["self", "other"]) fun _ _ _ _ _ _ us hl => match us, hl with | [_, _], _ => rfl
  have F49 := fun_mk (st := s_Hand_kept) l49 c49 k49
  have B49 := F49.binds (ps := ["self", "other"]) fun _ _ _ _ _ _ us hl => match us, hl with | [_, _], _ => rfl
  have F50 := fun_mk (st := s_Hand_check_card) l50 c50 k50
  have B50 := F50.binds (ps := ["self", "card"]) fun _ _ _ _ _ _ us hl => match us, hl with | [_, _], _ => rfl
  have F51 := fun_mk (st := s_Hand_keeping) l51 c51 k51
  have B51 := F51.binds (ps := ["self", "other"]) fun _ _ _ _ _ _ us hl => match us, hl with | [_, _], _ => rfl
  have F52 := fun_mk (st := s_Hand_names) l52 c52 k52
  have B52 := F52.binds (ps := ["self"]) fun _ _ _ _ _ _ us hl => match us, hl with | [_], _ => rfl
  obtain ⟨ds0, v0, B0⟩ := D0.binds1 (ps := ["thing", "least"]) 1 0 (by simp) rfl fun T kV doc pm an cdv ct us its hu hi => match us, its, hu, hi with | [_], [_], _, _ => ⟨_, rfl, rfl⟩
  refine ⟨PySem.W.fnOf "law" "law" (defArgs s_law) (defBody s_law) (defScope s_law) .none kV20 dc20 pm20 an20 cd20 ct20, fun s v => .of_eq rfl, fun base _ _ => ?_⟩
  have O0 := ok_is_whole (P := l.prog) (w := w) (mg := mg) (base := base) M_Mg D0
  have G_is_whole1 : Own l.prog w K mg base 1 "is_whole" ["thing", "least"] [.int 0] (spWhole K) := ⟨f0, _, ds0, at_ a0, k0, B0, v0, O0⟩
  have O1 := ok_is_word (P := l.prog) (w := w) (mg := mg) (base := base) M_Mg F1
  have G_is_word : Okd _ _ _ _ _ _ _ "is_word" _ [] _ := ⟨f1, _, [], at_ a1, k1, B1, .nil, O1⟩
  have O2 := ok_is_rising (P := l.prog) (w := w) (mg := mg) (base := base) M_Mg F2
  have G_is_rising : Okd _ _ _ _ _ _ _ "is_rising" _ [] _ := ⟨f2, _, [], at_ a2, k2, B2, .nil, O2⟩
  have O3 := ok_is_words (P := l.prog) (w := w) (mg := mg) (base := base) M_Mg G_is_word G_is_rising F3
  have G_is_words : Okd _ _ _ _ _ _ _ "is_words" _ [] _ := ⟨f3, _, [], at_ a3, k3, B3, .nil, O3⟩
  have O4 := ok_are_hands (P := l.prog) (w := w) (mg := mg) (base := base) M_Mg G_is_words F4
  have G_are_hands : Okd _ _ _ _ _ _ _ "are_hands" _ [] _ := ⟨f4, _, [], at_ a4, k4, B4, .nil, O4⟩
  have O5 := ok_is_row (P := l.prog) (w := w) (mg := mg) (base := base) M_Mg F5
  have G_is_row : Okd _ _ _ _ _ _ _ "is_row" _ [] _ := ⟨f5, _, [], at_ a5, k5, B5, .nil, O5⟩
  have O6 := ok_is_line (P := l.prog) (w := w) (mg := mg) (base := base) M_Mg G_is_row G_is_whole1 G_is_words F6
  have G_is_line : Okd _ _ _ _ _ _ _ "is_line" _ [] _ := ⟨f6, _, [], at_ a6, k6, B6, .nil, O6⟩
  have O7 := ok_are_lines (P := l.prog) (w := w) (mg := mg) (base := base) M_Mg G_is_line F7
  have G_are_lines : Okd _ _ _ _ _ _ _ "are_lines" _ [] _ := ⟨f7, _, [], at_ a7, k7, B7, .nil, O7⟩
  have O8 := ok_masks_of (P := l.prog) (w := w) (mg := mg) (base := base) M_MgO F8
  have G_masks_of : Okd _ _ _ _ _ _ _ "masks_of" _ [] _ := ⟨f8, _, [], at_ a8, k8, B8, .nil, O8⟩
  have O9 := ok_least_safe (P := l.prog) (w := w) (mg := mg) (base := base) M_MgO M_MgC G_masks_of F9
  have G_least_safe : Okd _ _ _ _ _ _ _ "least_safe" _ [] _ := ⟨f9, _, [], at_ a9, k9, B9, .nil, O9⟩
  have O10 := ok_name_in (P := l.prog) (w := w) (mg := mg) (base := base) G_least_safe F10
  have G_name_in : Okd _ _ _ _ _ _ _ "name_in" _ [] _ := ⟨f10, _, [], at_ a10, k10, B10, .nil, O10⟩
  have O21 := ok_Lots___init__ (P := l.prog) (w := w) (mg := mg) (base := base) TCL F21
  have G_Lots : Okc _ _ _ _ _ _ _ CL "Lots" _ [] _ := ⟨f21, _, [], QCL, ⟨mkCL, a21, i21, kcCL⟩, at_ aCL, B21, .nil, O21⟩
  have O22 := ok_Lots_new (P := l.prog) (w := w) (mg := mg) (base := base) M_MgO TCL F22
  have G_Lots_new : Okm _ _ _ _ _ _ _ CL "new" _ [] _ := ⟨f22, _, [], QCL, ⟨a22, i22, k22⟩, B22, .nil, O22⟩
  have O23 := ok_Lots_has (P := l.prog) (w := w) (mg := mg) (base := base) M_MgO TCL F23
  have G_Lots_has : Okm _ _ _ _ _ _ _ CL "has" _ [] _ := ⟨f23, _, [], QCL, ⟨a23, i23, k23⟩, B23, .nil, O23⟩
  have O24 := ok_Lots_has_all (P := l.prog) (w := w) (mg := mg) (base := base) M_MgO TCL G_Lots_has F24
  have G_Lots_has_all : Okm _ _ _ _ _ _ _ CL "has_all" _ [] _ := ⟨f24, _, [], QCL, ⟨a24, i24, k24⟩, B24, .nil, O24⟩
  have O26 := ok_Lots_head (P := l.prog) (w := w) (mg := mg) (base := base) TCL F26
  have G_Lots_head : Okm _ _ _ _ _ _ _ CL "head" _ [] _ := ⟨f26, _, [], QCL, ⟨a26, i26, k26⟩, B26, .nil, O26⟩
  have O27 := ok_Lots_unknown (P := l.prog) (w := w) (mg := mg) (base := base) M_MgO TCL F27
  have G_Lots_unknown : Okm _ _ _ _ _ _ _ CL "unknown" _ [] _ := ⟨f27, _, [], QCL, ⟨a27, i27, k27⟩, B27, .nil, O27⟩
  have O25 := ok_Lots_may_stand (P := l.prog) (w := w) (mg := mg) (base := base) M_MgO TCL G_Lots_unknown F25
  have G_Lots_may_stand : Okm _ _ _ _ _ _ _ CL "may_stand" _ [] _ := ⟨f25, _, [], QCL, ⟨a25, i25, k25⟩, B25, .nil, O25⟩
  have O28 := ok_Lots_learn (P := l.prog) (w := w) (mg := mg) (base := base) M_MgO TCL F28
  have G_Lots_learn : Okm _ _ _ _ _ _ _ CL "learn" _ [] _ := ⟨f28, _, [], QCL, ⟨a28, i28, k28⟩, B28, .nil, O28⟩
  have O29 := ok_Lots_unite (P := l.prog) (w := w) (mg := mg) (base := base) M_MgO TCL G_Lots_learn F29
  have G_Lots_unite : Okm _ _ _ _ _ _ _ CL "unite" _ [] _ := ⟨f29, _, [], QCL, ⟨a29, i29, k29⟩, B29, .nil, O29⟩
  have O30 := ok_Lots_listed (P := l.prog) (w := w) (mg := mg) (base := base) M_MgO TCL F30
  have G_Lots_listed : Okm _ _ _ _ _ _ _ CL "listed" _ [] _ := ⟨f30, _, [], QCL, ⟨a30, i30, k30⟩, B30, .nil, O30⟩
  have O11 := ok_lots_of (P := l.prog) (w := w) (mg := mg) (base := base) M_MgO G_Lots G_Lots_listed F11
  have G_lots_of : Okd _ _ _ _ _ _ _ "lots_of" _ [] _ := ⟨f11, _, [], at_ a11, k11, B11, .nil, O11⟩
  have O31 := ok_Sheet___init__ (P := l.prog) (w := w) (mg := mg) (base := base) TCS F31
  have G_Sheet : Okc _ _ _ _ _ _ _ CS "Sheet" _ [] _ := ⟨f31, _, [], QCS, ⟨mkCS, a31, i31, kcCS⟩, at_ aCS, B31, .nil, O31⟩
  have O32 := ok_Keeping___init__ (P := l.prog) (w := w) (mg := mg) (base := base) TCK F32
  have G_Keeping : Okc _ _ _ _ _ _ _ CK "Keeping" _ [] _ := ⟨f32, _, [], QCK, ⟨mkCK, a32, i32, kcCK⟩, at_ aCK, B32, .nil, O32⟩
  have O33 := ok_Keeping_kept_numbers (P := l.prog) (w := w) (mg := mg) (base := base) M_MgO TCK F33
  have G_Keeping_kept_numbers : Okm _ _ _ _ _ _ _ CK "kept_numbers" _ [] _ := ⟨f33, _, [], QCK, ⟨a33, i33, k33⟩, B33, .nil, O33⟩
  have O34 := ok_Keeping_read_numbers (P := l.prog) (w := w) (mg := mg) (base := base) M_MgO TCK G_Keeping_kept_numbers F34
  have G_Keeping_read_numbers : Okm _ _ _ _ _ _ _ CK "read_numbers" _ [] _ := ⟨f34, _, [], QCK, ⟨a34, i34, k34⟩, B34, .nil, O34⟩
  have O35 := ok_Keeping_told_by (P := l.prog) (w := w) (mg := mg) (base := base) TCK F35
  have G_Keeping_told_by : Okm _ _ _ _ _ _ _ CK "told_by" _ [] _ := ⟨f35, _, [], QCK, ⟨a35, i35, k35⟩, B35, .nil, O35⟩
  have O36 := ok_Keeping_ground (P := l.prog) (w := w) (mg := mg) (base := base) M_MgO TCK G_Keeping_told_by F36
  have G_Keeping_ground : Okm _ _ _ _ _ _ _ CK "ground" _ [] _ := ⟨f36, _, [], QCK, ⟨a36, i36, k36⟩, B36, .nil, O36⟩
  have O37 := ok_Keeping_own_ground (P := l.prog) (w := w) (mg := mg) (base := base) TCK G_Keeping_kept_numbers G_Keeping_ground F37
  have G_Keeping_own_ground : Okm _ _ _ _ _ _ _ CK "own_ground" _ [] _ := ⟨f37, _, [], QCK, ⟨a37, i37, k37⟩, B37, .nil, O37⟩
  have O38 := ok_Keeping_file (P := l.prog) (w := w) (mg := mg) (base := base) M_MgO TCK G_lots_of F38
  have G_Keeping_file : Okm _ _ _ _ _ _ _ CK "file" _ [] _ := ⟨f38, _, [], QCK, ⟨a38, i38, k38⟩, B38, .nil, O38⟩
  have O39 := ok_Keeping_next_sheet (P := l.prog) (w := w) (mg := mg) (base := base) M_MgO TCK G_Sheet F39
  have G_Keeping_next_sheet : Okm _ _ _ _ _ _ _ CK "next_sheet" _ [] _ := ⟨f39, _, [], QCK, ⟨a39, i39, k39⟩, B39, .nil, O39⟩
  have O40 := ok_Keeping_keep (P := l.prog) (w := w) (mg := mg) (base := base) M_MgO M_MgK TCK TCS F40
  have G_Keeping_keep : Okm _ _ _ _ _ _ _ CK "keep" _ [] _ := ⟨f40, _, [], QCK, ⟨a40, i40, k40⟩, B40, .nil, O40⟩
  have O41 := ok_Keeping_give_cards (P := l.prog) (w := w) (mg := mg) (base := base) M_MgK TCK TCS F41
  have G_Keeping_give_cards : Okm _ _ _ _ _ _ _ CK "give_cards" _ [] _ := ⟨f41, _, [], QCK, ⟨a41, i41, k41⟩, B41, .nil, O41⟩
  have O50 := ok_Hand_check_card (P := l.prog) (w := w) (mg := mg) (base := base) TC G_is_whole1 G_Lots_has G_NoCard F50
  have G_Hand_check_card : Okm _ _ _ _ _ _ _ C "check_card" _ [] _ := ⟨f50, _, [], QC, ⟨a50, i50, k50⟩, B50, .nil, O50⟩
  have O51 := ok_Hand_keeping (P := l.prog) (w := w) (mg := mg) (base := base) TC G_NoHand F51
  have G_Hand_keeping : Okm _ _ _ _ _ _ _ C "keeping" _ [] _ := ⟨f51, _, [], QC, ⟨a51, i51, k51⟩, B51, .nil, O51⟩
  have O42 := ok_Hand___init__ (P := l.prog) (w := w) (mg := mg) (base := base) TC G_are_hands G_Lots G_Keeping G_NoHands G_NoHand F42
  have G_Hand : Okc _ _ _ _ _ _ _ C "Hand" _ [] _ := ⟨f42, _, [], QC, ⟨mkC, a42, i42, kcC⟩, at_ aC, B42, .nil, O42⟩
  have O43 := ok_Hand_see (P := l.prog) (w := w) (mg := mg) (base := base) TC G_is_words G_Lots_new G_NoWords F43
  have G_Hand_see : Okm _ _ _ _ _ _ _ C "see" _ [] _ := ⟨f43, _, [], QC, ⟨a43, i43, k43⟩, B43, .nil, O43⟩
  have O44 := ok_Hand_look (P := l.prog) (w := w) (mg := mg) (base := base) TC G_is_words G_Lots_learn G_Hand_check_card G_NoWords F44
  have G_Hand_look : Okm _ _ _ _ _ _ _ C "look" _ [] _ := ⟨f44, _, [], QC, ⟨a44, i44, k44⟩, B44, .nil, O44⟩
  have O45 := ok_Hand_one (P := l.prog) (w := w) (mg := mg) (base := base) TC G_Lots_unite G_Hand_check_card F45
  have G_Hand_one : Okm _ _ _ _ _ _ _ C "one" _ [] _ := ⟨f45, _, [], QC, ⟨a45, i45, k45⟩, B45, .nil, O45⟩
  have O47 := ok_Hand_file (P := l.prog) (w := w) (mg := mg) (base := base) TC G_Lots_listed F47
  have G_Hand_file : Okm _ _ _ _ _ _ _ C "file" _ [] _ := ⟨f47, _, [], QC, ⟨a47, i47, k47⟩, B47, .nil, O47⟩
  have O48 := ok_Hand_ground (P := l.prog) (w := w) (mg := mg) (base := base) G_Hand_keeping F48
  have G_Hand_ground : Okm _ _ _ _ _ _ _ C "ground" _ [] _ := ⟨f48, _, [], QC, ⟨a48, i48, k48⟩, B48, .nil, O48⟩
  have O49 := ok_Hand_kept (P := l.prog) (w := w) (mg := mg) (base := base) M_MgO TCK G_Hand_keeping F49
  have G_Hand_kept : Okm _ _ _ _ _ _ _ C "kept" _ [] _ := ⟨f49, _, [], QC, ⟨a49, i49, k49⟩, B49, .nil, O49⟩
  have O52 := ok_Hand_names (P := l.prog) (w := w) (mg := mg) (base := base) M_MgO TC G_Keeping_read_numbers F52
  have G_Hand_names : Okm _ _ _ _ _ _ _ C "names" _ [] _ := ⟨f52, _, [], QC, ⟨a52, i52, k52⟩, B52, .nil, O52⟩
  have O46 := ok_Hand_write (P := l.prog) (w := w) (mg := mg) (base := base) M_MgO TC TCK G_Hand_keeping G_are_lines G_Lots_has_all G_Lots_may_stand G_Lots_head G_Keeping_own_ground G_Keeping_file G_name_in G_Hand_names G_Keeping_next_sheet G_Keeping_keep G_Keeping_give_cards G_NoLines G_NoCard F46
  have G_Hand_write : Okm _ _ _ _ _ _ _ C "write" _ [] _ := ⟨f46, _, [], QC, ⟨a46, i46, k46⟩, B46, .nil, O46⟩
  have O12 := ok__law_at (P := l.prog) (w := w) (mg := mg) (base := base) M_MgW F12
  have G__law_at : Okd _ _ _ _ _ _ _ "_law_at" _ [] _ := ⟨f12, _, [], at_ a12, k12, B12, .nil, O12⟩
  have O13 := ok__law_mixed (P := l.prog) (w := w) (mg := mg) (base := base) F13
  have G__law_mixed : Okd _ _ _ _ _ _ _ "_law_mixed" _ [] _ := ⟨f13, _, [], at_ a13, k13, B13, .nil, O13⟩
  have O14 := ok__law_purse (P := l.prog) (w := w) (mg := mg) (base := base) M_MgW F14 G__law_at
  have G__law_purse : Okd _ _ _ _ _ _ _ "_law_purse" _ [] _ := ⟨f14, _, [], at_ a14, k14, B14, .nil, O14⟩
  have O15 := ok__law_draw (P := l.prog) (w := w) (mg := mg) (base := base) M_MgW F15 G__law_mixed
  have G__law_draw : Okd _ _ _ _ _ _ _ "_law_draw" _ [] _ := ⟨f15, _, [], at_ a15, k15, B15, .nil, O15⟩
  have kitT : KitT K (errA C_NoCard C_NoWords C_NoHand C_NoLines) C_SaidError := ⟨fun j hj => match j, hj with | 0, _ => ExNoCard | 1, _ => ExNoWords | 2, _ => ExNoHand | 3, _ => ExNoLines, fun j hj => match j, hj with | 0, _ => sNoCard | 1, _ => sNoWords | 2, _ => sNoHand | 3, _ => sNoLines, fun i j hi hj => match i, j, hi, hj with | 0, 0, _, _ => kkNoCard_NoCard | 0, 1, _, _ => kkNoCard_NoWords | 0, 2, _, _ => kkNoCard_NoHand | 0, 3, _, _ => kkNoCard_NoLines | 1, 0, _, _ => kkNoWords_NoCard | 1, 1, _, _ => kkNoWords_NoWords | 1, 2, _, _ => kkNoWords_NoHand | 1, 3, _, _ => kkNoWords_NoLines | 2, 0, _, _ => kkNoHand_NoCard | 2, 1, _, _ => kkNoHand_NoWords | 2, 2, _, _ => kkNoHand_NoHand | 2, 3, _, _ => kkNoHand_NoLines | 3, 0, _, _ => kkNoLines_NoCard | 3, 1, _, _ => kkNoLines_NoWords | 3, 2, _, _ => kkNoLines_NoHand | 3, 3, _, _ => kkNoLines_NoLines⟩
  have kitM : KitM K C_NoHands C_NoHand C_SaidError := ⟨ExNoHands, ExNoHand, sNoHands, sNoHand, kkNoHands_NoHands, kkNoHands_NoHand, kkNoHand_NoHands, kkNoHand_NoHand, knNoHands, knNoHand⟩
  have O16 := ok__law_told (P := l.prog) (w := w) (mg := mg) (base := base) M_MgL kitT (at_ aESaidError) (at_ aENoCard) (at_ aENoWords) (at_ aENoHand) (at_ aENoLines) G_Hand_see G_Hand_look G_Hand_one G_Hand_write G_Hand_ground G_Hand_kept F16
  have G__law_told : Okd _ _ _ _ _ _ _ "_law_told" _ [] _ := ⟨f16, _, [], at_ a16, k16, B16, .nil, O16⟩
  have O17 := ok__law_made (P := l.prog) (w := w) (mg := mg) (base := base) M_MgL kitM (at_ aESaidError) (at_ aENoHand) (at_ aENoHands) G_Hand F17
  have G__law_made : Okd _ _ _ _ _ _ _ "_law_made" _ [] _ := ⟨f17, _, [], at_ a17, k17, B17, .nil, O17⟩
  have O18 := ok__law_bad_words (P := l.prog) (w := w) (mg := mg) (base := base) F18 G__law_draw
  have G__law_bad_words : Okd _ _ _ _ _ _ _ "_law_bad_words" _ [] _ := ⟨f18, _, [], at_ a18, k18, B18, .nil, O18⟩
  have O19 := ok__law_doors (P := l.prog) (w := w) (mg := mg) (base := base) F19 G__law_draw G__law_bad_words
  have G__law_doors : Okd _ _ _ _ _ _ _ "_law_doors" _ [] _ := ⟨f19, _, [], at_ a19, k19, B19, .nil, O19⟩
  have O20 := ok_law (P := l.prog) (w := w) (mg := mg) (base := base) M_MgZ TC G__law_purse G__law_draw G_Hand G__law_told G__law_doors G__law_made G_Hand_file G_Hand_see G_Hand_kept F20
  exact O20
theorem walk {l : PySem.W.OpenLaw} {q : Program} {loose : List Str} {XP : (Str → Option Value) → Heap → Prop} {YP : World → Heap → Prop} {d : DefRec} {K : Params → PySem.W.Frag} (hn : l.most = some 63) (hdf : d.params.defaults = [])
    (hY : ∀ (w : World) (h : Heap), YP w h → (K w.params).In h) (hT : True)
    (F : ∀ (w : World) (mg : Str → Option Value) (fa : Addr) (h : Heap), (K w.params).In h → h.Ns mainGlobals mg → mg d.name = some (.ref fa) → ∃ fd : FuncData, (∀ (s : Shared) (u : Value), BindsTo s fd ⟨[u], []⟩ [("script", u)]) ∧ ∀ base : Heap, (K w.params).In base → base.Ns mainGlobals mg → FnOk l.prog w (K w.params) mg base CX0 7 fa fd ["script"] (spLaw (K w.params))) :
    PySem.W.WalkO q loose XP YP l.row.toRowW d [] (fun f vs => PySem.call f vs) :=
  L2.walk_of (n := 63) (k := 7) (x := "script") (CX := fun _ => CX0) (sp := fun w => spLaw (K w.params)) hn (by decide) hdf ⟨rfl, by decide, by decide⟩ hY F (fun _ _ a ns hl _ hS => ⟨a, ns, rfl, hS, hl, fun _ => rfl⟩) fun _ _ _ _ _ z => z
end Sg
open PySem PySem.W PyProof.Rows in
set_option maxRecDepth 100000 in
set_option maxHeartbeats 0 in
theorem PySem.Challenge.cw_saidground_k23_doors_of_a_hand_holds : PySem.Challenge.rw_saidground_k23_doors_of_a_hand.Holds := by
  w_on; o_law; k_head; (case hw => w_witness2)
  k_fill
  refine Sg.walk (l := PySem.Challenge.rw_saidground_k23_doors_of_a_hand) rfl rfl (fun w h Y => PySem.W.kIn_of Y) trivial ?F
  case F =>
    intro w mg fa h KX G hmg
    refine' Sg.all_mk KX G hmg ?aCL ?aCS ?aCK ?aC ?aENoCard ?aENoWords ?aENoHand ?aENoLines ?aENoHands ?aESaidError ?a0 ?l0 ?lT ?c0 ?k0 ?a1 ?l1 ?c1 ?k1 ?a2 ?l2 ?c2 ?k2 ?a3 ?l3 ?c3 ?k3 ?a4 ?l4 ?c4 ?k4 ?a5 ?l5 ?c5 ?k5 ?a6 ?l6 ?c6 ?k6 ?a7 ?l7 ?c7 ?k7 ?a8 ?l8 ?c8 ?k8 ?a9 ?l9 ?c9 ?k9 ?a10 ?l10 ?c10 ?k10 ?a11 ?l11 ?c11 ?k11 ?a12 ?l12 ?c12 ?k12 ?a13 ?l13 ?c13 ?k13 ?a14 ?l14 ?c14 ?k14 ?a15 ?l15 ?c15 ?k15 ?a16 ?l16 ?c16 ?k16 ?a17 ?l17 ?c17 ?k17 ?a18 ?l18 ?c18 ?k18 ?a19 ?l19 ?c19 ?k19 ?a20 ?l20 ?c20 ?k20 ?a21 ?i21 ?l21 ?c21 ?k21 ?a22 ?i22 ?l22 ?c22 ?k22 ?a23 ?i23 ?l23 ?c23 ?k23 ?a24 ?i24 ?l24 ?c24 ?k24 ?a25 ?i25 ?l25 ?c25 ?k25 ?a26 ?i26 ?l26 ?c26 ?k26 ?a27 ?i27 ?l27 ?c27 ?k27 ?a28 ?i28 ?l28 ?c28 ?k28 ?a29 ?i29 ?l29 ?c29 ?k29 ?a30 ?i30 ?l30 ?c30 ?k30 ?a31 ?i31 ?l31 ?c31 ?k31 ?a32 ?i32 ?l32 ?c32 ?k32 ?a33 ?i33 ?l33 ?c33 ?k33 ?a34 ?i34 ?l34 ?c34 ?k34 ?a35 ?i35 ?l35 ?c35 ?k35 ?a36 ?i36 ?l36 ?c36 ?k36 ?a37 ?i37 ?l37 ?c37 ?k37 ?a38 ?i38 ?l38 ?c38 ?k38 ?a39 ?i39 ?l39 ?c39 ?k39 ?a40 ?i40 ?l40 ?c40 ?k40 ?a41 ?i41 ?l41 ?c41 ?k41 ?a42 ?i42 ?l42 ?c42 ?k42 ?a43 ?i43 ?l43 ?c43 ?k43 ?a44 ?i44 ?l44 ?c44 ?k44 ?a45 ?i45 ?l45 ?c45 ?k45 ?a46 ?i46 ?l46 ?c46 ?k46 ?a47 ?i47 ?l47 ?c47 ?k47 ?a48 ?i48 ?l48 ?c48 ?k48 ?a49 ?i49 ?l49 ?c49 ?k49 ?a50 ?i50 ?l50 ?c50 ?k50 ?a51 ?i51 ?l51 ?c51 ?k51 ?a52 ?i52 ?l52 ?c52 ?k52 ?pgCL ?hdCL ?poCL ?saCL ?mkCL ?kcCL ?nCL_heads ?nCL_members ?nCL_words ?pgCS ?hdCS ?poCS ?saCS ?mkCS ?kcCS ?nCS_names ?nCS_descriptions ?nCS_places ?nCS_meant ?pgCK ?hdCK ?poCK ?saCK ?mkCK ?kcCK ?nCK_hand ?nCK_other ?nCK_written ?nCK_read_all ?nCK_count ?nCK_laid ?nCK_said ?nCK_cards ?nCK_sheets ?pgC ?hdC ?poC ?saC ?mkC ?kcC ?nC_hand ?nC_hands ?nC_lots ?nC_keepings ?z_all ?z_any ?z_bool ?z_enumerate ?z_int ?z_isinstance ?z_len ?z_list ?z_max ?z_min ?z_range ?z_set ?z_sorted ?z_str ?z_sum ?z_tuple ?z_zip ?cSIGNS ?cLONGEST ?cFEWEST_HANDS ?cMOST_HANDS ?cComb ?xNoCard ?yNoCard ?bNoCard ?tNoCard ?g1NoCard ?g2NoCard ?g4NoCard ?g5NoCard ?g8NoCard ?ieNoCard ?suNoCard ?unNoCard ?uuNoCard_NoCard ?uuNoCard_NoWords ?uuNoCard_NoHand ?uuNoCard_NoLines ?uuNoCard_NoHands ?xNoWords ?yNoWords ?bNoWords ?tNoWords ?g1NoWords ?g2NoWords ?g4NoWords ?g5NoWords ?g8NoWords ?ieNoWords ?suNoWords ?unNoWords ?uuNoWords_NoCard ?uuNoWords_NoWords ?uuNoWords_NoHand ?uuNoWords_NoLines ?uuNoWords_NoHands ?xNoHand ?yNoHand ?bNoHand ?tNoHand ?g1NoHand ?g2NoHand ?g4NoHand ?g5NoHand ?g8NoHand ?ieNoHand ?suNoHand ?unNoHand ?uuNoHand_NoCard ?uuNoHand_NoWords ?uuNoHand_NoHand ?uuNoHand_NoLines ?uuNoHand_NoHands ?xNoLines ?yNoLines ?bNoLines ?tNoLines ?g1NoLines ?g2NoLines ?g4NoLines ?g5NoLines ?g8NoLines ?ieNoLines ?suNoLines ?unNoLines ?uuNoLines_NoCard ?uuNoLines_NoWords ?uuNoLines_NoHand ?uuNoLines_NoLines ?uuNoLines_NoHands ?xNoHands ?yNoHands ?bNoHands ?tNoHands ?g1NoHands ?g2NoHands ?g4NoHands ?g5NoHands ?g8NoHands ?ieNoHands ?suNoHands ?unNoHands ?uuNoHands_NoCard ?uuNoHands_NoWords ?uuNoHands_NoHand ?uuNoHands_NoLines ?uuNoHands_NoHands ?bSaidError ?tSaidError ?ieSaidError ?g6 ?g7
    (case aCL => k_is)
    (case aCS => k_is)
    (case aCK => k_is)
    (case aC => k_is)
    (case aENoCard => k_is)
    (case aENoWords => k_is)
    (case aENoHand => k_is)
    (case aENoLines => k_is)
    (case aENoHands => k_is)
    (case aESaidError => k_is)
    (case a0 => k_is)
    (case l0 => k_is)
    (case lT => k_is)
    (case c0 => k_is)
    (case k0 => k_is)
    (case a1 => k_is)
    (case l1 => k_is)
    (case c1 => k_is)
    (case k1 => k_is)
    (case a2 => k_is)
    (case l2 => k_is)
    (case c2 => k_is)
    (case k2 => k_is)
    (case a3 => k_is)
    (case l3 => k_is)
    (case c3 => k_is)
    (case k3 => k_is)
    (case a4 => k_is)
    (case l4 => k_is)
    (case c4 => k_is)
    (case k4 => k_is)
    (case a5 => k_is)
    (case l5 => k_is)
    (case c5 => k_is)
    (case k5 => k_is)
    (case a6 => k_is)
    (case l6 => k_is)
    (case c6 => k_is)
    (case k6 => k_is)
    (case a7 => k_is)
    (case l7 => k_is)
    (case c7 => k_is)
    (case k7 => k_is)
    (case a8 => k_is)
    (case l8 => k_is)
    (case c8 => k_is)
    (case k8 => k_is)
    (case a9 => k_is)
    (case l9 => k_is)
    (case c9 => k_is)
    (case k9 => k_is)
    (case a10 => k_is)
    (case l10 => k_is)
    (case c10 => k_is)
    (case k10 => k_is)
    (case a11 => k_is)
    (case l11 => k_is)
    (case c11 => k_is)
    (case k11 => k_is)
    (case a12 => k_is)
    (case l12 => k_is)
    (case c12 => k_is)
    (case k12 => k_is)
    (case a13 => k_is)
    (case l13 => k_is)
    (case c13 => k_is)
    (case k13 => k_is)
    (case a14 => k_is)
    (case l14 => k_is)
    (case c14 => k_is)
    (case k14 => k_is)
    (case a15 => k_is)
    (case l15 => k_is)
    (case c15 => k_is)
    (case k15 => k_is)
    (case a16 => k_is)
    (case l16 => k_is)
    (case c16 => k_is)
    (case k16 => k_is)
    (case a17 => k_is)
    (case l17 => k_is)
    (case c17 => k_is)
    (case k17 => k_is)
    (case a18 => k_is)
    (case l18 => k_is)
    (case c18 => k_is)
    (case k18 => k_is)
    (case a19 => k_is)
    (case l19 => k_is)
    (case c19 => k_is)
    (case k19 => k_is)
    (case a20 => k_is)
    (case l20 => k_is)
    (case c20 => k_is)
    (case k20 => k_is)
    (case a21 => k_is)
    (case i21 => k_is)
    (case l21 => k_is)
    (case c21 => k_is)
    (case k21 => k_is)
    (case a22 => k_is)
    (case i22 => k_is)
    (case l22 => k_is)
    (case c22 => k_is)
    (case k22 => k_is)
    (case a23 => k_is)
    (case i23 => k_is)
    (case l23 => k_is)
    (case c23 => k_is)
    (case k23 => k_is)
    (case a24 => k_is)
    (case i24 => k_is)
    (case l24 => k_is)
    (case c24 => k_is)
    (case k24 => k_is)
    (case a25 => k_is)
    (case i25 => k_is)
    (case l25 => k_is)
    (case c25 => k_is)
    (case k25 => k_is)
    (case a26 => k_is)
    (case i26 => k_is)
    (case l26 => k_is)
    (case c26 => k_is)
    (case k26 => k_is)
    (case a27 => k_is)
    (case i27 => k_is)
    (case l27 => k_is)
    (case c27 => k_is)
    (case k27 => k_is)
    (case a28 => k_is)
    (case i28 => k_is)
    (case l28 => k_is)
    (case c28 => k_is)
    (case k28 => k_is)
    (case a29 => k_is)
    (case i29 => k_is)
    (case l29 => k_is)
    (case c29 => k_is)
    (case k29 => k_is)
    (case a30 => k_is)
    (case i30 => k_is)
    (case l30 => k_is)
    (case c30 => k_is)
    (case k30 => k_is)
    (case a31 => k_is)
    (case i31 => k_is)
    (case l31 => k_is)
    (case c31 => k_is)
    (case k31 => k_is)
    (case a32 => k_is)
    (case i32 => k_is)
    (case l32 => k_is)
    (case c32 => k_is)
    (case k32 => k_is)
    (case a33 => k_is)
    (case i33 => k_is)
    (case l33 => k_is)
    (case c33 => k_is)
    (case k33 => k_is)
    (case a34 => k_is)
    (case i34 => k_is)
    (case l34 => k_is)
    (case c34 => k_is)
    (case k34 => k_is)
    (case a35 => k_is)
    (case i35 => k_is)
    (case l35 => k_is)
    (case c35 => k_is)
    (case k35 => k_is)
    (case a36 => k_is)
    (case i36 => k_is)
    (case l36 => k_is)
    (case c36 => k_is)
    (case k36 => k_is)
    (case a37 => k_is)
    (case i37 => k_is)
    (case l37 => k_is)
    (case c37 => k_is)
    (case k37 => k_is)
    (case a38 => k_is)
    (case i38 => k_is)
    (case l38 => k_is)
    (case c38 => k_is)
    (case k38 => k_is)
    (case a39 => k_is)
    (case i39 => k_is)
    (case l39 => k_is)
    (case c39 => k_is)
    (case k39 => k_is)
    (case a40 => k_is)
    (case i40 => k_is)
    (case l40 => k_is)
    (case c40 => k_is)
    (case k40 => k_is)
    (case a41 => k_is)
    (case i41 => k_is)
    (case l41 => k_is)
    (case c41 => k_is)
    (case k41 => k_is)
    (case a42 => k_is)
    (case i42 => k_is)
    (case l42 => k_is)
    (case c42 => k_is)
    (case k42 => k_is)
    (case a43 => k_is)
    (case i43 => k_is)
    (case l43 => k_is)
    (case c43 => k_is)
    (case k43 => k_is)
    (case a44 => k_is)
    (case i44 => k_is)
    (case l44 => k_is)
    (case c44 => k_is)
    (case k44 => k_is)
    (case a45 => k_is)
    (case i45 => k_is)
    (case l45 => k_is)
    (case c45 => k_is)
    (case k45 => k_is)
    (case a46 => k_is)
    (case i46 => k_is)
    (case l46 => k_is)
    (case c46 => k_is)
    (case k46 => k_is)
    (case a47 => k_is)
    (case i47 => k_is)
    (case l47 => k_is)
    (case c47 => k_is)
    (case k47 => k_is)
    (case a48 => k_is)
    (case i48 => k_is)
    (case l48 => k_is)
    (case c48 => k_is)
    (case k48 => k_is)
    (case a49 => k_is)
    (case i49 => k_is)
    (case l49 => k_is)
    (case c49 => k_is)
    (case k49 => k_is)
    (case a50 => k_is)
    (case i50 => k_is)
    (case l50 => k_is)
    (case c50 => k_is)
    (case k50 => k_is)
    (case a51 => k_is)
    (case i51 => k_is)
    (case l51 => k_is)
    (case c51 => k_is)
    (case k51 => k_is)
    (case a52 => k_is)
    (case i52 => k_is)
    (case l52 => k_is)
    (case c52 => k_is)
    (case k52 => k_is)
    (case pgCL => k_is)
    (case hdCL => k_is)
    (case poCL => k_is)
    (case saCL => k_is)
    (case mkCL => k_is)
    (case kcCL => k_is)
    (case nCL_heads => k_is)
    (case nCL_members => k_is)
    (case nCL_words => k_is)
    (case pgCS => k_is)
    (case hdCS => k_is)
    (case poCS => k_is)
    (case saCS => k_is)
    (case mkCS => k_is)
    (case kcCS => k_is)
    (case nCS_names => k_is)
    (case nCS_descriptions => k_is)
    (case nCS_places => k_is)
    (case nCS_meant => k_is)
    (case pgCK => k_is)
    (case hdCK => k_is)
    (case poCK => k_is)
    (case saCK => k_is)
    (case mkCK => k_is)
    (case kcCK => k_is)
    (case nCK_hand => k_is)
    (case nCK_other => k_is)
    (case nCK_written => k_is)
    (case nCK_read_all => k_is)
    (case nCK_count => k_is)
    (case nCK_laid => k_is)
    (case nCK_said => k_is)
    (case nCK_cards => k_is)
    (case nCK_sheets => k_is)
    (case pgC => k_is)
    (case hdC => k_is)
    (case poC => k_is)
    (case saC => k_is)
    (case mkC => k_is)
    (case kcC => k_is)
    (case nC_hand => k_is)
    (case nC_hands => k_is)
    (case nC_lots => k_is)
    (case nC_keepings => k_is)
    (case z_all => k_is)
    (case z_any => k_is)
    (case z_bool => k_is)
    (case z_enumerate => k_is)
    (case z_int => k_is)
    (case z_isinstance => k_is)
    (case z_len => k_is)
    (case z_list => k_is)
    (case z_max => k_is)
    (case z_min => k_is)
    (case z_range => k_is)
    (case z_set => k_is)
    (case z_sorted => k_is)
    (case z_str => k_is)
    (case z_sum => k_is)
    (case z_tuple => k_is)
    (case z_zip => k_is)
    (case cSIGNS => k_is)
    (case cLONGEST => k_is)
    (case cFEWEST_HANDS => k_is)
    (case cMOST_HANDS => k_is)
    (case cComb => k_is)
    (case xNoCard => k_exc)
    (case yNoCard => k_is)
    (case bNoCard => k_is)
    (case tNoCard => k_is)
    (case g1NoCard => k_is)
    (case g2NoCard => k_is)
    (case g4NoCard => k_is)
    (case g5NoCard => k_is)
    (case g8NoCard => k_is)
    (case ieNoCard => k_is)
    (case suNoCard => k_is)
    (case unNoCard => k_is)
    (case uuNoCard_NoCard => first | rfl | k_is)
    (case uuNoCard_NoWords => k_is)
    (case uuNoCard_NoHand => k_is)
    (case uuNoCard_NoLines => k_is)
    (case uuNoCard_NoHands => k_is)
    (case xNoWords => k_exc)
    (case yNoWords => k_is)
    (case bNoWords => k_is)
    (case tNoWords => k_is)
    (case g1NoWords => k_is)
    (case g2NoWords => k_is)
    (case g4NoWords => k_is)
    (case g5NoWords => k_is)
    (case g8NoWords => k_is)
    (case ieNoWords => k_is)
    (case suNoWords => k_is)
    (case unNoWords => k_is)
    (case uuNoWords_NoCard => k_is)
    (case uuNoWords_NoWords => first | rfl | k_is)
    (case uuNoWords_NoHand => k_is)
    (case uuNoWords_NoLines => k_is)
    (case uuNoWords_NoHands => k_is)
    (case xNoHand => k_exc)
    (case yNoHand => k_is)
    (case bNoHand => k_is)
    (case tNoHand => k_is)
    (case g1NoHand => k_is)
    (case g2NoHand => k_is)
    (case g4NoHand => k_is)
    (case g5NoHand => k_is)
    (case g8NoHand => k_is)
    (case ieNoHand => k_is)
    (case suNoHand => k_is)
    (case unNoHand => k_is)
    (case uuNoHand_NoCard => k_is)
    (case uuNoHand_NoWords => k_is)
    (case uuNoHand_NoHand => first | rfl | k_is)
    (case uuNoHand_NoLines => k_is)
    (case uuNoHand_NoHands => k_is)
    (case xNoLines => k_exc)
    (case yNoLines => k_is)
    (case bNoLines => k_is)
    (case tNoLines => k_is)
    (case g1NoLines => k_is)
    (case g2NoLines => k_is)
    (case g4NoLines => k_is)
    (case g5NoLines => k_is)
    (case g8NoLines => k_is)
    (case ieNoLines => k_is)
    (case suNoLines => k_is)
    (case unNoLines => k_is)
    (case uuNoLines_NoCard => k_is)
    (case uuNoLines_NoWords => k_is)
    (case uuNoLines_NoHand => k_is)
    (case uuNoLines_NoLines => first | rfl | k_is)
    (case uuNoLines_NoHands => k_is)
    (case xNoHands => k_exc)
    (case yNoHands => k_is)
    (case bNoHands => k_is)
    (case tNoHands => k_is)
    (case g1NoHands => k_is)
    (case g2NoHands => k_is)
    (case g4NoHands => k_is)
    (case g5NoHands => k_is)
    (case g8NoHands => k_is)
    (case ieNoHands => k_is)
    (case suNoHands => k_is)
    (case unNoHands => k_is)
    (case uuNoHands_NoCard => k_is)
    (case uuNoHands_NoWords => k_is)
    (case uuNoHands_NoHand => k_is)
    (case uuNoHands_NoLines => k_is)
    (case uuNoHands_NoHands => first | rfl | k_is)
    (case bSaidError => k_is)
    (case tSaidError => k_is)
    (case ieSaidError => k_is)
    (case g6 => k_is)
    (case g7 => k_is)
end
