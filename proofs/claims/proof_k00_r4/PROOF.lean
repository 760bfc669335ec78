import PyProof.Rows.All
import Wide.All
import OpenK.AllK
import Wide.FinOn
import HandS.ForMost
import HandS.ForExc
import HandS.Gcd
import HandS.Wide
import HandS.TupAny
import HandS.TupMul
import HandS.IsInst
import HandS.Defaults
import HandS.AnyAll
import HandS.Style
import HandS.Zip
import HandS.EndBits
import HandS.Small
import HandS.ExcIs
import HandS.ExcField
import HandS.Deep
import KE.GoesZip
import KE.GoesMore
import HandS.GenList
import HandS.MakeKwOnly
import HandS.EndTab
import KE.KNestM
import HandS.TryOnly
import HandS.Nested
import HandS.ExcInit
import HandS.FStr
import HandS.TryMany
import KE.KExcSuper
import HandS.Iter
import PyProof.ListRange
import PyProof.Rows.NestShow
import PyProof.ReprRoads
import PyProof.AutoSeq1
import KE.KDictZip
import HandS.ListItems
import HandS.Conv
import KE.GoesEnum
import HandS.Codes
import HandS.WideBits
import PySem.Challenge.RW_kinkmeasure_k00_errors_and_ratios
set_option Elab.async false
set_option linter.all false
set_option maxRecDepth 100000
set_option maxHeartbeats 4000000
/-! A layer of values without a heap: what an expression is worth, what a statement does, as plain functions. -/
namespace PD
open PySem PySem.Spec PyProof.Rows L2

/-! ### outcomes -/
abbrev Flds := List (Str × PyData)
inductive RO (α : Type) where
  | ok (a : α)
  | er (c : Str) (fl : Flds)
  | no
def RO.bind {α β : Type} (r : RO α) (f : α → RO β) : RO β := match r with
  | .ok a => f a
  | .er c fl => .er c fl
  | .no => .no
instance : Monad RO where
  pure := .ok
  bind := RO.bind
theorem RO.bind_ok {α β : Type} (a : α) (f : α → RO β) : ((RO.ok a) >>= f) = f a := rfl
theorem RO.bind_er {α β : Type} (c : Str) (fl : Flds) (f : α → RO β) : ((RO.er c fl : RO α) >>= f) = .er c fl := rfl
theorem RO.pure_ok {α : Type} (a : α) : (pure a : RO α) = .ok a := rfl

/-- a slot: a value that nobody changes, or a list that this frame alone holds -/
inductive SV where
  | fz (d : PyData)
  | own (ds : List PyData)
  | ob (c : Str) (fs : List (Str × PyData))
  | me
abbrev Env := List (Option SV)
abbrev Sg := L2.St
abbrev E := Env → RO PyData
abbrev T := Env → RO Bool
inductive SO where
  | nx (e : Env)
  | rt (d : PyData)
  | bk (e : Env)
  | ct (e : Env)
  | er (e : Env) (c : Str) (fl : Flds)
  | no
abbrev S := Env → SO

/-! ### heaps that grow -/
def Ext (H H' : Hp) : Prop := ∀ a o, H a = some o → H' a = some o ∨ ∃ ps more, o = .tbl ps ∧ H' a = some (.tbl (ps ++ more)) ∧ (TriplesOk ps.toList → TriplesOk (ps ++ more).toList)
theorem Ext.refl (H : Hp) : Ext H H := fun _ _ h => .inl h
theorem Ext.trans {H H1 H2 : Hp} (a : Ext H H1) (b : Ext H1 H2) : Ext H H2 := fun x o h => by
  rcases a x o h with h1 | ⟨ps, more, rfl, h1, t1⟩
  · exact b x o h1
  · rcases b x _ h1 with h2 | ⟨ps2, more2, e, h2, t2⟩
    · exact .inr ⟨ps, more, rfl, h2, t1⟩
    · injection e with e
      subst e
      exact .inr ⟨ps, more ++ more2, rfl, by rw [h2, Array.append_assoc], fun t => by rw [← Array.append_assoc]; exact t2 (t1 t)⟩
theorem Ext.new {H : Hp} {p : Addr} {o : HO} (h : H p = none) : Ext H (upd H p o) := fun a u e => .inl (by
  rw [upd_ne (ne_of_none e h)]
  exact e)
theorem Ext.fresh {H H' : Hp} {p : Addr} (e : Ext H H') (h : H' p = none) : H p = none := by
  cases h1 : H p with
  | none => rfl
  | some o =>
    rcases e p o h1 with h2 | ⟨_, _, _, h2, _⟩ <;> rw [h] at h2 <;> cases h2
theorem Ext.lst {H H' : Hp} (e : Ext H H') {a : Addr} {xs : List V} (h : H a = some (.lst xs)) : H' a = some (.lst xs) := by
  rcases e a _ h with h | ⟨_, _, q, _⟩
  · exact h
  · cases q
theorem Ext.at {H H' : Hp} (e : Ext H H') {a : Addr} {o : HO} (h : H a = some o) (n : ∀ ps, o ≠ .tbl ps) : H' a = some o := by
  rcases e a _ h with h | ⟨ps, _, q, _⟩
  · exact h
  · exact absurd q (n ps)
/-- without the addresses in O -/
def hid (O : List Addr) (H : Hp) : Hp := fun a => if a ∈ O then none else H a
theorem hid_in {O : List Addr} {H : Hp} {a : Addr} (h : a ∈ O) : hid O H a = none := if_pos h
theorem hid_out {O : List Addr} {H : Hp} {a : Addr} (h : a ∉ O) : hid O H a = H a := if_neg h
theorem hid_some {O : List Addr} {H : Hp} {a : Addr} {o : HO} (h : hid O H a = some o) : a ∉ O ∧ H a = some o := by
  unfold hid at h
  split at h
  · cases h
  · exact ⟨by assumption, h⟩
theorem hid_nil {H : Hp} : hid [] H = H := by
  funext a
  exact hid_out (by simp)
theorem Ext.hid {H H' : Hp} (e : Ext H H') (O : List Addr) : Ext (hid O H) (hid O H') := fun a o h => by
  obtain ⟨n, h⟩ := hid_some h
  rw [hid_out n]
  exact e a o h
theorem Ext.unhid {O : List Addr} {H : Hp} : Ext (PD.hid O H) H := fun a o h => .inl (hid_some h).2
theorem Ext.hid_sub {O O' : List Addr} {H : Hp} (h : ∀ a ∈ O', a ∈ O) : Ext (PD.hid O H) (PD.hid O' H) := fun a o e => by
  obtain ⟨n, e⟩ := hid_some e
  exact .inl (by rw [hid_out fun z => n (h a z)]; exact e)
section
variable {K : PySem.W.Frag} {H H' : Hp}
theorem Ext.rd (e : Ext H H') {a : Addr} {u : HO} (n : ∀ ps, u ≠ .tbl ps) (h : Rd H a u) : Rd H' a u := by
  rcases h with h | ⟨o, h⟩
  · exact .inl (e.at h n)
  · exact .inr ⟨o, e.at h fun _ => by intro z; cases z⟩
theorem Ext.sl (e : Ext H H') {a : Addr} {xs : List V} (h : SqL K H a xs) : SqL K H' a xs := by
  rcases h with h | h
  · exact .inl (e.rd (fun _ => by intro z; cases z) h)
  · exact .inr h
theorem Ext.st (e : Ext H H') {a : Addr} {xs : List V} (h : SqT K H a xs) : SqT K H' a xs := by
  rcases h with h | h
  · exact .inl (e.rd (fun _ => by intro z; cases z) h)
  · exact .inr h
mutual
theorem Ext.dp (e : Ext H H') : ∀ {d : PyData} {v : V}, Dp K H v d → Dp K H' v d
  | _, _, .non => .non
  | _, _, .bl b => .bl b
  | _, _, .int i => .int i
  | _, _, .str x => .str x
  | _, _, .lst h a => .lst (e.sl h) (Ext.dpa e a)
  | _, _, .tup h a => .tup (e.st h) (Ext.dpa e a)
theorem Ext.dpa (e : Ext H H') : ∀ {ds : List PyData} {vs : List V}, DpAll K H vs ds → DpAll K H' vs ds
  | _, _, .nil => .nil
  | _, _, .cons h t => .cons (Ext.dp e h) (Ext.dpa e t)
end
theorem dpa_len : ∀ {vs : List V} {ds : List PyData}, DpAll K H vs ds → vs.length = ds.length
  | _, _, .nil => rfl
  | _, _, .cons _ t => congrArg Nat.succ (dpa_len t)
theorem dpa_get : ∀ {vs : List V} {ds : List PyData} {i : Nat} {d : PyData}, DpAll K H vs ds → ds[i]? = some d → ∃ v, vs[i]? = some v ∧ Dp K H v d
  | _, _, _, _, .nil, e => by simp at e
  | _, _, 0, _, .cons h _, e => by simp at e; subst e; exact ⟨_, rfl, h⟩
  | _, _, i + 1, _, .cons _ t, e => by
    obtain ⟨v, h1, h2⟩ := dpa_get (i := i) t (by simpa using e)
    exact ⟨v, by simpa using h1, h2⟩
theorem dpa_app : ∀ {vs ws : List V} {ds es : List PyData}, DpAll K H vs ds → DpAll K H ws es → DpAll K H (vs ++ ws) (ds ++ es)
  | _, _, _, _, .nil, h => h
  | _, _, _, _, .cons h t, k => .cons h (dpa_app t k)
theorem dp_int {i : Int} {v : V} (h : Dp K H v (.int i)) : v = .int i := by cases h; rfl
theorem dp_str {i : Str} {v : V} (h : Dp K H v (.str i)) : v = .str i := by cases h; rfl
theorem dp_bool {i : Bool} {v : V} (h : Dp K H v (.bool i)) : v = .bl i := by cases h; rfl
theorem dp_none {v : V} (h : Dp K H v .none) : v = .non := by cases h; rfl
theorem dp_tup {ds : List PyData} {v : V} (h : Dp K H v (.tuple ds)) : ∃ a xs, v = .ref a ∧ SqT K H a xs ∧ DpAll K H xs ds := by cases h with | tup a b => exact ⟨_, _, rfl, a, b⟩
theorem dp_lst {ds : List PyData} {v : V} (h : Dp K H v (.list ds)) : ∃ a xs, v = .ref a ∧ SqL K H a xs ∧ DpAll K H xs ds := by cases h with | lst a b => exact ⟨_, _, rfl, a, b⟩
end

/-! ### frames -/
/-- the entry: the heap, what the caller hides -/
structure Zn where
  H0 : Hp
  Oc : List Addr
/-- an instance of the class that the name c holds, with fields that nobody changes -/
def ObR (K : PySem.W.Frag) (H : Hp) (v : V) (c : Str) (fs : List (Str × PyData)) : Prop := ∃ a C dx fvs, v = .ref a ∧ H a = some (.ins C dx fvs) ∧ PySem.W.nsIn K mainGlobals c = some (some (.ref C)) ∧ ∀ f d, fs.lookup f = some d → ∃ x, fvs.lookup f = some x ∧ Dp K H x d
theorem Ext.ob {K : PySem.W.Frag} {H H' : Hp} (e : Ext H H') {v : V} {c : Str} {fs : List (Str × PyData)} : ObR K H v c fs → ObR K H' v c fs := fun ⟨a, C, dx, fvs, h1, h2, h3, h4⟩ =>
  ⟨a, C, dx, fvs, h1, e.at h2 (fun _ z => by cases z), h3, fun f d l => let ⟨x, g1, g2⟩ := h4 f d l; ⟨x, g1, e.dp g2⟩⟩
/-- what is known of the caller's hidden lists; the address of the instance in hand -/
class Zp where
  at_ : Option Addr
  ok : Hp → List Addr → Prop
  cl : ∀ {H H' : Hp} {Oc Oc' : List Addr}, ok H Oc → (∀ a ∈ Oc, a ∈ Oc' ∧ H' a = H a) → Ext (hid Oc H) (hid Oc' H') → ok H' Oc'
instance zp0 : Zp := ⟨none, fun _ _ => True, fun _ _ _ => trivial⟩
def SRep [Zp] (K : PySem.W.Frag) (Oc : List Addr) (H : Hp) (O : List Addr) (v : V) : SV → Prop
  | .fz d => Dp K (hid O H) v d
  | .own ds => ∃ a vs, v = .ref a ∧ a ∈ O ∧ a ∉ Oc ∧ H a = some (.lst vs) ∧ DpAll K (hid O H) vs ds
  | .ob c fs => ObR K (hid O H) v c fs
  | .me => ∃ a, Zp.at_ = some a ∧ v = .ref a
/-- the tables of code objects that a generator expression may fill -/
class Tbs where
  l : List Addr
theorem tabG_ext {H H' : Hp} (e : Ext H H') {P : Addr} (h : GxR.TabG H P) : GxR.TabG H' P := by
  obtain ⟨ps, h1, h2⟩ := h
  rcases e P _ h1 with h3 | ⟨qs, more, e1, h3, h4⟩
  · exact ⟨ps, h3, h2⟩
  · cases e1
    exact ⟨ps ++ more, h3, h4 h2⟩
structure Rep [Tbs] [Zp] (K : PySem.W.Frag) (Z : Zn) (env : Env) (σ : Sg) (H : Hp) (O : List Addr) : Prop where
  ex : Ext (hid Z.Oc Z.H0) (hid O H)
  sub : ∀ a ∈ Z.Oc, a ∈ O
  kp : ∀ a ∈ Z.Oc, H a = Z.H0 a
  len : env.length = σ.length
  sl : ∀ (i : Nat) (s : SV), env[i]? = some (some s) → ∃ v, σ[i]? = some (some v) ∧ SRep K Z.Oc H O v s
  nd : ∀ (i j : Nat) (a : Addr) (di dj : List PyData), env[i]? = some (some (.own di)) → env[j]? = some (some (.own dj)) → σ[i]? = some (some (.ref a)) → σ[j]? = some (some (.ref a)) → i = j
  lv : ∀ a ∈ O, ∃ vs, H a = some (.lst vs)
  tb : ∀ P ∈ Tbs.l, GxR.TabG H P
  zp : Zp.ok Z.H0 Z.Oc
section
variable {K : PySem.W.Frag} {Z : Zn} {H H' : Hp} {env : Env} {σ : Sg} {O : List Addr}
variable [Tbs] [Zp]
theorem SRep.mono {Oc : List Addr} (e : Ext H H') {v : V} : ∀ {s : SV}, SRep K Oc H O v s → SRep K Oc H' O v s
  | .fz _, h => (e.hid O).dp h
  | .own _, ⟨a, vs, h1, h2, h2', h3, h4⟩ => ⟨a, vs, h1, h2, h2', e.lst h3, (e.hid O).dpa h4⟩
  | .ob _ _, h => (e.hid O).ob h
  | .me, h => h
theorem Rep.mono (e : Ext H H') (r : Rep K Z env σ H O) : Rep K Z env σ H' O :=
  ⟨r.ex.trans (e.hid O), r.sub, fun a ha => by
    obtain ⟨vs, h⟩ := r.lv a (r.sub a ha)
    rw [e.lst h, ← r.kp a ha, h], r.len, fun i s h => let ⟨v, h1, h2⟩ := r.sl i s h; ⟨v, h1, h2.mono e⟩, r.nd, fun a ha => let ⟨vs, h⟩ := r.lv a ha; ⟨vs, e.lst h⟩, fun P hP => tabG_ext e (r.tb P hP), r.zp⟩
/-- what stood at the entry stands -/
theorem Rep.whole (r : Rep K Z env σ H O) : Ext Z.H0 H := fun a o h => by
  by_cases ha : a ∈ Z.Oc
  · exact .inl (by rw [r.kp a ha]; exact h)
  · have h1 : hid Z.Oc Z.H0 a = some o := by rw [hid_out ha]; exact h
    exact (r.ex.trans Ext.unhid) a o h1
theorem set_some {α : Type} {l : List (Option α)} {i j : Nat} {x : Option α} {s : α} (e : (l.set i x)[j]? = some (some s)) : (j = i ∧ j < l.length ∧ x = some s) ∨ (j ≠ i ∧ l[j]? = some (some s)) := by
  by_cases hj : j = i
  · subst hj
    by_cases z : j < l.length
    · rw [List.getElem?_set_self z] at e
      exact .inl ⟨rfl, z, Option.some.inj e⟩
    · rw [List.getElem?_eq_none (by simpa using z)] at e; cases e
  · rw [List.getElem?_set_ne (Ne.symm hj)] at e
    exact .inr ⟨hj, e⟩
/-- a name is stored -/
theorem Rep.setFz (r : Rep K Z env σ H O) (i : Nat) {v : V} {d : PyData} (h : Dp K (hid O H) v d) : Rep K Z (env.set i (some (.fz d))) (σ.set i (some v)) H O := by
  refine ⟨r.ex, r.sub, r.kp, by simp [r.len], fun j s e => ?_, fun j k a dj dk e1 e2 s1 s2 => ?_, r.lv, r.tb, r.zp⟩
  · rcases set_some e with ⟨rfl, hl, e⟩ | ⟨hj, e⟩
    · cases e
      exact ⟨v, List.getElem?_set_self (by rw [← r.len]; exact hl), h⟩
    · obtain ⟨w, h1, h2⟩ := r.sl j s e
      exact ⟨w, by rw [List.getElem?_set_ne (Ne.symm hj)]; exact h1, h2⟩
  · rcases set_some e1 with ⟨_, _, e⟩ | ⟨n1, e1⟩
    · cases e
    rcases set_some e2 with ⟨_, _, e⟩ | ⟨n2, e2⟩
    · cases e
    rw [List.getElem?_set_ne (Ne.symm n1)] at s1
    rw [List.getElem?_set_ne (Ne.symm n2)] at s2
    exact r.nd j k a dj dk e1 e2 s1 s2
theorem Rep.setNone (r : Rep K Z env σ H O) (i : Nat) (x : Option V) : Rep K Z (env.set i none) (σ.set i x) H O := by
  refine ⟨r.ex, r.sub, r.kp, by simp [r.len], fun j s e => ?_, fun j k a dj dk e1 e2 s1 s2 => ?_, r.lv, r.tb, r.zp⟩
  · rcases set_some e with ⟨_, _, e⟩ | ⟨hj, e⟩
    · cases e
    obtain ⟨w, h1, h2⟩ := r.sl j s e
    exact ⟨w, by rw [List.getElem?_set_ne (Ne.symm hj)]; exact h1, h2⟩
  · rcases set_some e1 with ⟨_, _, e⟩ | ⟨n1, e1⟩
    · cases e
    rcases set_some e2 with ⟨_, _, e⟩ | ⟨n2, e2⟩
    · cases e
    rw [List.getElem?_set_ne (Ne.symm n1)] at s1
    rw [List.getElem?_set_ne (Ne.symm n2)] at s2
    exact r.nd j k a dj dk e1 e2 s1 s2
end
end PD
set_option Elab.async false
set_option linter.all false
set_option maxRecDepth 100000
set_option maxHeartbeats 4000000
namespace PD
open PySem PySem.Spec PyProof.Rows L2

/-! ### the machine's own readings -/
section
variable (X : Cx)
def wpE (e : Expr) : TE := fun σ H Q => ∀ pins s, Inv X pins σ H s → wpAny (model X.prog X.w) X.A (eval e X.env) (EP X pins σ Q) X.xe s
def wpT (e : Expr) : TT := fun σ H Q => ∀ pins s, Inv X pins σ H s → wpAny (model X.prog X.w) X.A (isTrue e X.env (eval e X.env)) (TP X pins σ Q) X.xe s
def wpW (e : Expr) : TT := fun σ H Q => ∀ whole pins s, Inv X pins σ H s → wpAny (model X.prog X.w) X.A (isTrue e X.env whole) (TP X pins σ Q) X.xe s
def wpA (es : List Expr) : TA := fun σ H Q => ∀ pos pins s, Inv X pins σ H s → wpAny (model X.prog X.w) X.A (spliced (backTo pos (starEach es X.env))) (AP X pins σ Q) X.xe s
def wpS (st : Stmt) : TS := fun D σ H => ∀ pins s, Inv X pins σ H s → wpAny (model X.prog X.w) X.A (exec st X.env) (SP X pins D) X.xe s
def wpSs (st : List Stmt) : TS := fun D σ H => ∀ pins s, Inv X pins σ H s → wpAny (model X.prog X.w) X.A (execs st X.env) (SP X pins D) X.xe s
def wpG (tg : Expr) : TG := fun v σ H Q => ∀ pins s u, Inv X pins σ H s → RelV v u → wpAny (model X.prog X.w) X.A (assign tg X.env u) (fun _ s' => ∃ σ' H', Inv X pins σ' H' s' ∧ Q σ' H') X.xe s
def wpI (tg iter : Expr) : TI := fun σ H R => ∀ pins s, Inv X pins σ H s → wpAny (model X.prog X.w) X.A (eval iter X.env) (fun v s1 => wpAny (model X.prog X.w) X.A (pyIter v) (PIE X pins σ tg R) X.xe s1) X.xe s
end
section
variable {X : Cx} {e : Expr} {es : List Expr} {st : Stmt} {sts : List Stmt} {tg iter : Expr}
variable [Tbs] [Zp]
theorem pe_wp : PE X e (wpE X e) := ⟨fun pins s _ _ _ I h => h pins s I⟩
theorem pt_wp : PT X e (wpT X e) := ⟨fun pins s _ _ _ I h => h pins s I⟩
theorem pw_wp : PW X e (wpW X e) := ⟨fun wh pins s _ _ _ I h => h wh pins s I⟩
theorem pa_wp : PA X es (wpA X es) := ⟨fun pos pins s _ _ _ I h => h pos pins s I⟩
theorem ps_wp : PS X st (wpS X st) := ⟨fun pins s _ _ _ I h => h pins s I⟩
theorem pss_wp : PSs X sts (wpSs X sts) := ⟨fun pins s _ _ _ I h => h pins s I⟩
theorem pg_wp : PG X tg (wpG X tg) := ⟨fun pins s _ _ _ u _ I r h => h pins s u I r⟩
theorem pi_wp : PI X tg iter (wpI X tg iter) := ⟨fun pins s _ _ _ I h => h pins s I⟩
variable {σ : Sg} {H : Hp}
theorem wp_e {t : TE} (p : PE X e t) {Q : VK} (h : t σ H Q) : wpE X e σ H Q := fun pins s I => p.run pins s σ H Q I h
theorem wp_t {t : TT} (p : PT X e t) {Q : Bool → Hp → Prop} (h : t σ H Q) : wpT X e σ H Q := fun pins s I => p.run pins s σ H Q I h
theorem wp_w {t : TT} (p : PW X e t) {Q : Bool → Hp → Prop} (h : t σ H Q) : wpW X e σ H Q := fun wh pins s I => p.run wh pins s σ H Q I h
theorem wp_a {t : TA} (p : PA X es t) {Q : List V → Hp → Prop} (h : t σ H Q) : wpA X es σ H Q := fun pos pins s I => p.run pos pins s σ H Q I h
theorem wp_s {t : TS} (p : PS X st t) {D : Ends} (h : t D σ H) : wpS X st D σ H := fun pins s I => p.run pins s σ H D I h
theorem wp_ss {t : TS} (p : PSs X sts t) {D : Ends} (h : t D σ H) : wpSs X sts D σ H := fun pins s I => p.run pins s σ H D I h
theorem wp_g {t : TG} (p : PG X tg t) {v : V} {Q : L2.St → Hp → Prop} (h : t v σ H Q) : wpG X tg v σ H Q := fun pins s u I r => p.run pins s σ H v u Q I r h
theorem wp_i {t : TI} (p : PI X tg iter t) {R : It → Hp → Prop} (h : t σ H R) : wpI X tg iter σ H R := fun pins s I => p.run pins s σ H R I h
end

/-! ### an exception by its class's name and its fields -/
def ExR (mg : Str → Option Value) (K : PySem.W.Frag) (H : Hp) (c : Str) (fl : Flds) (C : Value) (od : Option Addr) : Prop :=
  mg c = some C ∧ ((fl = [] ∧ od = none) ∨ (fl ≠ [] ∧ ∃ d fs, od = some d ∧ H d = some (.xd fs) ∧ fs.map (·.1) = fl.map (·.1) ∧ DpAll K H (fs.map (·.2)) (fl.map (·.2))))
theorem ExR.mono {mg : Str → Option Value} {K : PySem.W.Frag} {H H' : Hp} {c : Str} {fl : Flds} {C : Value} {od : Option Addr} (e : Ext H H') (h : ExR mg K H c fl C od) : ExR mg K H' c fl C od := by
  refine ⟨h.1, ?_⟩
  rcases h.2 with h | ⟨n, d, fs, e1, e2, e3, e4⟩
  · exact .inl h
  · exact .inr ⟨n, d, fs, e1, e.at e2 (by intro ps z; cases z), e3, e.dpa e4⟩

/-- what an outcome asks -/
def ROk {α : Type} (X : Cx) (W : WX) (σ : Sg) (O : List Addr) (P : α → Hp → Prop) (H : Hp) : RO α → Prop
  | .ok a => ∀ H', Ext H H' → P a H'
  | .er c fl => ∀ C od H', Ext H H' → ExR X.mg X.K (hid O H') c fl C od → W C od σ H'
  | .no => False
theorem ROk.mono {α : Type} {X : Cx} {W : WX} {σ : Sg} {O : List Addr} {P : α → Hp → Prop} {H H' : Hp} (e : Ext H H') : ∀ {r : RO α}, ROk X W σ O P H r → ROk X W σ O P H' r
  | .ok _, h => fun H2 e2 => h H2 (e.trans e2)
  | .er _ _, h => fun C od H2 e2 => h C od H2 (e.trans e2)
  | .no, h => h
/-- a value, its data frozen; a value, its data as they stand -/
def VQ (K : PySem.W.Frag) (O : List Addr) (Q : VK) (d : PyData) (H : Hp) : Prop := ∀ v, Dp K (hid O H) v d → Q v H

def AQ (K : PySem.W.Frag) (O : List Addr) (Q : List V → Hp → Prop) (ds : List PyData) (H : Hp) : Prop := ∀ vs, DpAll K (hid O H) vs ds → Q vs H

def CE [Tbs] [Zp] (X : Cx) (W : WX) (e : Expr) (f : E) : Prop := ∀ Z env σ H O Q, Rep X.K Z env σ H O → ROk X W σ O (VQ X.K O Q) H (f env) → wpE X e σ H Q
def CB [Tbs] [Zp] (X : Cx) (W : WX) (e : Expr) (f : E) : Prop := ∀ Z env σ H O Q, Rep X.K Z env σ H O → ROk X W σ O (VQ X.K Z.Oc Q) H (f env) → wpE X e σ H Q
def CT [Tbs] [Zp] (X : Cx) (W : WX) (e : Expr) (f : T) : Prop := ∀ Z env σ H O Q, Rep X.K Z env σ H O → ROk X W σ O Q H (f env) → wpT X e σ H Q
def CW [Tbs] [Zp] (X : Cx) (W : WX) (e : Expr) (f : T) : Prop := ∀ Z env σ H O Q, Rep X.K Z env σ H O → ROk X W σ O Q H (f env) → wpW X e σ H Q
def CA [Tbs] [Zp] (X : Cx) (W : WX) (es : List Expr) (f : Env → RO (List PyData)) : Prop := ∀ Z env σ H O Q, Rep X.K Z env σ H O → ROk X W σ O (AQ X.K O Q) H (f env) → wpA X es σ H Q
/-- a new list that nobody else holds -/
def LQ (K : PySem.W.Frag) (O : List Addr) (Q : VK) (ds : List PyData) (H : Hp) : Prop := ∀ p vs, H p = none → DpAll K (hid O H) vs ds → Q (.ref p) (upd H p (.lst vs))
def CL [Tbs] [Zp] (X : Cx) (W : WX) (e : Expr) (f : Env → RO (List PyData)) : Prop := ∀ Z env σ H O Q, Rep X.K Z env σ H O → ROk X W σ O (LQ X.K O Q) H (f env) → wpE X e σ H Q

section
variable {X : Cx} {W : WX} {e a b : Expr} {es : List Expr} {f fa fb : E} {Z : Zn} {env : Env} {σ : Sg} {H : Hp} {O : List Addr}
variable [Tbs] [Zp]
/-- what follows a part -/
theorem ROk.then {α β : Type} {r : RO α} {g : α → RO β} {P : β → Hp → Prop} {P' : α → Hp → Prop} (q : ROk X W σ O P H (r >>= g)) (h : ∀ d H1, r = .ok d → Ext H H1 → ROk X W σ O P H1 (g d) → P' d H1) : ROk X W σ O P' H r := by
  cases r with
  | ok d => exact fun H1 e1 => h d H1 rfl e1 (ROk.mono e1 q)
  | er c fl => exact q
  | no => exact q
theorem CE.go {β : Type} {g : PyData → RO β} {P : β → Hp → Prop} {Q : VK} (h : CE X W e f) (r : Rep X.K Z env σ H O) (q : ROk X W σ O P H (f env >>= g))
    (k : ∀ d v H1, Ext H H1 → Dp X.K (hid O H1) v d → Rep X.K Z env σ H1 O → ROk X W σ O P H1 (g d) → Q v H1) : wpE X e σ H Q :=
  h Z env σ H O Q r (q.then fun d H1 _ e1 q1 v hv => k d v H1 e1 hv (r.mono e1) q1)
theorem CB.go {β : Type} {g : PyData → RO β} {P : β → Hp → Prop} {Q : VK} (h : CB X W e f) (r : Rep X.K Z env σ H O) (q : ROk X W σ O P H (f env >>= g))
    (k : ∀ d v H1, Ext H H1 → Dp X.K (hid Z.Oc H1) v d → Rep X.K Z env σ H1 O → ROk X W σ O P H1 (g d) → Q v H1) : wpE X e σ H Q :=
  h Z env σ H O Q r (q.then fun d H1 _ e1 q1 v hv => k d v H1 e1 hv (r.mono e1) q1)
theorem CT.go {β : Type} {ft : T} {g : Bool → RO β} {P : β → Hp → Prop} {Q : Bool → Hp → Prop} (h : CT X W e ft) (r : Rep X.K Z env σ H O) (q : ROk X W σ O P H (ft env >>= g))
    (k : ∀ d H1, Ext H H1 → Rep X.K Z env σ H1 O → ROk X W σ O P H1 (g d) → Q d H1) : wpT X e σ H Q :=
  h Z env σ H O Q r (q.then fun d H1 _ e1 q1 => k d H1 e1 (r.mono e1) q1)
theorem CW.go {β : Type} {ft : T} {g : Bool → RO β} {P : β → Hp → Prop} {Q : Bool → Hp → Prop} (h : CW X W e ft) (r : Rep X.K Z env σ H O) (q : ROk X W σ O P H (ft env >>= g))
    (k : ∀ d H1, Ext H H1 → Rep X.K Z env σ H1 O → ROk X W σ O P H1 (g d) → Q d H1) : wpW X e σ H Q :=
  h Z env σ H O Q r (q.then fun d H1 _ e1 q1 => k d H1 e1 (r.mono e1) q1)
theorem CA.go {β : Type} {ft : Env → RO (List PyData)} {g : List PyData → RO β} {P : β → Hp → Prop} {Q : List V → Hp → Prop} (h : CA X W es ft) (r : Rep X.K Z env σ H O) (q : ROk X W σ O P H (ft env >>= g))
    (k : ∀ d v H1, Ext H H1 → DpAll X.K (hid O H1) v d → Rep X.K Z env σ H1 O → ROk X W σ O P H1 (g d) → Q v H1) : wpA X es σ H Q :=
  h Z env σ H O Q r (q.then fun d H1 _ e1 q1 v hv => k d v H1 e1 hv (r.mono e1) q1)
/-- the outcome as it stands -/
theorem ROk.self {α : Type} {r : RO α} {P : α → Hp → Prop} (q : ROk X W σ O P H r) : ROk X W σ O P H (r >>= fun x => .ok x) := by
  cases r <;> exact q
theorem ROk.here {α : Type} {x : α} {P : α → Hp → Prop} (q : ROk X W σ O P H (.ok x)) : P x H := q H (Ext.refl H)
theorem CE.cb (h : CE X W e f) : CB X W e f := fun Z env σ H O Q r q => h Z env σ H O Q r (by
  cases hf : f env with
  | ok d => rw [hf] at q; exact fun H1 e1 v hv => q H1 e1 v ((Ext.hid_sub r.sub).dp hv)
  | er c fl => rw [hf] at q; exact q
  | no => rw [hf] at q; exact q)
theorem CE.of_eq (h : CE X W e f) {g : E} (hg : g = f) : CE X W e g := hg ▸ h

/-! ### names, constants -/
def gv (env : Env) (i : Nat) : RO PyData := match env[i]? with
  | some (some (.fz d)) => .ok d
  | _ => .no
def gvo (env : Env) (i : Nat) : RO (List PyData) := match env[i]? with
  | some (some (.own d)) => .ok d
  | _ => .no
def eVar (i : Nat) : E := fun env => gv env i
def eC (d : PyData) : E := fun _ => .ok d
theorem gv_ok {i : Nat} {d : PyData} (h : gv env i = .ok d) : env[i]? = some (some (.fz d)) := by
  unfold gv at h
  split at h
  · cases h; assumption
  · cases h
theorem gv_cases (env : Env) (i : Nat) : (∃ d, gv env i = .ok d) ∨ gv env i = .no := by
  unfold gv
  split
  · exact .inl ⟨_, rfl⟩
  · exact .inr rfl
theorem ce_var (i : Nat) {x : Str} {pos : Pos} (hN : X.N[i]? = some x := by rfl) (hv : Vis X.env.scope x := by first | exact Or.inl rfl | exact Or.inr (Or.inl rfl) | exact Or.inr (Or.inr rfl)) (hd : (x == ("__debug__" : Str)) = false := by decide)
    (hcd : (x == ("__classdict__" : Str)) = false := by decide) : CE X W (.Name x pos) (eVar i) := fun Z env σ H O Q r q => by
  refine wp_e (pe_var hN hv hd hcd) ?_
  rcases gv_cases env i with ⟨d, e⟩ | e
  · obtain ⟨v, h1, h2⟩ := r.sl i _ (gv_ok e)
    have q' : ROk X W σ O (VQ X.K O Q) H (.ok d) := by rw [← e]; exact q
    exact ⟨v, h1, q'.here v h2⟩
  · have q' : ROk X W σ O (VQ X.K O Q) H (.no) := by rw [← e]; exact q
    exact q'.elim
theorem ce_int {i : Int} {j pos} : CE X W (.Constant (.int i) j pos) (eC (.int i)) := fun Z env σ H O Q r q => wp_e pe_int (ROk.here q _ (.int i))
theorem ce_str {i : Str} {j pos} : CE X W (.Constant (.str i) j pos) (eC (.str i)) := fun Z env σ H O Q r q => wp_e pe_str (ROk.here q _ (.str i))
theorem ce_bl {i : Bool} {j pos} : CE X W (.Constant (.bool i) j pos) (eC (.bool i)) := fun Z env σ H O Q r q => wp_e pe_bl (ROk.here q _ (.bl i))
theorem ce_non {j pos} : CE X W (.Constant .none j pos) (eC .none) := fun Z env σ H O Q r q => wp_e pe_non (ROk.here q _ .non)

/-! ### operators -/
def ofO {α : Type} : Option α → RO α
  | some a => .ok a
  | none => .no
/-- all that is hidden stands -/
abbrev Lv (O : List Addr) (H : Hp) : Prop := ∀ a ∈ O, ∃ vs, H a = some (.lst vs)
theorem Lv.out {O : List Addr} {H : Hp} (l : Lv O H) {p : Addr} (h : H p = none) : p ∉ O := fun z => by
  obtain ⟨vs, q⟩ := l p z
  rw [h] at q; cases q
/-- a new tuple, a new list, seen behind what is hidden -/
theorem dp_newT {K : PySem.W.Frag} (l : Lv O H) {p : Addr} (hp : H p = none) {vs : List V} {ds : List PyData} (h : DpAll K (hid O H) vs ds) : Dp K (hid O (upd H p (.tup vs))) (.ref p) (.tuple ds) := by
  have np := l.out hp
  refine .tup (SqT.of ?_) (((Ext.new hp).hid O).dpa h)
  rw [hid_out np, upd_same]
theorem dp_newL {K : PySem.W.Frag} (l : Lv O H) {p : Addr} (hp : H p = none) {vs : List V} {ds : List PyData} (h : DpAll K (hid O H) vs ds) : Dp K (hid O (upd H p (.lst vs))) (.ref p) (.list ds) := by
  have np := l.out hp
  refine .lst (SqL.of ?_) (((Ext.new hp).hid O).dpa h)
  rw [hid_out np, upd_same]
theorem CL.ce {fl : Env → RO (List PyData)} (h : CL X W e fl) : CE X W e (fun env => fl env >>= fun ds => .ok (.list ds)) := fun Z env σ H O Q r q =>
  h Z env σ H O Q r (q.then fun ds H1 _ e1 q1 p vs hp hd => q1 _ (Ext.new hp) _ (dp_newL (r.mono e1).lv hp hd))

/-- an operation on values, by their data -/
def BinR (X : Cx) (f : Value → Value → Sem Value) (b : PyData → PyData → Option PyData) : Prop := ∀ dx dy d, b dx dy = some d → ∃ r : R2, OpR X f r ∧
  ∀ O H vx vy Q, Lv O H → Dp X.K (hid O H) vx dx → Dp X.K (hid O H) vy dy → (∀ v H', Ext H H' → Dp X.K (hid O H') v d → Q v H') → r vx vy H Q
/-- the same where the data may be a list of the frame's own, and the answer is none -/
def BinB (X : Cx) (f : Value → Value → Sem Value) (b : PyData → PyData → Option PyData) : Prop := ∀ dx dy d, b dx dy = some d → ∃ r : R2, OpR X f r ∧
  ∀ H vx vy Q, Dp X.K H vx dx → Dp X.K H vy dy → (∀ v, (∀ H', Dp X.K H' v d) → Q v H) → r vx vy H Q
theorem ce_op [Tbs] [Zp] {op : Operator} {bi : PyData → PyData → Option PyData} {pos : Pos} (ho : BinR X (binaryOp op) bi) (ha : CE X W a fa) (hb : CE X W b fb) :
    CE X W (.BinOp a op b pos) (fun env => fa env >>= fun x => fb env >>= fun y => ofO (bi x y)) := fun Z env σ H O Q r q => by
  have key : ∀ dx dy, (∃ d, bi dx dy = some d) ∨ bi dx dy = none := fun dx dy => by
    cases bi dx dy with
    | some d => exact .inl ⟨d, rfl⟩
    | none => exact .inr rfl
  -- the operation's reading is one for all values
  let R : R2 := fun vx vy H Q => ∃ (r : R2), OpR X (binaryOp op) r ∧ r vx vy H Q
  have hR : OpR X (binaryOp op) R := fun pins s σ H x y v u Q I rx ry ⟨r, h1, h2⟩ => h1 pins s σ H x y v u Q I rx ry h2
  refine wp_e (pe_op hR pe_wp pe_wp) ?_
  refine ha.go r q fun dx vx H1 e1 d1 r1 q1 => ?_
  refine hb.go r1 q1 fun dy vy H2 e2 d2 r2 q2 => ?_
  rcases key dx dy with ⟨d, e⟩ | e
  · rw [e] at q2
    obtain ⟨rr, h1, h2⟩ := ho dx dy d e
    exact ⟨rr, h1, h2 O H2 vx vy Q r2.lv ((e2.hid O).dp d1) d2 fun v H' e' hv => q2 H' e' v hv⟩
  · rw [e] at q2
    exact q2.elim
theorem ce_cmp [Tbs] [Zp] {op : CmpOp} {bi : PyData → PyData → Option PyData} {pos : Pos} (ho : BinB X (compareOp op) bi) (ha : CB X W a fa) (hb : CB X W b fb) (hm : behindInMarks op b = false := by first | exact nobehind _ (by decide) (by decide) | rfl) :
    CE X W (.Compare a [op] [b] pos) (fun env => fa env >>= fun x => fb env >>= fun y => ofO (bi x y)) := fun Z env σ H O Q r q => by
  let R : R2 := fun vx vy H Q => ∃ (r : R2), OpR X (compareOp op) r ∧ r vx vy H Q
  have hR : OpR X (compareOp op) R := fun pins s σ H x y v u Q I rx ry ⟨r, h1, h2⟩ => h1 pins s σ H x y v u Q I rx ry h2
  refine wp_e (pe_cmpR hR pe_wp pe_wp hm) ?_
  refine ha.go r q fun dx vx H1 e1 d1 r1 q1 => ?_
  refine hb.go r1 q1 fun dy vy H2 e2 d2 r2 q2 => ?_
  cases e : bi dx dy with
  | some d =>
    rw [e] at q2
    obtain ⟨rr, h1, h2⟩ := ho dx dy d e
    exact ⟨rr, h1, h2 H2 vx vy Q (e2.dp (Ext.unhid.dp d1)) (Ext.unhid.dp d2) fun v hv => q2.here v (hv _)⟩
  | none =>
    rw [e] at q2
    exact q2.elim
def tb (d : PyData) : RO Bool := match d with
  | .bool b => .ok b
  | _ => .no
theorem ct_cmp [Tbs] [Zp] {op : CmpOp} {bi : PyData → PyData → Option PyData} {pos : Pos} (ho : BinB X (compareOp op) bi) (ha : CB X W a fa) (hb : CB X W b fb) (hm : behindInMarks op b = false := by first | exact nobehind _ (by decide) (by decide) | rfl) :
    CT X W (.Compare a [op] [b] pos) (fun env => fa env >>= fun x => fb env >>= fun y => ofO (bi x y) >>= tb) := fun Z env σ H O Q r q => by
  let R : R2 := fun vx vy H Q => ∃ (r : R2), OpR X (compareOp op) r ∧ r vx vy H Q
  have hR : OpR X (compareOp op) R := fun pins s σ H x y v u Q I rx ry ⟨r, h1, h2⟩ => h1 pins s σ H x y v u Q I rx ry h2
  refine wp_t (pt_cmpR hR pe_wp pe_wp hm) ?_
  refine ha.go r q fun dx vx H1 e1 d1 r1 q1 => ?_
  refine hb.go r1 q1 fun dy vy H2 e2 d2 r2 q2 => ?_
  cases e : bi dx dy with
  | some d =>
    rw [e] at q2
    obtain ⟨rr, h1, h2⟩ := ho dx dy d e
    refine ⟨rr, h1, h2 H2 vx vy _ (e2.dp (Ext.unhid.dp d1)) (Ext.unhid.dp d2) fun v hv => ?_⟩
    cases d with
    | bool k =>
      have := dp_bool (hv H2)
      subst this
      exact ⟨k, rfl, q2.here⟩
    | _ => exact q2.elim
  | none =>
    rw [e] at q2
    exact q2.elim
/-- -a and the like -/
def UnD (X : Cx) (f : Value → Sem Value) (b : PyData → Option PyData) : Prop := ∀ dx d, b dx = some d → ∃ r : V → Hp → VK → Prop, UnR X f r ∧
  ∀ H vx Q, Dp X.K H vx dx → (∀ v, (∀ H', Dp X.K H' v d) → Q v H) → r vx H Q
theorem ce_un [Tbs] [Zp] {op : UnaryOp} {bi : PyData → Option PyData} {pos : Pos} (ho : UnD X (unaryOp op) bi) (ha : CE X W a fa) : CE X W (.UnaryOp op a pos) (fun env => fa env >>= fun x => ofO (bi x)) := fun Z env σ H O Q r q => by
  let R : V → Hp → VK → Prop := fun vx H Q => ∃ (r : V → Hp → VK → Prop), UnR X (unaryOp op) r ∧ r vx H Q
  have hR : UnR X (unaryOp op) R := fun pins s σ H x v Q I rx ⟨r, h1, h2⟩ => h1 pins s σ H x v Q I rx h2
  refine wp_e (pe_un hR pe_wp) ?_
  refine ha.go r q fun dx vx H1 e1 d1 r1 q1 => ?_
  cases e : bi dx with
  | some d =>
    rw [e] at q1
    obtain ⟨rr, h1, h2⟩ := ho dx d e
    exact ⟨rr, h1, h2 H1 vx Q (Ext.unhid.dp d1) fun v hv => q1.here v (hv _)⟩
  | none =>
    rw [e] at q1
    exact q1.elim

/-! ### tests -/
variable {ft fu : T} {rest : List Expr} {pos : Pos}
/-- a value's truth -/
def tru (d : PyData) : RO Bool := match d with
  | .none => .ok false
  | .bool b => .ok b
  | .int i => .ok (i != 0)
  | .str y => if y.length ≤ sizeLine then .ok ((y.length : Int) != 0) else .no
  | .list xs => .ok (!xs.isEmpty)
  | .tuple xs => .ok (!xs.isEmpty)
  | _ => .no
theorem ct_tru [Tbs] [Zp] (h : CB X W e f) (he : ∀ whole, isTrue e X.env whole = (do let v ← whole; standAt e.pos; holding [v] (truthy v)) := by intro _; rfl) : CT X W e (fun env => f env >>= tru) := fun Z env σ H O Q r q => by
  refine wp_t (pt_truth pe_wp he) ?_
  refine h.go r q fun d v H1 e1 d1 r1 q1 => ?_
  have em : ∀ {vs : List V} {ds : List PyData}, DpAll X.K (hid Z.Oc H1) vs ds → (!ds.isEmpty) = !vs.isEmpty := fun h => by cases h <;> rfl
  cases d with
  | none => cases dp_none d1; exact ⟨false, rfl, q1.here⟩
  | bool k => cases dp_bool d1; exact ⟨k, rfl, q1.here⟩
  | int k => cases dp_int d1; exact ⟨_, rfl, q1.here⟩
  | str k =>
    cases dp_str d1
    by_cases z : k.length ≤ sizeLine
    · have q2 : ROk X W σ O Q H1 (if k.length ≤ sizeLine then .ok ((k.length : Int) != 0) else .no) := q1
      rw [if_pos z] at q2
      exact ⟨_, ⟨z, rfl⟩, q2.here⟩
    · have q2 : ROk X W σ O Q H1 (if k.length ≤ sizeLine then .ok ((k.length : Int) != 0) else .no) := q1
      rw [if_neg z] at q2
      exact q2.elim
  | list xs =>
    obtain ⟨p, vs, rfl, h1, h2⟩ := dp_lst d1
    exact ⟨_, .inl ⟨vs, Ext.unhid.sl h1, em h2⟩, q1.here⟩
  | tuple xs =>
    obtain ⟨p, vs, rfl, h1, h2⟩ := dp_tup d1
    exact ⟨_, .inr (.inl ⟨vs, Ext.unhid.st h1, em h2⟩), q1.here⟩
  | dict _ => exact q1.elim
theorem CW.ct (h : CW X W e ft) : CT X W e ft := fun Z env σ H O Q r q => wp_t pw_wp.pt (h Z env σ H O Q r q)
def tNt (t : T) : T := fun env => t env >>= fun b => .ok (!b)
def tAn (t u : T) : T := fun env => t env >>= fun b => if b = true then u env else .ok false
def tOr (t u : T) : T := fun env => t env >>= fun b => if b = true then .ok true else u env
theorem ct_not [Tbs] [Zp] (h : CT X W a ft) : CT X W (.UnaryOp .Not a pos) (tNt ft) := fun Z env σ H O Q r q => by
  refine wp_t (pt_not pt_wp) ?_
  exact h.go r q fun d H1 e1 r1 q1 => q1.here
theorem cw_or1 (h : CT X W a ft) : CW X W (.BoolOp .Or [a] pos) ft := fun Z env σ H O Q r q => wp_w (pw_or1 pt_wp) (h Z env σ H O Q r q)
theorem cw_or [Tbs] [Zp] (h : CT X W a ft) (k : CW X W (.BoolOp .Or (b :: rest) pos) fu) : CW X W (.BoolOp .Or (a :: b :: rest) pos) (tOr ft fu) := fun Z env σ H O Q r q => by
  refine wp_w (pw_or pt_wp pw_wp) ?_
  refine h.go r q fun d H1 e1 r1 q1 => ?_
  cases d with
  | true => exact q1.here
  | false => exact k Z env σ H1 O Q r1 q1
/-- .. as values (bools) -/
def eNt (f : E) : E := fun env => f env >>= tb >>= fun b => .ok (.bool !b)
def eAn (f g : E) : E := fun env => f env >>= tb >>= fun b => if b = true then g env else .ok (.bool false)
def eOr (f g : E) : E := fun env => f env >>= tb >>= fun b => if b = true then .ok (.bool true) else g env
theorem RO.assoc {α β γ : Type} (r : RO α) (g : α → RO β) (k : β → RO γ) : (r >>= g >>= k) = (r >>= fun x => g x >>= k) := by cases r <;> rfl
theorem ce_not [Tbs] [Zp] (h : CE X W a fa) : CE X W (.UnaryOp .Not a pos) (eNt fa) := fun Z env σ H O Q r q => by
  refine wp_e (pe_not pe_wp) ?_
  unfold eNt at q
  rw [RO.assoc] at q
  refine h.go r q fun d v H1 e1 d1 r1 q1 => ?_
  cases d with
  | bool k =>
    have := dp_bool d1
    subst this
    exact ⟨k, rfl, q1.here _ (.bl _)⟩
  | _ => exact q1.elim
theorem ce_one {op} (h : CE X W a fa) : CE X W (.BoolOp op [a] pos) fa := fun Z env σ H O Q r q => wp_e (pe_one pe_wp) (h Z env σ H O Q r q)
theorem ce_and [Tbs] [Zp] (h : CE X W a fa) (k : CE X W (.BoolOp .And (b :: rest) pos) fb) : CE X W (.BoolOp .And (a :: b :: rest) pos) (eAn fa fb) := fun Z env σ H O Q r q => by
  refine wp_e (pe_and pe_wp pe_wp) ?_
  unfold eAn at q
  rw [RO.assoc] at q
  refine h.go r q fun d v H1 e1 d1 r1 q1 => ?_
  cases d with
  | bool c =>
    have := dp_bool d1
    subst this
    refine ⟨c, rfl, ?_⟩
    cases c with
    | true => exact k Z env σ H1 O Q r1 q1
    | false => exact q1.here _ (.bl _)
  | _ => exact q1.elim
/-- a if t else b -/
def eIf (t : T) (f g : E) : E := fun env => t env >>= fun b => if b = true then f env else g env
theorem ce_if [Tbs] [Zp] {c : Expr} (h : CT X W c ft) (h1 : CE X W a fa) (h2 : CE X W b fb) : CE X W (.IfExp c a b pos) (eIf ft fa fb) := fun Z env σ H O Q r q => by
  refine wp_e (pe_ifExp pt_wp pe_wp pe_wp) ?_
  refine h.go r q fun d H1 e1 r1 q1 => ?_
  cases d with
  | true => exact h1 Z env σ H1 O Q r1 q1
  | false => exact h2 Z env σ H1 O Q r1 q1

/-! ### argument lists, tuples, lists -/
def aNil : Env → RO (List PyData) := fun _ => .ok []
def aCons (f : E) (g : Env → RO (List PyData)) : Env → RO (List PyData) := fun env => f env >>= fun x => g env >>= fun xs => .ok (x :: xs)
variable {g : Env → RO (List PyData)}
theorem ca_nil : CA X W [] aNil := fun Z env σ H O Q r q => wp_a pa_nil (ROk.here q _ .nil)
theorem ca_cons [Tbs] [Zp] (h : CE X W e f) (k : CA X W es g) (hs : starEach (e :: es) X.env = (false, eval e X.env) :: starEach es X.env := by rfl) : CA X W (e :: es) (aCons f g) := fun Z env σ H O Q r q => by
  refine wp_a (pa_cons pe_wp pa_wp hs) ?_
  refine h.go r q fun d v H1 e1 d1 r1 q1 => ?_
  refine k.go r1 q1 fun ds vs H2 e2 d2 r2 q2 => ?_
  exact q2.here _ (.cons ((e2.hid O).dp d1) d2)
def eTup (g : Env → RO (List PyData)) : E := fun env => g env >>= fun xs => if xs.length ≤ sizeLine then .ok (.tuple xs) else .no
def lLst (g : Env → RO (List PyData)) : Env → RO (List PyData) := fun env => g env >>= fun xs => if xs.length ≤ sizeLine then .ok xs else .no
theorem ce_tup [Tbs] [Zp] {x1} (h : CA X W es g) : CE X W (.Tuple es x1 pos) (eTup g) := fun Z env σ H O Q r q => by
  refine wp_e (pe_tup pa_wp) ?_
  refine h.go r q fun ds vs H1 e1 d1 r1 q1 => ?_
  by_cases z : ds.length ≤ sizeLine
  · rw [if_pos z] at q1
    exact ⟨by rw [dpa_len d1]; exact z, fun p hp => q1 _ (Ext.new hp) _ (dp_newT r1.lv hp d1)⟩
  · rw [if_neg z] at q1
    exact q1.elim
theorem cl_lst [Tbs] [Zp] (h : CA X W es g) : CL X W (.List es pos) (lLst g) := fun Z env σ H O Q r q => by
  refine wp_e (pe_lst pa_wp) ?_
  refine h.go r q fun ds vs H1 e1 d1 r1 q1 => ?_
  by_cases z : ds.length ≤ sizeLine
  · rw [if_pos z] at q1
    exact ⟨by rw [dpa_len d1]; exact z, fun p hp => q1.here p vs hp d1⟩
  · rw [if_neg z] at q1
    exact q1.elim

/-! ### calls of built-ins, by values -/
/-- a call whose answer is told by the data -/
def CalR (X : Cx) (f : Value) (b : List PyData → Option PyData) : Prop := ∀ ds d, b ds = some d → ∃ r : List V → Hp → VK → Prop, CallR X f r ∧
  ∀ O H vs Q, Lv O H → DpAll X.K (hid O H) vs ds → (∀ v H', Ext H H' → Dp X.K (hid O H') v d → Q v H') → r vs H Q
/-- the same over data as they stand (a list of the frame's own) -/
def CalB (X : Cx) (f : Value) (b : List PyData → Option PyData) : Prop := ∀ ds d, b ds = some d → ∃ r : List V → Hp → VK → Prop, CallR X f r ∧
  ∀ H vs Q, DpAll X.K H vs ds → (∀ v, (∀ H', Dp X.K H' v d) → Q v H) → r vs H Q
theorem CalB.cal {f : Value} {bi : List PyData → Option PyData} (h : CalB X f bi) : CalR X f bi := fun ds d e => by
  obtain ⟨r, h1, h2⟩ := h ds d e
  exact ⟨r, h1, fun O H vs Q _ hv k => h2 H vs Q (Ext.unhid.dpa hv) fun v hd => k v H (Ext.refl H) (hd _)⟩
section
variable {x : Str} {p : Pos} {id T : String} {bi : List PyData → Option PyData}
theorem any_call {fv : Value} : CallR X fv (fun vs H Q => ∃ r : List V → Hp → VK → Prop, CallR X fv r ∧ r vs H Q) := fun pins s σ H xs us Q I rv ⟨r, h1, h2⟩ => h1 pins s σ H xs us Q I rv h2
theorem go_call {fv : Value} {t : TE} (hc : CalR X fv bi) (k : CA X W (e :: es) g) (r : Rep X.K Z env σ H O) {Q : VK} (q : ROk X W σ O (VQ X.K O Q) H (g env >>= fun ds => ofO (bi ds))) :
    tCB (fun vs H Q => ∃ r : List V → Hp → VK → Prop, CallR X fv r ∧ r vs H Q) (wpA X (e :: es)) σ H Q := by
  refine k.go r q fun ds vs H1 e1 d1 r1 q1 => ?_
  cases eb : bi ds with
  | some d =>
    rw [eb] at q1
    obtain ⟨rr, h1, h2⟩ := hc ds d eb
    exact ⟨rr, h1, h2 O H1 vs Q r1.lv d1 fun v H' e' hv => q1 H' e' v hv⟩
  | none =>
    rw [eb] at q1
    exact q1.elim
/-- f(e, ..), f a built-in function -/
theorem ce_bf (hc : CalR X (.builtin id) bi) (hg : Gl X x) (hm : X.mg x = none) (hv : bootBuiltins x = some (.builtin id)) (ha : CA X W (e :: es) g) (hn : x ≠ "__name__" := by decide) (hdb : (x == ("__debug__" : Str)) = false := by decide)
    (he : starEach (e :: es) X.env = (false, eval e X.env) :: starEach es X.env := by rfl) (hpl : (backTo pos (starEach es X.env)).any (·.1) = false := by rfl) : CE X W (.Call (.Name x p) (e :: es) [] pos) (fun env => g env >>= fun ds => ofO (bi ds)) :=
  fun Z env σ H O Q r q => wp_e (pe_callB any_call hg hm hv pa_wp hn hdb he hpl) (go_call (t := wpE X e) hc ha r q)
/-- f a built-in function that the module imported -/
theorem ce_bi (hc : CalR X (.builtin id) bi) (hg : Gl X x) (hm : X.mg x = some (.builtin id)) (ha : CA X W (e :: es) g) (hdb : (x == ("__debug__" : Str)) = false := by decide)
    (he : starEach (e :: es) X.env = (false, eval e X.env) :: starEach es X.env := by rfl) (hpl : (backTo pos (starEach es X.env)).any (·.1) = false := by rfl) : CE X W (.Call (.Name x p) (e :: es) [] pos) (fun env => g env >>= fun ds => ofO (bi ds)) :=
  fun Z env σ H O Q r q => wp_e (pe_callBfun any_call hg hm pa_wp hdb he hpl) (go_call (t := wpE X e) hc ha r q)
/-- T(e, ..), T a built-in type -/
theorem ce_ty (hc : CalR X (.type T) bi) (hg : Gl X x) (hm : X.mg x = none) (hv : bootBuiltins x = some (.type T)) (ha : CA X W (e :: es) g) (hn : x ≠ "__name__" := by decide) (hdb : (x == ("__debug__" : Str)) = false := by decide)
    (he : starEach (e :: es) X.env = (false, eval e X.env) :: starEach es X.env := by rfl) (hpl : (backTo pos (starEach es X.env)).any (·.1) = false := by rfl) : CE X W (.Call (.Name x p) (e :: es) [] pos) (fun env => g env >>= fun ds => ofO (bi ds)) :=
  fun Z env σ H O Q r q => wp_e (pe_callTy any_call hg hm hv pa_wp hn hdb he hpl) (go_call (t := wpE X e) hc ha r q)
end
end
end PD
set_option Elab.async false
set_option linter.all false
set_option maxRecDepth 100000
set_option maxHeartbeats 4000000
namespace PD
open PySem PySem.Spec PyProof.Rows L2

/-! ### ints -/
def mulOk (i j : Int) : Bool := decide (i.natAbs.log2 + j.natAbs.log2 < 100000000)
theorem mulOk_ok {i j : Int} (h : mulOk i j = true) : IntMulOk i j := by
  have b : ∀ x : Int, Builtin.Int.intBits x ≤ x.natAbs.log2 + 1 := fun x => by
    unfold Builtin.Int.intBits
    split <;> omega
  have h1 := b i
  have h2 := b j
  have h3 : i.natAbs.log2 + j.natAbs.log2 < 100000000 := of_decide_eq_true h
  have e : bitsLine = 134217728 := by decide
  unfold IntMulOk
  intro z
  rw [Bool.and_eq_true] at z
  have z2 := z.2
  unfold Builtin.Int.intTooBig at z2
  have z3 := of_decide_eq_true z2
  rw [e] at z3
  omega
def divOk (j : Int) : Bool := decide (j ≠ 0) && decide (j.natAbs.log2 < 9000)
section
variable {X : Cx}
variable [Tbs] [Zp]
theorem op_mulG : OpR X (binaryOp .Mult) (rI (fun i j => mulOk i j = true) fun i j => .int (i * j)) := opI fun _ _ _ _ _ _ _ hc q => mul_int q (mulOk_ok hc)
theorem op_fdivG : OpR X (binaryOp .FloorDiv) (rI (fun _ j => divOk j = true) fun i j => .int (i.fdiv j)) := opI fun i j _ _ _ _ _ hc q => by
  unfold divOk at hc
  simp only [Bool.and_eq_true, decide_eq_true_eq] at hc
  exact floordiv_int hc.1 q (.inl (PyProof.noPylong_of_log2 hc.2))
def powOk (i j : Int) : Bool := decide (0 ≤ j) && decide ((Builtin.Int.intBits i : Int) * j ≤ 2 ^ 27)
theorem op_powG : OpR X (binaryOp .Pow) (rI (fun i j => powOk i j = true) fun i j => .int (i ^ j.toNat)) := opI fun i j _ _ _ _ _ hc q => by
  unfold powOk at hc
  simp only [Bool.and_eq_true, decide_eq_true_eq] at hc
  exact pow_int hc.1 hc.2 q

def dAdd : PyData → PyData → Option PyData
  | .int i, .int j => some (.int (i + j))
  | .str i, .str j => if i.length + j.length ≤ sizeLine then some (.str (i ++ j)) else none
  | .tuple a, .tuple b => if a.length + b.length ≤ sizeLine then some (.tuple (a ++ b)) else none
  | _, _ => none
theorem bin_add : BinR X (binaryOp .Add) dAdd := fun dx dy d e => by
  cases dx <;> cases dy <;> first | (simp only [dAdd] at e; cases e; done) | skip
  · rename_i i j
    simp only [dAdd, Option.some.injEq] at e
    subst e
    refine ⟨_, op_add, fun O H vx vy Q l hx hy k => ?_⟩
    cases dp_int hx
    cases dp_int hy
    exact ⟨i, j, rfl, rfl, k _ H (Ext.refl H) (.int _)⟩
  · rename_i i j
    simp only [dAdd] at e
    split at e
    · rename_i hz
      cases e
      refine ⟨_, op_add_str, fun O H vx vy Q l hx hy k => ?_⟩
      cases dp_str hx
      cases dp_str hy
      exact ⟨i, j, rfl, rfl, hz, k _ H (Ext.refl H) (.str _)⟩
    · cases e
  · rename_i i j
    simp only [dAdd] at e
    split at e
    · rename_i hz
      cases e
      refine ⟨_, op_catA, fun O H vx vy Q l hx hy k => ?_⟩
      obtain ⟨p, xs, rfl, p1, p2⟩ := dp_tup hx
      obtain ⟨p', ys, rfl, p1', p2'⟩ := dp_tup hy
      refine ⟨p, p', xs, ys, rfl, rfl, Ext.unhid.st p1, Ext.unhid.st p1', by rw [dpa_len p2, dpa_len p2']; exact hz, fun e0 => ?_, fun _ e0 => ?_, fun _ _ q hq => ?_⟩
      · subst e0
        cases p2
        exact k _ H (Ext.refl H) hy
      · subst e0
        cases p2'
        rw [List.append_nil] at k
        exact k _ H (Ext.refl H) hx
      · exact k _ _ (Ext.new hq) (dp_newT l hq (dpa_app p2 p2'))
    · cases e
def dSub : PyData → PyData → Option PyData
  | .int i, .int j => some (.int (i - j))
  | _, _ => none
def dMul : PyData → PyData → Option PyData
  | .int i, .int j => if mulOk i j = true then some (.int (i * j)) else none
  | .tuple a, .int k => if a ≠ [] ∧ 2 ≤ k ∧ k ≤ 1000 ∧ a.length ≤ 1000 then some (.tuple (List.replicate k.toNat a).flatten) else none
  | _, _ => none
theorem dpa_repl {K : PySem.W.Frag} {H : Hp} {vs : List V} {ds : List PyData} (h : DpAll K H vs ds) : ∀ n : Nat, DpAll K H (List.replicate n vs).flatten (List.replicate n ds).flatten
  | 0 => .nil
  | n + 1 => by
    rw [List.replicate_succ, List.replicate_succ, List.flatten_cons, List.flatten_cons]
    exact dpa_app h (dpa_repl h n)
theorem bin_mul : BinR X (binaryOp .Mult) dMul := fun dx dy d e => by
  cases dx <;> cases dy <;> first | (simp only [dMul] at e; cases e; done) | skip
  · rename_i i j
    simp only [dMul] at e
    split at e
    · rename_i hz
      cases e
      refine ⟨_, op_mulG, fun O H vx vy Q l hx hy k => ?_⟩
      cases dp_int hx
      cases dp_int hy
      exact ⟨i, j, rfl, rfl, hz, k _ H (Ext.refl H) (.int _)⟩
    · cases e
  · rename_i a j
    simp only [dMul] at e
    split at e
    · rename_i hz
      obtain ⟨h0, h1, h2, h3⟩ := hz
      cases e
      refine ⟨_, op_repT, fun O H vx vy Q l hx hy k => ?_⟩
      obtain ⟨p, xs, rfl, p1, p2⟩ := dp_tup hx
      cases dp_int hy
      have hl := dpa_len p2
      refine ⟨p, j, xs, rfl, rfl, Ext.unhid.st p1, fun z => h0 (by subst z; cases p2; rfl), h1, h2, by omega, fun q hq => ?_⟩
      exact k _ _ (Ext.new hq) (dp_newT l hq (dpa_repl p2 _))
    · cases e
def dDiv : PyData → PyData → Option PyData
  | .int i, .int j => if divOk j = true then some (.int (i.fdiv j)) else none
  | _, _ => none
theorem bin_div : BinR X (binaryOp .FloorDiv) dDiv := fun dx dy d e => by
  cases dx <;> cases dy <;> first | (simp only [dDiv] at e; cases e; done) | skip
  rename_i i j
  simp only [dDiv] at e
  split at e
  · rename_i hz
    cases e
    refine ⟨_, op_fdivG, fun O H vx vy Q l hx hy k => ?_⟩
    cases dp_int hx
    cases dp_int hy
    exact ⟨i, j, rfl, rfl, hz, k _ H (Ext.refl H) (.int _)⟩
  · cases e
def dMod : PyData → PyData → Option PyData
  | .int i, .int j => if 0 < j then some (.int (i % j)) else none
  | _, _ => none
theorem bin_mod : BinR X (binaryOp .Mod) dMod := fun dx dy d e => by
  cases dx <;> cases dy <;> first | (simp only [dMod] at e; cases e; done) | skip
  rename_i i j
  simp only [dMod] at e
  split at e
  · rename_i hz
    cases e
    refine ⟨_, op_mod, fun O H vx vy Q l hx hy k => ?_⟩
    cases dp_int hx
    cases dp_int hy
    exact ⟨i, j, rfl, rfl, hz, k _ H (Ext.refl H) (.int _)⟩
  · cases e
def dPow : PyData → PyData → Option PyData
  | .int i, .int j => if powOk i j = true then some (.int (i ^ j.toNat)) else none
  | _, _ => none
theorem bin_pow : BinR X (binaryOp .Pow) dPow := fun dx dy d e => by
  cases dx <;> cases dy <;> first | (simp only [dPow] at e; cases e; done) | skip
  rename_i i j
  simp only [dPow] at e
  split at e
  · rename_i hz
    cases e
    refine ⟨_, op_powG, fun O H vx vy Q l hx hy k => ?_⟩
    cases dp_int hx
    cases dp_int hy
    exact ⟨i, j, rfl, rfl, hz, k _ H (Ext.refl H) (.int _)⟩
  · cases e
def dNeg : PyData → Option PyData
  | .int i => some (.int (-i))
  | _ => none
theorem un_negD : UnD X (unaryOp .USub) dNeg := fun dx d e => by
  cases dx <;> first | (simp only [dNeg] at e; cases e; done) | skip
  rename_i i
  simp only [dNeg, Option.some.injEq] at e
  subst e
  refine ⟨_, un_neg, fun H vx Q hx k => ?_⟩
  cases dp_int hx
  exact ⟨i, rfl, k _ fun H' => .int _⟩

/-! ### comparisons -/
def dCmp (p : Int → Int → Bool) : PyData → PyData → Option PyData
  | .int i, .int j => some (.bool (p i j))
  | _, _ => none
theorem bin_cmp {op : CmpOp} {p : Int → Int → Bool} (ho : OpR X (compareOp op) (rI0 fun i j => .bl (p i j))) : BinB X (compareOp op) (dCmp p) := fun dx dy d e => by
  cases dx <;> cases dy <;> first | (simp only [dCmp] at e; cases e; done) | skip
  rename_i i j
  simp only [dCmp, Option.some.injEq] at e
  subst e
  refine ⟨_, ho, fun H vx vy Q hx hy k => ?_⟩
  cases dp_int hx
  cases dp_int hy
  exact ⟨i, j, rfl, rfl, k _ fun H' => .bl _⟩
abbrev dLt := dCmp fun i j => decide (i < j)
abbrev dGt := dCmp fun i j => decide (j < i)
abbrev dGe := dCmp fun i j => decide (j ≤ i)
theorem bin_lt : BinB X (compareOp .Lt) dLt := bin_cmp op_lt
theorem bin_gt : BinB X (compareOp .Gt) dGt := bin_cmp op_gt
theorem bin_ge : BinB X (compareOp .GtE) dGe := bin_cmp op_ge
def dEq : PyData → PyData → Option PyData
  | .int i, .int j => some (.bool (decide (i = j)))
  | .str i, .str j => some (.bool (decide (i = j)))
  | .bool i, .bool j => some (.bool (decide (i = j)))
  | x, y => if SeqAt.shaped x = true ∧ SeqAt.shaped y = true then some (.bool (PyData.eqv x y)) else none
def dNe (x y : PyData) : Option PyData := match dEq x y with
  | some (.bool b) => some (.bool !b)
  | _ => none
theorem dEq_deep (hu : X.A.units + 64 < cLine) {dx dy : PyData} (h1 : SeqAt.shaped dx = true) (h2 : SeqAt.shaped dy = true) : ∃ r : R2, OpR X (compareOp .Eq) r ∧
    ∀ H vx vy Q, Dp X.K H vx dx → Dp X.K H vy dy → (∀ v, (∀ H', Dp X.K H' v (.bool (PyData.eqv dx dy))) → Q v H) → r vx vy H Q :=
  ⟨_, op_eqD hu, fun H vx vy Q hx hy k => ⟨dx, dy, hx, hy, h1, h2, k _ fun H' => .bl _⟩⟩
theorem dNe_deep (hu : X.A.units + 64 < cLine) {dx dy : PyData} (h1 : SeqAt.shaped dx = true) (h2 : SeqAt.shaped dy = true) : ∃ r : R2, OpR X (compareOp .NotEq) r ∧
    ∀ H vx vy Q, Dp X.K H vx dx → Dp X.K H vy dy → (∀ v, (∀ H', Dp X.K H' v (.bool (!PyData.eqv dx dy))) → Q v H) → r vx vy H Q :=
  ⟨_, op_neD hu, fun H vx vy Q hx hy k => ⟨dx, dy, hx, hy, h1, h2, k _ fun H' => .bl _⟩⟩
theorem bin_eq (hu : X.A.units + 64 < cLine) : BinB X (compareOp .Eq) dEq := fun dx dy d e => by
  cases dx <;> cases dy
  all_goals try (
    simp only [dEq] at e
    split at e
    · rename_i hz
      cases e
      exact dEq_deep hu hz.1 hz.2
    · cases e
    done)
  all_goals (
    simp only [dEq, Option.some.injEq] at e
    subst e
    refine ⟨_, op_eq, fun H vx vy Q hx hy k => ?_⟩
    cases hx
    cases hy
    refine ⟨rfl, ?_⟩
    simp only [V.int.injEq, V.str.injEq, V.bl.injEq]
    exact k _ fun H' => .bl _)
theorem bin_ne (hu : X.A.units + 64 < cLine) : BinB X (compareOp .NotEq) dNe := fun dx dy d e => by
  cases dx <;> cases dy
  all_goals try (
    simp only [dNe, dEq] at e
    split at e
    · rename_i b hz
      cases e
      split at hz
      · rename_i hz2
        cases hz
        exact dNe_deep hu hz2.1 hz2.2
      · cases hz
    · cases e
    done)
  all_goals (
    simp only [dNe, dEq, Option.some.injEq] at e
    subst e
    refine ⟨_, op_ne, fun H vx vy Q hx hy k => ?_⟩
    cases hx
    cases hy
    refine ⟨rfl, ?_⟩
    simp only [V.int.injEq, V.str.injEq, V.bl.injEq]
    exact k _ fun H' => .bl _)
def isNon : PyData → Bool
  | .none => true
  | _ => false
/-- is None, is True -/
def dIs : PyData → PyData → Option PyData
  | .bool a, .bool b => some (.bool (decide (a = b)))
  | x, .none => some (.bool (isNon x))
  | .none, .bool _ => some (.bool false)
  | _, _ => none
def dIsN (x y : PyData) : Option PyData := match dIs x y with
  | some (.bool b) => some (.bool !b)
  | _ => none
theorem dp_isnon {K : PySem.W.Frag} {H : Hp} {v : V} {d : PyData} (h : Dp K H v d) : decide (v = .non) = isNon d := by
  cases h <;> rfl
theorem op_notNB : OpR X (compareOp .IsNot) (fun x y H Q => x = .non ∧ (∃ b, y = .bl b) ∧ Q (.bl true) H) := by
  intro pins s σ H x y v u Q I rx ry h
  obtain ⟨rfl, ⟨b, rfl⟩, q⟩ := h
  cases (show v = Value.none from rx)
  cases (show u = Value.bool b from ry)
  exact wpAny_isNot_other rfl (fun z => nomatch z) ⟨.bl true, H, I, rfl, q⟩
theorem bin_isn : BinB X (compareOp .IsNot) dIsN := fun dx dy d e => by
  cases dy with
  | none =>
    have e' : some (PyData.bool (!(isNon dx))) = some d := by cases dx <;> exact e
    cases e'
    refine ⟨_, op_notN, fun H vx vy Q hx hy k => ?_⟩
    cases dp_none hy
    refine ⟨rfl, ?_⟩
    rw [dp_isnon hx]
    exact k _ fun H' => .bl _
  | bool b =>
    cases dx with
    | bool a =>
      simp only [dIsN, dIs, Option.some.injEq] at e
      subst e
      refine ⟨_, op_notBl, fun H vx vy Q hx hy k => ?_⟩
      cases dp_bool hx
      cases dp_bool hy
      exact ⟨a, b, rfl, rfl, k _ fun H' => .bl _⟩
    | none =>
      cases e
      refine ⟨_, op_notNB, fun H vx vy Q hx hy k => ?_⟩
      cases dp_none hx
      cases dp_bool hy
      exact ⟨rfl, ⟨_, rfl⟩, k _ fun H' => .bl _⟩
    | _ => cases e
  | _ => cases dx <;> cases e

/-! ### calls -/
def cLen : List PyData → Option PyData
  | [.list xs] => some (.int xs.length)
  | [.tuple xs] => some (.int xs.length)
  | [.str x] => if x.length ≤ sizeLine then some (.int x.length) else none
  | _ => none
theorem dpa1 {K : PySem.W.Frag} {H : Hp} {vs : List V} {d : PyData} (h : DpAll K H vs [d]) : ∃ v, vs = [v] ∧ Dp K H v d := by
  cases h with
  | cons a b => cases b; exact ⟨_, rfl, a⟩
theorem dpa2 {K : PySem.W.Frag} {H : Hp} {vs : List V} {d e : PyData} (h : DpAll K H vs [d, e]) : ∃ v u, vs = [v, u] ∧ Dp K H v d ∧ Dp K H u e := by
  cases h with
  | cons a b =>
    obtain ⟨u, rfl, c⟩ := dpa1 b
    exact ⟨_, u, rfl, a, c⟩
theorem cal_len : CalB X (.builtin "len") cLen := fun ds d e => by
  refine ⟨_, call_len, fun H vs Q hv k => ?_⟩
  rcases ds with _ | ⟨x, _ | ⟨y, r⟩⟩
  · cases e
  · obtain ⟨v, rfl, hx⟩ := dpa1 hv
    cases x with
    | list xs =>
      obtain ⟨p, ys, rfl, p1, p2⟩ := dp_lst hx
      simp only [cLen, Option.some.injEq] at e
      subst e
      refine ⟨_, ys.length, rfl, .inl ⟨ys, p1, rfl⟩, ?_⟩
      rw [dpa_len p2]
      exact k _ fun H' => .int _
    | tuple xs =>
      obtain ⟨p, ys, rfl, p1, p2⟩ := dp_tup hx
      simp only [cLen, Option.some.injEq] at e
      subst e
      refine ⟨_, ys.length, rfl, .inr ⟨ys, p1, rfl⟩, ?_⟩
      rw [dpa_len p2]
      exact k _ fun H' => .int _
    | str z =>
      cases dp_str hx
      simp only [cLen] at e
      split at e
      · rename_i hz
        cases e
        exact ⟨_, z.length, rfl, ⟨hz, rfl⟩, k _ fun H' => .int _⟩
      · cases e
    | _ => cases e
  · cases x <;> cases e
def cAbs : List PyData → Option PyData
  | [.int i] => some (.int (if i < 0 then -i else i))
  | _ => none
theorem cal_abs : CalB X (.builtin "abs") cAbs := fun ds d e => by
  refine ⟨_, call_abs, fun H vs Q hv k => ?_⟩
  rcases ds with _ | ⟨x, _ | ⟨y, r⟩⟩
  · cases e
  · obtain ⟨v, rfl, hx⟩ := dpa1 hv
    cases x with
    | int i =>
      cases dp_int hx
      simp only [cAbs, Option.some.injEq] at e
      subst e
      exact ⟨i, rfl, k _ fun H' => .int _⟩
    | _ => cases e
  · cases x <;> cases e
def cInt : List PyData → Option PyData
  | [.int i] => some (.int i)
  | [.bool b] => some (.int (if b then 1 else 0))
  | _ => none
theorem cal_int : CalB X (.type "int") cInt := fun ds d e => by
  refine ⟨_, call_int1, fun H vs Q hv k => ?_⟩
  rcases ds with _ | ⟨x, _ | ⟨y, r⟩⟩
  · cases e
  · obtain ⟨v, rfl, hx⟩ := dpa1 hv
    cases x with
    | int i =>
      cases dp_int hx
      simp only [cInt, Option.some.injEq] at e
      subst e
      exact .inl ⟨i, rfl, k _ fun H' => .int _⟩
    | bool i =>
      cases dp_bool hx
      simp only [cInt, Option.some.injEq] at e
      subst e
      exact .inr ⟨i, rfl, k _ fun H' => .int _⟩
    | _ => cases e
  · cases x <;> cases e
def cGcd : List PyData → Option PyData
  | [.int i, .int j] => some (.int (Nat.gcd i.natAbs j.natAbs : Nat))
  | _ => none
theorem cal_gcd : CalB X (.builtin "math.gcd") cGcd := fun ds d e => by
  refine ⟨_, cr_gcd, fun H vs Q hv k => ?_⟩
  rcases ds with _ | ⟨x, _ | ⟨y, _ | ⟨z, r⟩⟩⟩
  · cases e
  · cases x <;> cases e
  · obtain ⟨v, u, rfl, hx, hy⟩ := dpa2 hv
    cases x <;> first | (cases e; done) | skip
    cases y <;> first | (cases e; done) | skip
    cases dp_int hx
    cases dp_int hy
    simp only [cGcd, Option.some.injEq] at e
    subst e
    exact ⟨_, _, rfl, k _ fun H' => .int _⟩
  · cases x <;> cases y <;> cases e
def cMax : List PyData → Option PyData
  | [.int i, .int j] => some (.int (if j > i then j else i))
  | _ => none
def cMin : List PyData → Option PyData
  | [.int i, .int j] => some (.int (if j < i then j else i))
  | _ => none
theorem cal_max (hc : X.calm = true) : CalB X (.builtin "max") cMax := fun ds d e => by
  refine ⟨_, call_max2 hc, fun H vs Q hv k => ?_⟩
  rcases ds with _ | ⟨x, _ | ⟨y, _ | ⟨z, r⟩⟩⟩
  · cases e
  · cases x <;> cases e
  · obtain ⟨v, u, rfl, hx, hy⟩ := dpa2 hv
    cases x <;> first | (cases e; done) | skip
    cases y <;> first | (cases e; done) | skip
    cases dp_int hx
    cases dp_int hy
    simp only [cMax, Option.some.injEq] at e
    subst e
    exact ⟨_, _, rfl, k _ fun H' => .int _⟩
  · cases x <;> cases y <;> cases e
/-- any, all of a list of bools -/
def bools : List PyData → Option (List Bool)
  | [] => some []
  | .bool b :: r => (bools r).map (b :: ·)
  | _ => none
end

/-! ### kinds of values -/
def tyName : PyData → String
  | .none => "NoneType"
  | .bool _ => "bool"
  | .int _ => "int"
  | .str _ => "str"
  | .list _ => "list"
  | .tuple _ => "tuple"
  | .dict _ => "dict"
theorem dp_ty {K : PySem.W.Frag} {H : Hp} {v : V} {d : PyData} (h : Dp K H v d) : TyX K H v (.type (tyName d)) := by
  cases h with
  | non => exact .base .non
  | bl b => exact .base (.bl b)
  | int b => exact .base (.int b)
  | str b => exact .base (.str b)
  | lst h _ =>
    rcases h with (h | ⟨o, h⟩) | ⟨o, its, n, h1, h2, _⟩
    · exact .base (.lst h)
    · exact .base (.frz h)
    · exact .kList h1 h2
  | tup h _ =>
    rcases h with (h | ⟨o, h⟩) | ⟨o, its, n, h1, h2, _⟩
    · exact .base (.tup h)
    · exact .fTuple h
    · exact .kTuple h1 h2
def isiD (T : String) (d : PyData) : Bool := match T, d with
  | "int", .int _ => true
  | "int", .bool _ => true
  | "bool", .bool _ => true
  | "str", .str _ => true
  | "list", .list _ => true
  | "tuple", .tuple _ => true
  | _, _ => false
/-- the types that isiD knows -/
def isiT (T : String) : Bool := T == "int" || T == "bool" || T == "str" || T == "list" || T == "tuple"
theorem isiD_ok {T : String} (h : isiT T = true) (d : PyData) (hd : ∀ kv, d ≠ .dict kv) : kitB (tyName d) T = some (isiD T d) := by
  unfold isiT at h
  simp only [Bool.or_eq_true, beq_iff_eq] at h
  rcases h with (((h | h) | h) | h) | h <;> subst h <;> cases d <;> first | exact absurd rfl (hd _) | rfl | decide +kernel
def isiO (T : String) : PyData → Option PyData
  | .dict _ => none
  | d => some (.bool (isiD T d))
section
variable {X : Cx} {W : WX} {e : Expr} {f : E} {pos p p2 p3 : Pos} {T : String}
variable [Tbs] [Zp]
theorem ce_isi {x : Str} (hT : isiT T = true) (hg : Gl X "isinstance") (hm : X.mg "isinstance" = none) (hg2 : Gl X x) (hm2 : X.mg x = none) (hv2 : bootBuiltins x = some (.type T)) (hn2 : x ≠ "__name__") (hd2 : (x == ("__debug__" : Str)) = false)
    (h : CB X W e f) (he : starEach [e, .Name x p2] X.env = (false, eval e X.env) :: starEach [.Name x p2] X.env := by rfl) (he2 : starEach [.Name x p2] X.env = (false, eval (.Name x p2) X.env) :: starEach [] X.env := by rfl)
    (hpl : (backTo pos (starEach [.Name x p2] X.env)).any (·.1) = false := by rfl) :
    CE X W (.Call (.Name "isinstance" p) [e, .Name x p2] [] pos) (fun env => f env >>= fun d => ofO (isiO T d)) := fun Z env σ H O Q r q => by
  have hb : PE X (.Name x p2) (tC (.ty T)) := pe_bltn hg2 hm2 hv2 rfl hn2 hd2
  refine wp_e (pe_callB call_isi hg hm (by decide +kernel) (pa_cons pe_wp (pa_cons hb pa_nil he2) he) (by decide) (by decide) he hpl) ?_
  refine h.go r q fun d v H1 e1 d1 r1 q1 => ?_
  cases d with
  | dict _ => exact q1.elim
  | _ => exact ⟨v, .ty T, _, .type T, _, rfl, .ty T, dp_ty (Ext.unhid.dp d1), kit_ty (isiD_ok hT _ (by intro _ z; cases z)), q1.here _ (.bl _)⟩
end
end PD
set_option Elab.async false
set_option linter.all false
set_option maxRecDepth 100000
set_option maxHeartbeats 4000000
namespace PD
open PySem PySem.Spec PyProof.Rows L2

section
variable {X : Cx} {W : WX} {e a b : Expr} {es : List Expr} {f fa fb : E} {Z : Zn} {env : Env} {σ : Sg} {H : Hp} {O : List Addr} {pos : Pos}
variable [Tbs] [Zp]

/-! ### a list of the frame's own, read -/
/-- a name, whatever it holds, for a reader that keeps nothing of it -/
def gb (env : Env) (i : Nat) : RO PyData := match env[i]? with
  | some (some (.fz d)) => .ok d
  | some (some (.own ds)) => .ok (.list ds)
  | _ => .no
/-! ### a[b] -/
def dIx : PyData → PyData → Option PyData
  | .list xs, .int i => atI xs i
  | .tuple xs, .int i => atI xs i
  | .str z, .int i => if z.length ≤ sizeLine then (atI z.cps.toList i).map fun c => .str ⟨#[c]⟩ else none
  | _, _ => none
theorem at_dpa {K : PySem.W.Frag} {vs : List V} {ds : List PyData} {i : Int} {d : PyData} (h : DpAll K H vs ds) (e : atI ds i = some d) : ∃ v, atI vs i = some v ∧ Dp K H v d := by
  unfold atI at e ⊢
  rw [dpa_len h]
  cases hj : ixN ds.length i with
  | none => rw [hj] at e; cases e
  | some j =>
    rw [hj] at e
    obtain ⟨v, h1, h2⟩ := dpa_get h e
    exact ⟨v, h1, h2⟩
theorem ix_ok {K : PySem.W.Frag} {vx : V} {dx d : PyData} {i : Int} {Q : VK} (hx : Dp K (hid O H) vx dx) (e : dIx dx (.int i) = some d) (k : ∀ v, Dp K (hid O H) v d → Q v H) : rIx K vx (.int i) H Q := by
  cases dx with
  | list xs =>
    obtain ⟨p, vs, rfl, h1, h2⟩ := dp_lst hx
    obtain ⟨v, e1, e2⟩ := at_dpa h2 e
    exact .inl ⟨p, vs, i, v, rfl, rfl, Ext.unhid.sl h1, e1, k v e2⟩
  | tuple xs =>
    obtain ⟨p, vs, rfl, h1, h2⟩ := dp_tup hx
    obtain ⟨v, e1, e2⟩ := at_dpa h2 e
    exact .inr (.inl ⟨p, vs, i, v, rfl, rfl, Ext.unhid.st h1, e1, k v e2⟩)
  | str z =>
    cases dp_str hx
    simp only [dIx] at e
    split at e
    · rename_i hz
      cases hc : atI z.cps.toList i with
      | none => rw [hc] at e; cases e
      | some c =>
        rw [hc] at e
        cases e
        exact .inr (.inr ⟨z, i, c, rfl, rfl, hz, hc, k _ (.str _)⟩)
    · cases e
  | _ => cases e
theorem ce_ix (ha : CE X W a fa) (hb : CE X W b fb) (hs : PlainIx b := by exact fun _ _ => rfl) : CE X W (.Subscript a b pos) (fun env => fa env >>= fun x => fb env >>= fun y => ofO (dIx x y)) := fun Z env σ H O Q r q => by
  refine wp_e (pe_ix ix_seq pe_wp pe_wp hs) ?_
  refine ha.go r q fun dx vx H1 e1 d1 r1 q1 => ?_
  refine hb.go r1 q1 fun dy vy H2 e2 d2 r2 q2 => ?_
  cases e : dIx dx dy with
  | none => rw [e] at q2; exact q2.elim
  | some d =>
    rw [e] at q2
    cases dy with
    | int i =>
      cases dp_int d2
      exact ix_ok ((e2.hid O).dp d1) e fun v hv => q2.here v hv
    | _ => cases dx <;> cases e
/-! ### slices -/
def cutD {α : Type} (xs : List α) (lo hi : Option Int) : List α := (xs.drop (HT.sIx xs.length 0 lo)).take (HT.sIx xs.length xs.length hi - HT.sIx xs.length 0 lo)
/-- a part of a slice -/
def CO (X : Cx) (W : WX) (e : Option Expr) (f : Env → RO (Option Int)) : Prop := ∀ Z env σ H O Q, Rep X.K Z env σ H O → ROk X W σ O Q H (f env) → ∃ t, PO X e t ∧ t σ H Q
def tI (d : PyData) : RO Int := match d with
  | .int i => .ok i
  | _ => .no
def wpO (X : Cx) (e : Option Expr) : TO := fun σ H Q => ∀ pins s, Inv X pins σ H s → wpAny (model X.prog X.w) X.A (evalPart e X.env) (fun u s' => ∃ o H', Inv X pins σ H' s' ∧ IsPart u o ∧ Q o H') X.xe s
theorem CO.go {β : Type} {eo : Option Expr} {fo : Env → RO (Option Int)} {g : Option Int → RO β} {P : β → Hp → Prop} {Q : Option Int → Hp → Prop} (h : CO X W eo fo) (r : Rep X.K Z env σ H O) (q : ROk X W σ O P H (fo env >>= g))
    (k : ∀ d H1, Ext H H1 → Rep X.K Z env σ H1 O → ROk X W σ O P H1 (g d) → Q d H1) : wpO X eo σ H Q := by
  obtain ⟨t, h1, h2⟩ := h Z env σ H O Q r (q.then fun d H1 _ e1 q1 => k d H1 e1 (r.mono e1) q1)
  exact fun pins s I => h1.run pins s σ H Q I h2
def dCut (x : PyData) (lo hi : Option Int) : RO PyData := match x with
  | .list xs => .ok (.list (cutD xs lo hi))
  | .tuple xs => .ok (.tuple (cutD xs lo hi))
  | .str z => if z.length ≤ sizeLine then .ok (.str (cutS z lo hi)) else .no
  | _ => .no
variable {lo hi : Option Expr} {fl fh : Env → RO (Option Int)} {p2 : Pos}
/-! ### tuple(x), list(x) -/
section
variable {x : Str} {p : Pos}
def dSeq (d : PyData) : RO (List PyData) := match d with
  | .list xs => .ok xs
  | .tuple xs => .ok xs
  | _ => .no
theorem cl_list (h : CE X W e f) (hg : Gl X "list") (hm : X.mg "list" = none) (he : starEach [e] X.env = (false, eval e X.env) :: starEach [] X.env := by rfl) (hpl : (backTo pos (starEach [] X.env)).any (·.1) = false := by rfl) :
    CL X W (.Call (.Name "list" p) [e] [] pos) (fun env => f env >>= dSeq) := fun Z env σ H O Q r q => by
  refine wp_e (pe_callTy call_list_of hg hm (by decide +kernel) (pa_cons pe_wp pa_nil he) (by decide) (by decide) he hpl) ?_
  refine h.go r q fun d v H1 e1 d1 r1 q1 => ?_
  cases d with
  | list xs =>
    obtain ⟨p, vs, rfl, p1, p2⟩ := dp_lst d1
    exact ⟨p, vs, rfl, .inl (Ext.unhid.sl p1), fun t ht => q1.here t _ ht p2⟩
  | tuple xs =>
    obtain ⟨p, vs, rfl, p1, p2⟩ := dp_tup d1
    exact ⟨p, vs, rfl, .inr (Ext.unhid.st p1), fun t ht => q1.here t _ ht p2⟩
  | _ => exact q1.elim
end
end
end PD
set_option Elab.async false
set_option linter.all false
set_option maxRecDepth 100000
set_option maxHeartbeats 4000000
namespace PD
open PySem PySem.Spec PyProof.Rows L2

/-! ### targets -/
def GOk (r : RO Env) (P : Env → Prop) : Prop := match r with
  | .ok e => P e
  | _ => False
abbrev G := PyData → Env → RO Env
abbrev Gs := List PyData → Env → RO Env
def wpGs (X : Cx) (ts : List Expr) : TGs := fun vs σ H Q => ∀ pins s us, Inv X pins σ H s → Vals vs us → wpAny (model X.prog X.w) X.A (assignInOrder ((assignEach ts X.env).map (·.2)) us) (fun _ s' => ∃ σ' H', Inv X pins σ' H' s' ∧ Q σ' H') X.xe s
def CG [Tbs] [Zp] (X : Cx) (tg : Expr) (is : List Nat) (g : G) : Prop := ∀ Z env σ H O v d (Q : L2.St → Hp → Prop), Rep X.K Z env σ H O → Dp X.K (hid O H) v d →
  GOk (g d env) (fun env' => ∀ σ' : Sg, Rep X.K Z env' σ' H O → σ'.length = σ.length → (∀ j, j ∉ is → σ'[j]? = σ[j]?) → Q σ' H) → wpG X tg v σ H Q
def CGs [Tbs] [Zp] (X : Cx) (ts : List Expr) (is : List Nat) (g : Gs) : Prop := ∀ Z env σ H O vs ds (Q : L2.St → Hp → Prop), Rep X.K Z env σ H O → DpAll X.K (hid O H) vs ds →
  GOk (g ds env) (fun env' => ∀ σ' : Sg, Rep X.K Z env' σ' H O → σ'.length = σ.length → (∀ j, j ∉ is → σ'[j]? = σ[j]?) → Q σ' H) → wpGs X ts vs σ H Q
section
variable {X : Cx} {W : WX} {pos : Pos} {t : Expr} {ts : List Expr} {g : G} {gs : Gs} {is js : List Nat}
variable [Tbs] [Zp]
theorem pgs_wp : PGs X ts (wpGs X ts) := ⟨fun pins s _ _ _ us _ I r h => h pins s us I r⟩
def gN (i : Nat) : G := fun d env => .ok (env.set i (some (.fz d)))
def gsN : Gs := fun ds env => match ds with
  | [] => .ok env
  | _ => .no
def gsC (g : G) (gs : Gs) : Gs := fun ds env => match ds with
  | d :: r => g d env >>= fun e1 => gs r e1
  | [] => .no
def gT (n : Nat) (gs : Gs) : G := fun d env => match d with
  | .tuple ds => if ds.length = n then gs ds env else .no
  | .list ds => if ds.length = n then gs ds env else .no
  | _ => .no
theorem cg_name (i : Nat) {x : Str} (hN : X.N.Nodup) (hi : X.N[i]? = some x) (hx : Loc X.env.scope x) (hf : X.fn x = true ∨ X.env.scope.names.lookup x = some .local := by first | exact .inl rfl | exact .inr rfl | assumption) : CG X (.Name x pos) [i] (gN i) := fun Z env σ H O v d Q r h q =>
  wp_g (pg_name hN hi hx hf) (q _ (r.setFz i h) (by simp) fun j hj => List.getElem?_set_ne (fun z => hj (by simp [z])))
theorem cgs_nil : CGs X [] [] gsN := fun Z env σ H O vs ds Q r h q => by
  intro pins s us I rv
  cases ds with
  | nil =>
    cases h
    cases rv
    exact assignInOrder_nil ⟨σ, H, I, q σ r rfl fun _ _ => rfl⟩
  | cons _ _ => exact q.elim
theorem cgs_cons (h1 : CG X t is g) (h2 : CGs X ts js gs) (hs : (assignEach (t :: ts) X.env).map (·.2) = assign t X.env :: (assignEach ts X.env).map (·.2) := by rfl) : CGs X (t :: ts) (is ++ js) (gsC g gs) := fun Z env σ H O vs ds Q r h q => by
  intro pins s us I rv
  cases ds with
  | nil => exact q.elim
  | cons d ds =>
    cases h with
    | cons hv hr =>
      cases rv with
      | cons r1 r2 =>
        rw [hs]
        have q' : GOk (g d env >>= fun e1 => gs ds e1) _ := q
        cases hg : g d env with
        | ok e1 =>
          rw [hg] at q'
          refine assignInOrder_cons (thn (h1 Z env σ H O _ d (fun σ1 H1 => H1 = H ∧ Rep X.K Z e1 σ1 H O ∧ σ1.length = σ.length ∧ ∀ j, j ∉ is → σ1[j]? = σ[j]?) r hv (by rw [hg]; exact fun σ' a b c => ⟨rfl, a, b, c⟩) pins s _ I r1) fun _ s1 ⟨σ1, H1, I1, e, rp, l1, k1⟩ => ?_)
          subst e
          exact h2 Z e1 σ1 H1 O _ ds Q rp hr (by
            have q2 : GOk (gs ds e1) _ := q'
            cases hg2 : gs ds e1 with
            | ok e2 =>
              rw [hg2] at q2
              exact fun σ' a b c => q2 σ' a (b.trans l1) fun j hj => (c j fun z => hj (List.mem_append_right _ z)).trans (k1 j fun z => hj (List.mem_append_left _ z))
            | er _ _ => rw [hg2] at q2; exact q2.elim
            | no => rw [hg2] at q2; exact q2.elim) pins s1 _ I1 r2
        | er _ _ => rw [hg] at q'; exact q'.elim
        | no => rw [hg] at q'; exact q'.elim
theorem cg_tup {k : Nat} {n : Nat} (hc : X.calm = true) (h : CGs X ts is gs) (hn : (assignEach ts X.env).length = n := by rfl) (hst : (assignEach ts X.env).findIdx? (·.1) = none := by rfl) : CG X (.Tuple ts k pos) is (gT n gs) := fun Z env σ H O v d Q r hv q => by
  cases d with
  | tuple ds =>
    obtain ⟨p, vs, rfl, h1, h2⟩ := dp_tup hv
    have q' : GOk (if ds.length = n then gs ds env else .no) _ := q
    by_cases z : ds.length = n
    · rw [if_pos z] at q'
      exact wp_g (pg_tup hc pgs_wp hn hst) ⟨p, vs, rfl, Ext.unhid.st h1, by rw [dpa_len h2]; exact z, h Z env σ H O vs ds Q r h2 q'⟩
    · rw [if_neg z] at q'
      exact q'.elim
  | list ds =>
    obtain ⟨p, vs, rfl, h1, h2⟩ := dp_lst hv
    have q' : GOk (if ds.length = n then gs ds env else .no) _ := q
    by_cases z : ds.length = n
    · rw [if_pos z] at q'
      exact wp_g (pg_lst hc pgs_wp hn hst) ⟨p, vs, rfl, Ext.unhid.sl h1, by rw [dpa_len h2]; exact z, h Z env σ H O vs ds Q r h2 q'⟩
    · rw [if_neg z] at q'
      exact q'.elim
  | _ => exact q.elim
end

/-! ### what is walked -/
structure WalkD (K : PySem.W.Frag) (O : List Addr) (H : Hp) (J : It) (ds : List PyData) : Prop where
  go : ∀ i d O1 H1, ds[i]? = some d → Ext (hid O H) (hid O1 H1) → Lv O1 H1 → J.go i H1 ∧ ∀ x H2, J.yld i H1 x H2 → Ext H1 H2 ∧ Dp K (hid O1 H2) x d
  stop : ∀ i O1 H1, ds.length = i → Ext (hid O H) (hid O1 H1) → J.stop i H1
def IQ (K : PySem.W.Frag) (O : List Addr) (R : It → Hp → Prop) (ds : List PyData) (H : Hp) : Prop := ∀ J, WalkD K O H J ds → R J H
/-- the items of the own list of slot i -/
def CI [Tbs] [Zp] (X : Cx) (W : WX) (tg it : Expr) (f : Env → RO (List PyData)) : Prop := ∀ Z env σ H O R, Rep X.K Z env σ H O → ROk X W σ O (IQ X.K O R) H (f env) → wpI X tg it σ H R
section
variable {K : PySem.W.Frag} {O : List Addr} {H : Hp}
theorem walk_l {a : Addr} {vs : List V} {ds : List PyData} (h : SqL K (hid O H) a vs) (hd : DpAll K (hid O H) vs ds) : WalkD K O H (Itl K a) ds where
  go := fun i d O1 H1 e x l => by
    obtain ⟨v, h1, h2⟩ := dpa_get hd e
    have s1 : SqL K H1 a vs := Ext.unhid.sl (x.sl h)
    refine ⟨⟨vs, v, s1, h1⟩, fun y H2 ⟨e2, hy⟩ => ?_⟩
    subst e2
    have := hy vs s1
    rw [h1] at this
    cases this
    exact ⟨Ext.refl _, x.dp h2⟩
  stop := fun i O1 H1 hi x => ⟨vs, Ext.unhid.sl (x.sl h), by rw [dpa_len hd]; exact Nat.le_of_eq hi⟩
theorem walk_t {a : Addr} {vs : List V} {ds : List PyData} (h : SqT K (hid O H) a vs) (hd : DpAll K (hid O H) vs ds) : WalkD K O H (Itt K a) ds where
  go := fun i d O1 H1 e x l => by
    obtain ⟨v, h1, h2⟩ := dpa_get hd e
    have s1 : SqT K H1 a vs := Ext.unhid.st (x.st h)
    refine ⟨⟨vs, v, s1, h1⟩, fun y H2 ⟨e2, hy⟩ => ?_⟩
    subst e2
    have := hy vs s1
    rw [h1] at this
    cases this
    exact ⟨Ext.refl _, x.dp h2⟩
  stop := fun i O1 H1 hi x => ⟨vs, Ext.unhid.st (x.st h), by rw [dpa_len hd]; exact Nat.le_of_eq hi⟩
def strItems (x : Str) : List PyData := x.cps.toList.map fun c => .str ⟨#[c]⟩
theorem walk_s {x : Str} : WalkD K O H (Its x) (strItems x) where
  go := fun i d O1 H1 e xx l => by
    unfold strItems at e
    rw [List.getElem?_map] at e
    cases hc : x.cps.toList[i]? with
    | none => rw [hc] at e; cases e
    | some c =>
      rw [hc] at e
      cases e
      have hc' : x.cps[i]? = some c := by rw [← Array.getElem?_toList]; exact hc
      refine ⟨(Array.getElem?_eq_some_iff.mp hc').1, fun y H2 ⟨e2, c2, h2, e3⟩ => ?_⟩
      subst e2
      subst e3
      rw [hc'] at h2
      cases h2
      exact ⟨Ext.refl _, .str _⟩
  stop := fun i O1 H1 hi xx => by
    unfold strItems at hi
    rw [List.length_map, Array.length_toList] at hi
    exact Nat.le_of_eq hi
def rngItems (lo : Int) (n : Nat) : List PyData := (List.range n).map fun i => .int (lo + (i : Nat))
theorem walk_r {lo : Int} {n : Nat} : WalkD K O H (Itr lo n) (rngItems lo n) where
  go := fun i d O1 H1 e x l => by
    unfold rngItems at e
    rw [List.getElem?_map] at e
    by_cases hi : i < n
    · rw [List.getElem?_range hi] at e
      cases e
      refine ⟨hi, fun y H2 ⟨e2, e3⟩ => ?_⟩
      subst e2
      subst e3
      exact ⟨Ext.refl _, .int _⟩
    · rw [List.getElem?_eq_none (by simpa using hi)] at e
      cases e
  stop := fun i O1 H1 hi x => by
    unfold rngItems at hi
    rw [List.length_map, List.length_range] at hi
    exact Nat.le_of_eq hi
end
section
variable {X : Cx} {W : WX} {tg e a b c : Expr} {es : List Expr} {f fa fb : E} {pos p : Pos} {Z : Zn} {env : Env} {σ : Sg} {H : Hp} {O : List Addr}
variable [Tbs] [Zp]
/-- walking a value -/
def wpIt (X : Cx) (tg : Expr) (v : V) : L2.St → Hp → (It → Hp → Prop) → Prop := fun σ H R => ∀ pins s u, Inv X pins σ H s → RelV v u → wpAny (model X.prog X.w) X.A (pyIter u) (PIE X pins σ tg R) X.xe s
theorem pi_gen {t : TE} (h : PE X e t) : PI X tg e (fun σ H R => t σ H fun v H1 => wpIt X tg v σ H1 R) := ⟨fun pins s σ H R I hw => thn (h.run pins s σ H _ I hw) fun u s1 ⟨v, H1, I1, r1, q1⟩ => q1 pins s1 u I1 r1⟩
theorem it_list {a : Addr} {xs : List V} {R : It → Hp → Prop} (hq : SqL X.K H a xs) (q : R (Itl X.K a) H) : wpIt X tg (.ref a) σ H R := fun pins s1 u I1 r1 => by
  cases r1
  obtain ⟨its, rv, p, hz⟩ := I1.list hq
  refine wpAny_pyIter_list p.isList ?_
  refine ⟨s1.heap.objs.size, [s1.heap.objs.size], _, _, H, rfl, I1.kept (t' := s1.toks) fun b o e => Heap.get?_push_of_some _ e, turn_list a _, ⟨_, Heap.get?_push_size _ rfl, rfl, rfl⟩, fun b hb => ?_, q⟩
  have e : b = s1.heap.objs.size := by simpa using hb
  subst e
  exact I1.fpOk (Nat.le_refl _) (I1.hok.fresh (Nat.le_refl _))
theorem it_tup {a : Addr} {xs : List V} {R : It → Hp → Prop} (hq : SqT X.K H a xs) (q : R (Itt X.K a) H) : wpIt X tg (.ref a) σ H R := fun pins s1 u I1 r1 => by
  cases r1
  obtain ⟨its, rv, p, hz⟩ := I1.tuple hq
  refine wpAny_pyIter_tuple (show s1.heap.IsTuple a its.toArray from p) ?_
  refine ⟨s1.heap.objs.size, [s1.heap.objs.size], _, _, H, rfl, I1.kept (t' := s1.toks) fun b o e => Heap.get?_push_of_some _ e, turn_tuple a _, ⟨_, Heap.get?_push_size _ rfl, rfl, rfl⟩, fun b hb => ?_, q⟩
  have e : b = s1.heap.objs.size := by simpa using hb
  subst e
  exact I1.fpOk (Nat.le_refl _) (I1.hok.fresh (Nat.le_refl _))
theorem it_str {x : Str} {R : It → Hp → Prop} (q : R (Its x) H) : wpIt X tg (.str x) σ H R := fun pins s1 u I1 r1 => by
  obtain ⟨t, rfl⟩ := r1
  cases ha : x.cps.all (· < 128)
  · exact wpAny_pyIter_wide ha (pi_one (tk := s1.toks) I1 _ (turn_str _ x t "str_iterator" (.inr rfl)) ⟨_, Heap.get?_push_size _ rfl, rfl, rfl⟩ q)
  · exact wpAny_pyIter_ascii ha (pi_one (tk := s1.toks) I1 _ (turn_str _ x t "str_ascii_iterator" (.inl rfl)) ⟨_, Heap.get?_push_size _ rfl, rfl, rfl⟩ q)
def dIter (d : PyData) : RO (List PyData) := match d with
  | .list xs => .ok xs
  | .tuple xs => .ok xs
  | .str x => .ok (strItems x)
  | _ => .no
/-- for .. in a list, a tuple, a text -/
theorem ci_seq [Tbs] [Zp] (h : CE X W e f) : CI X W tg e (fun env => f env >>= dIter) := fun Z env σ H O R r q => by
  refine wp_i (pi_gen pe_wp) ?_
  refine h.go r q fun d v H1 e1 d1 r1 q1 => ?_
  cases d with
  | list xs =>
    obtain ⟨p, vs, rfl, h1, h2⟩ := dp_lst d1
    exact it_list (Ext.unhid.sl h1) (q1.here _ (walk_l h1 h2))
  | tuple xs =>
    obtain ⟨p, vs, rfl, h1, h2⟩ := dp_tup d1
    exact it_tup (Ext.unhid.st h1) (q1.here _ (walk_t h1 h2))
  | str x =>
    cases dp_str d1
    exact it_str (q1.here _ walk_s)
  | _ => exact q1.elim
/-- for .. in a list of the frame's own, while nothing is changed -/
def rng1 (d : PyData) : RO (List PyData) := match d with
  | .int j => if -(2 ^ 62) ≤ j ∧ j < 2 ^ 62 then .ok (rngItems 0 j.toNat) else .no
  | _ => .no
def rng2 (d e : PyData) : RO (List PyData) := match d, e with
  | .int i, .int j => if -(2 ^ 62) ≤ i ∧ i < 2 ^ 62 ∧ -(2 ^ 62) ≤ j ∧ j < 2 ^ 62 then .ok (rngItems i (j - i).toNat) else .no
  | _, _ => .no
theorem ci_range1 [Tbs] [Zp] (h : CE X W a fa) (hg : Gl X "range") (hm : X.mg "range" = none) (hs : starEach [a] X.env = [(false, eval a X.env)] := by rfl) : CI X W tg (.Call (.Name "range" p) [a] [] pos) (fun env => fa env >>= rng1) := fun Z env σ H O R r q => by
  refine wp_i (pi_range1 hg hm (pa_cons pe_wp pa_nil (by rw [hs] <;> rfl)) hs) ?_
  refine h.go r q fun d v H1 e1 d1 r1 q1 => ?_
  cases d with
  | int j =>
    cases dp_int d1
    have q2 : ROk X W σ O (IQ X.K O R) H1 (if -(2 ^ 62) ≤ j ∧ j < 2 ^ 62 then .ok (rngItems 0 j.toNat) else .no) := q1
    by_cases z : -(2 ^ 62) ≤ j ∧ j < 2 ^ 62
    · rw [if_pos z] at q2
      exact ⟨j, rfl, z.1, z.2, q2.here _ walk_r⟩
    · rw [if_neg z] at q2
      exact q2.elim
  | _ => exact q1.elim
end
end PD
set_option Elab.async false
set_option linter.all false
set_option maxRecDepth 100000
set_option maxHeartbeats 4000000
namespace PD
open PySem PySem.Spec PyProof.Rows L2

/-! ### comprehensions -/
def quiet {α : Type} (r : RO α) : RO α := match r with
  | .er _ _ => .no
  | r => r
theorem quiet_ok {α : Type} {r : RO α} {a : α} (h : quiet r = .ok a) : r = .ok a := by
  cases r with
  | ok b => exact h
  | er _ _ => cases h
  | no => cases h
def compGo (g : G) (t : T) (f : E) (env : Env) : List PyData → RO (List PyData)
  | [] => .ok []
  | x :: xs => quiet (g x env) >>= fun e1 => quiet (t e1) >>= fun b => if b = true then quiet (f e1) >>= fun y => compGo g t f env xs >>= fun ys => .ok (y :: ys) else compGo g t f env xs
def compD (g : G) (t : T) (f : E) (env : Env) (items : List PyData) : RO (List PyData) := if items.length ≤ sizeLine then compGo g t f env items else .no
theorem bind_okE {α β : Type} {r : RO α} {k : α → RO β} {b : β} (h : (r >>= k) = .ok b) : ∃ a, r = .ok a ∧ k a = .ok b := by
  cases r with
  | ok a => exact ⟨a, rfl, h⟩
  | er _ _ => cases h
  | no => cases h
theorem comp_noEr (g : G) (t : T) (f : E) (env : Env) : ∀ items c fl, compGo g t f env items ≠ .er c fl
  | [], c, fl, h => by cases h
  | x :: xs, c, fl, h => by
    have ih := comp_noEr g t f env xs
    have qn : ∀ {α : Type} (r : RO α) c fl, quiet r ≠ .er c fl := fun r c fl z => by cases r <;> cases z
    have bn : ∀ {α β : Type} {r : RO α} {k : α → RO β}, (∀ c fl, r ≠ .er c fl) → (∀ a c fl, k a ≠ .er c fl) → ∀ c fl, (r >>= k) ≠ .er c fl := fun {α β r k} h1 h2 c fl z => by
      cases r with
      | ok a => exact h2 a c fl z
      | er c' fl' => exact h1 c' fl' rfl
      | no => cases z
    refine bn (qn _) (fun e1 => bn (qn _) fun b => ?_) c fl h
    intro c fl
    split
    · exact bn (qn _) (fun y => bn ih fun ys c fl z => by cases z) c fl
    · exact ih c fl
def wipeE (env : Env) : List Nat → Env
  | [] => env
  | v :: vs => (wipeE env vs).set v none
abbrev WN : WX := fun _ _ _ _ => False
section
variable {K : PySem.W.Frag} {Z : Zn} {env : Env} {σ : Sg} {H H1 H2 : Hp} {O : List Addr} {D : Addr} {acc : List V}
variable [Tbs] [Zp]
theorem Rep.wipe (r : Rep K Z env σ H O) : ∀ vs, Rep K Z (wipeE env vs) (L2.wipe σ vs) H O
  | [] => r
  | v :: vs => (Rep.wipe r vs).setNone v none
theorem hid_cons : hid O (hid [D] H) = hid (D :: O) H := by
  funext a
  unfold hid
  by_cases h1 : a ∈ O
  · rw [if_pos h1, if_pos (List.mem_cons_of_mem _ h1)]
  · rw [if_neg h1]
    by_cases h2 : a = D
    · rw [if_pos (by simp [h2]), if_pos (by simp [h2])]
    · rw [if_neg (by simp [h2]), if_neg (by simp [h1, h2])]
theorem Rep.grow (r : Rep K Z env σ H1 O) (e : Ext H1 (hid [D] H2)) (hl : H2 D = some (.lst acc)) : Rep K Z env σ H2 (D :: O) := by
  have e2 : Ext (hid O H1) (hid (D :: O) H2) := by
    rw [← hid_cons]
    exact e.hid O
  have e3 : Ext H1 H2 := e.trans Ext.unhid
  refine ⟨r.ex.trans e2, fun a h => List.mem_cons_of_mem _ (r.sub a h), fun a h => ?_, r.len, fun i s h => ?_, r.nd, fun a h => ?_, fun P hP => tabG_ext e3 (r.tb P hP), r.zp⟩
  · obtain ⟨vs, q⟩ := r.lv a (r.sub a h)
    rw [e3.lst q, ← r.kp a h, q]
  · obtain ⟨v, h1, h2⟩ := r.sl i s h
    refine ⟨v, h1, ?_⟩
    cases s with
    | fz d => exact e2.dp h2
    | ob c fs => exact e2.ob h2
    | me => exact h2
    | own ds =>
      obtain ⟨a, vs, p1, p2, p3, p4, p5⟩ := h2
      exact ⟨a, vs, p1, List.mem_cons_of_mem _ p2, p3, e3.lst p4, e2.dpa p5⟩
  · rcases List.mem_cons.mp h with z | h
    · exact ⟨acc, by rw [z]; exact hl⟩
    · obtain ⟨vs, q⟩ := r.lv a h
      exact ⟨vs, e3.lst q⟩
theorem wipe_get (σ : L2.St) : ∀ (vs : List Nat) (j : Nat), (L2.wipe σ vs)[j]? = if j ∈ vs then (if j < σ.length then some none else none) else σ[j]?
  | [], j => by simp [L2.wipe]
  | v :: vs, j => by
    unfold L2.wipe
    by_cases h : j = v
    · subst h
      rw [if_pos List.mem_cons_self]
      by_cases z : j < σ.length
      · rw [if_pos z, List.getElem?_set_self (by rw [wipe_length]; exact z)]
      · rw [if_neg z, List.getElem?_eq_none (by rw [List.length_set, wipe_length]; omega)]
    · rw [List.getElem?_set_ne (Ne.symm h), wipe_get σ vs j]
      by_cases m : j ∈ vs
      · rw [if_pos m, if_pos (List.mem_cons_of_mem _ m)]
      · rw [if_neg m, if_neg (by simp [h, m])]
theorem wipe_back {σ σ2 : L2.St} {vs : List Nat} (hl : σ2.length = (L2.wipe σ vs).length) (h : ∀ j, j ∉ vs → σ2[j]? = (L2.wipe σ vs)[j]?) : L2.wipe σ2 vs = L2.wipe σ vs := by
  apply List.ext_getElem?
  intro j
  rw [wipe_length] at hl
  rw [wipe_get, wipe_get]
  by_cases m : j ∈ vs
  · rw [if_pos m, if_pos m, hl]
  · rw [if_neg m, if_neg m, h j m, wipe_get, if_neg m]
end
def wpTs (X : Cx) (ifs : List Expr) : TT := fun σ H Q => ∀ pins s, Inv X pins σ H s → wpAny (model X.prog X.w) X.A (forIn ifs true fun c r => if r = true then do let ok ← isTrue c X.env (eval c X.env); pure (ForInStep.yield ok) else pure (ForInStep.yield r)) (TP X pins σ Q) X.xe s
def CTs [Tbs] [Zp] (X : Cx) (W : WX) (ifs : List Expr) (f : T) : Prop := ∀ Z env σ H O Q, Rep X.K Z env σ H O → ROk X W σ O Q H (f env) → wpTs X ifs σ H Q
section
variable {X : Cx} {W : WX} {tg iter elt c : Expr} {ifs : List Expr} {scope : Scope} {own : List (Str × Nat)} {pos : Pos} {fs : Env → RO (List PyData)} {g : G} {is : List Nat} {t : T} {f : E}
variable [Tbs] [Zp]
theorem cts_nil : CTs X W [] (fun _ => .ok true) := fun Z env σ H O Q r q => fun pins s I => pts_nil.run pins s σ H Q I q.here
theorem ROk.unquiet {α : Type} {W' : WX} {σ : Sg} {O : List Addr} {H : Hp} {P : α → Hp → Prop} {r : RO α} {a : α} (h : r = .ok a) (q : ∀ H', Ext H H' → P a H') : ROk X W' σ O P H r := by
  rw [h]
  exact q
/-- the walk of a comprehension (the new list at D), over items that are known -/
theorem comp_core {J : It} {Z : Zn} {env : Env} {σ : Sg} {H1 : Hp} {O : List Addr} {Q : VK} {items zs : List PyData}
    (hg : ∀ (s : Shared) (H : Hp) (C : Addr) (cl : List (Str × Addr)) (fp : List Addr), CG (X.blk s H scope (compEnvC scope cl C X.env) fp) tg is g) (his : ∀ j ∈ is, j ∈ own.map (·.2))
    (ht : ∀ (s : Shared) (H : Hp) (C : Addr) (cl : List (Str × Addr)) (fp : List Addr), CTs (X.blk s H scope (compEnvC scope cl C X.env) fp) WN ifs t)
    (he : ∀ (s : Shared) (H : Hp) (C : Addr) (cl : List (Str × Addr)) (fp : List Addr), CE (X.blk s H scope (compEnvC scope cl C X.env) fp) WN elt f)
    (r1 : Rep X.K Z env σ H1 O) (wk : ∀ i d O1 H2, items[i]? = some d → Ext (hid O H1) (hid O1 H2) → (∀ a ∈ O, a ∈ O1) → Lv O1 H2 → Ext H1 H2 → J.go i H2 ∧ ∀ x H3, J.yld i H2 x H3 → Ext H2 H3 ∧ Dp X.K (hid O1 H3) x d)
    (ws : ∀ i O1 H2, items.length = i → Ext (hid O H1) (hid O1 H2) → Ext H1 H2 → J.stop i H2) (hz : items.length ≤ sizeLine) (hv : compGo g t f (wipeE env (own.map (·.2))) items = .ok zs)
    (q : ∀ H', Ext H1 H' → LQ X.K O Q zs H') (D : Addr) (hD : H1 D = none) :
    ∃ W : Nat → Nat → Hp → Prop, (∃ m, W 0 m (upd H1 D (.lst []))) ∧ ∀ i m H, W i m H →
      (J.stop i H ∧ Q (.ref D) H) ∨ (J.go i H ∧ ∃ Nx : Hp → Prop, (∀ H', Nx H' → ∃ m', m' < m ∧ W (i + 1) m' H') ∧ ∀ x H', J.yld i H x H' →
        (fun (v : V) (σ' : L2.St) (H : Hp) (Q : L2.St → Hp → Prop) => ∀ s H0 C cl fp, wpG (X.blk s H0 scope (compEnvC scope cl C X.env) fp) tg v σ' H Q) x (L2.wipe σ (own.map (·.2))) H' fun σ2 H2 => L2.wipe σ2 (own.map (·.2)) = L2.wipe σ (own.map (·.2)) ∧
        (fun (σ' : L2.St) (H : Hp) (Q : Bool → Hp → Prop) => ∀ s H0 C cl fp, wpTs (X.blk s H0 scope (compEnvC scope cl C X.env) fp) ifs σ' H Q) σ2 H2 fun b H3 =>
        if b = true then (fun (σ' : L2.St) (H : Hp) (Q : VK) => ∀ s H0 C cl fp, wpE (X.blk s H0 scope (compEnvC scope cl C X.env) fp) elt σ' H Q) σ2 H3 fun y H4 => ∃ acc, H4 D = some (.lst acc) ∧ acc.length < sizeLine ∧ Nx (upd H4 D (.lst (acc ++ [y]))) else Nx H3) := by
  have updD : ∀ {H2 : Hp} {acc : List V}, hid [D] (upd H2 D (.lst acc)) = hid [D] H2 := fun {H2 acc} => by
    funext a
    unfold hid
    by_cases z : a = D
    · rw [if_pos (by simp [z]), if_pos (by simp [z])]
    · rw [if_neg (by simp [z]), if_neg (by simp [z]), upd_ne z]
  let Wv : Nat → Nat → Hp → Prop := fun i m H2 => m = items.length - i ∧ i ≤ items.length ∧ ∃ acc ad ys, H2 D = some (.lst acc) ∧ Ext H1 (hid [D] H2) ∧ DpAll X.K (hid (D :: O) H2) acc ad ∧ compGo g t f (wipeE env (own.map (·.2))) (items.drop i) = .ok ys ∧ zs = ad ++ ys ∧ ad.length ≤ i
  refine ⟨Wv, ⟨items.length, by simp, Nat.zero_le _, [], [], zs, upd_same, ?_, .nil, by simpa using hv, rfl, Nat.le_refl _⟩, ?_⟩
  · rw [updD]
    refine fun a o ha => .inl ?_
    rw [hid_out (by simpa using ne_of_none ha hD)]
    exact ha
  rintro i m H2 ⟨rfl, hi, acc, ad, ys, hl, ex, da, hc, hzs, hai⟩
  have eO : Ext (hid O H1) (hid (D :: O) H2) := by
    rw [← hid_cons]
    exact ex.hid O
  have rg := r1.grow ex hl
  have exU : Ext H1 H2 := ex.trans Ext.unhid
  by_cases hlt : i < items.length
  · -- a turn
    have hx : items[i]? = some items[i] := List.getElem?_eq_getElem hlt
    obtain ⟨hgo, hyld⟩ := wk i _ (D :: O) H2 hx eO (fun a h => List.mem_cons_of_mem _ h) rg.lv exU
    rw [List.drop_eq_getElem_cons hlt] at hc
    obtain ⟨e1, hq1, hc⟩ := bind_okE hc
    obtain ⟨bt, hq2, hc⟩ := bind_okE hc
    have hg1 := quiet_ok hq1
    have ht1 := quiet_ok hq2
    refine .inr ⟨hgo, fun H' => Wv (i + 1) (items.length - (i + 1)) H', fun H' h' => ⟨_, by omega, h'⟩, fun x H3 hy s H0 C cl fp => ?_⟩
    obtain ⟨e3, d3⟩ := hyld x H3 hy
    have rb := (rg.mono e3).wipe (own.map (·.2))
    refine hg s H0 C cl fp Z _ _ H3 (D :: O) x _ _ rb d3 ?_
    rw [hg1]
    refine fun σ2 r2 l2 k2 => ⟨wipe_back l2 fun j hj => k2 j fun z => hj (his j z), fun s H0 C cl fp => ?_⟩
    refine ht s H0 C cl fp Z e1 σ2 H3 (D :: O) _ r2 (ROk.unquiet ht1 fun H4 e4 => ?_)
    have l4 : H4 D = some (.lst acc) := (e3.trans e4).lst hl
    have ex4 : Ext H1 (hid [D] H4) := ex.trans ((e3.trans e4).hid [D])
    cases bt with
    | false =>
      rw [if_neg Bool.false_ne_true] at hc
      rw [if_neg Bool.false_ne_true]
      exact ⟨rfl, hlt, acc, ad, ys, l4, ex4, ((e3.trans e4).hid (D :: O)).dpa da, hc, hzs, by omega⟩
    | true =>
      rw [if_pos rfl] at hc
      rw [if_pos rfl]
      obtain ⟨y, hq3, hc⟩ := bind_okE hc
      obtain ⟨ys', hc', hc2⟩ := bind_okE hc
      cases hc2
      have hf1 := quiet_ok hq3
      intro s H0 C cl fp
      refine he s H0 C cl fp Z e1 σ2 H4 (D :: O) _ (r2.mono e4) (ROk.unquiet hf1 fun H5 e5 v hv => ?_)
      have e25 := (e3.trans e4).trans e5
      have l5 : H5 D = some (.lst acc) := e25.lst hl
      have ha := dpa_len da
      refine ⟨acc, l5, by omega, rfl, hlt, acc ++ [v], ad ++ [y], ys', upd_same, ?_, ?_, hc', by rw [hzs]; simp, by rw [List.length_append, List.length_singleton]; omega⟩
      · rw [updD]
        exact ex.trans (e25.hid [D])
      · have e6 : hid (D :: O) (upd H5 D (.lst (acc ++ [v]))) = hid (D :: O) H5 := by
          rw [← hid_cons (O := O) (D := D), ← hid_cons (O := O) (D := D), updD]
        rw [e6]
        exact dpa_app ((e25.hid (D :: O)).dpa da) (.cons hv .nil)
  · -- the end
    have e0 : i = items.length := by omega
    subst e0
    rw [List.drop_length] at hc
    cases hc
    rw [List.append_nil] at hzs
    subst hzs
    refine .inl ⟨ws _ (D :: O) H2 rfl eO exU, ?_⟩
    have q2 := q (hid [D] H2) ex D acc (hid_in (by simp)) (by rw [hid_cons]; exact da)
    have e7 : upd (hid [D] H2) D (.lst acc) = H2 := by
      funext b
      by_cases z : b = D
      · rw [z, upd_same, hl]
      · rw [upd_ne z, hid_out (by simpa using z)]
    rw [e7] at q2
    exact q2
theorem pe_comp (hc : X.calm = true) (hN : X.N.Nodup) (ok : BlkOk X.N X.env.scope scope own) (hs : ∀ x, foldedSetIterable iter X.env x = pure x) : PE X (.ListComp elt [⟨tg, iter, ifs, 0⟩] scope pos)
    (tLc (wpI X tg iter) (fun v σ H Q => ∀ s H0 C cl fp, wpG (X.blk s H0 scope (compEnvC scope cl C X.env) fp) tg v σ H Q) (fun σ H Q => ∀ s H0 C cl fp, wpTs (X.blk s H0 scope (compEnvC scope cl C X.env) fp) ifs σ H Q)
      (fun σ H Q => ∀ s H0 C cl fp, wpE (X.blk s H0 scope (compEnvC scope cl C X.env) fp) elt σ H Q) (own.map (·.2))) :=
  pe_lc hc hN pi_wp ok (fun s H C cl fp => ⟨fun pins s' _ _ _ u _ I r h => h s H C cl fp pins s' u I r⟩) (fun s H C cl fp => ⟨fun pins s' _ _ _ I h => h s H C cl fp pins s' I⟩) (fun s H C cl fp => ⟨fun pins s' _ _ _ I h => h s H C cl fp pins s' I⟩) hs
theorem cl_comp (hc : X.calm = true) (hN : X.N.Nodup) (ok : BlkOk X.N X.env.scope scope own) (hi : CI X W tg iter fs)
    (hg : ∀ (s : Shared) (H : Hp) (C : Addr) (cl : List (Str × Addr)) (fp : List Addr), CG (X.blk s H scope (compEnvC scope cl C X.env) fp) tg is g) (his : ∀ j ∈ is, j ∈ own.map (·.2))
    (ht : ∀ (s : Shared) (H : Hp) (C : Addr) (cl : List (Str × Addr)) (fp : List Addr), CTs (X.blk s H scope (compEnvC scope cl C X.env) fp) WN ifs t)
    (he : ∀ (s : Shared) (H : Hp) (C : Addr) (cl : List (Str × Addr)) (fp : List Addr), CE (X.blk s H scope (compEnvC scope cl C X.env) fp) WN elt f) (hs : ∀ x, foldedSetIterable iter X.env x = pure x := by intro _; rfl) :
    CL X W (.ListComp elt [⟨tg, iter, ifs, 0⟩] scope pos) (fun env => fs env >>= fun items => compD g t f (wipeE env (own.map (·.2))) items) := fun Z env σ H O Q r q => by
  refine wp_e (pe_comp hc hN ok hs) ?_
  refine hi Z env σ H O _ r (q.then fun items H1 _ e1 q1 J wd D hD => ?_)
  unfold compD at q1
  by_cases hz : items.length ≤ sizeLine
  · rw [if_pos hz] at q1
    cases hv : compGo g t f (wipeE env (own.map (·.2))) items with
    | ok zs =>
      rw [hv] at q1
      exact comp_core hg his ht he (r.mono e1) (fun i d O1 H2 a b _ l _ => wd.go i d O1 H2 a b l) (fun i O1 H2 a b _ => wd.stop i O1 H2 a b) hz hv q1 D hD
    | er c fl => exact absurd hv (comp_noEr _ _ _ _ _ _ _)
    | no => rw [hv] at q1; exact q1.elim
  · rw [if_neg hz] at q1
    exact q1.elim
end
end PD
set_option Elab.async false
set_option linter.all false
set_option maxRecDepth 100000
set_option maxHeartbeats 4000000
namespace PD
open PySem PySem.Spec PyProof.Rows L2

/-! ### statements -/
def SOk [Tbs] [Zp] (X : Cx) (W : WX) (Z : Zn) (D : Ends) : SO → Prop
  | .nx env => ∀ σ H O, Rep X.K Z env σ H O → D.nx σ H
  | .rt d => ∀ v H, Ext Z.H0 H → Dp X.K (hid Z.Oc H) v d → D.rt v H
  | .bk env => ∀ σ H O, Rep X.K Z env σ H O → D.bk σ H
  | .ct env => ∀ σ H O, Rep X.K Z env σ H O → D.ct σ H
  | .er env c fl => ∀ C od σ H O, Rep X.K Z env σ H O → ExR X.mg X.K (hid O H) c fl C od → W C od σ H
  | .no => False
def CS [Tbs] [Zp] (X : Cx) (W : WX) (st : Stmt) (f : S) : Prop := ∀ Z env σ H O D, Rep X.K Z env σ H O → SOk X W Z D (f env) → wpS X st D σ H
def CSs [Tbs] [Zp] (X : Cx) (W : WX) (st : List Stmt) (f : S) : Prop := ∀ Z env σ H O D, Rep X.K Z env σ H O → SOk X W Z D (f env) → wpSs X st D σ H
def ofR {α : Type} (r : RO α) (env : Env) (k : α → SO) : SO := match r with
  | .ok a => k a
  | .er c fl => .er env c fl
  | .no => .no
section
variable {X : Cx} {W : WX} {e a b c : Expr} {st : Stmt} {sts rest : List Stmt} {f fa fb : E} {g h : S} {t : T} {Z : Zn} {env : Env} {σ : Sg} {H : Hp} {O : List Addr} {D : Ends} {pos p : Pos}
variable [Tbs] [Zp]
theorem ROk.of_so {α : Type} {r : RO α} {k : α → SO} {P : α → Hp → Prop} (rp : Rep X.K Z env σ H O) (q : SOk X W Z D (ofR r env k)) (kk : ∀ d H1, Ext H H1 → SOk X W Z D (k d) → P d H1) : ROk X W σ O P H r := by
  cases r with
  | ok d => exact fun H1 e1 => kk d H1 e1 q
  | er c fl => exact fun C od H' e' x => q C od σ H' O (rp.mono e') x
  | no => exact q
theorem CE.so {k : PyData → SO} {P : VK} (hc : CE X W e f) (r : Rep X.K Z env σ H O) (q : SOk X W Z D (ofR (f env) env k)) (kk : ∀ d v H1, Ext H H1 → Dp X.K (hid O H1) v d → Rep X.K Z env σ H1 O → SOk X W Z D (k d) → P v H1) : wpE X e σ H P :=
  hc Z env σ H O P r (ROk.of_so r q fun d H1 e1 q1 v hv => kk d v H1 e1 hv (r.mono e1) q1)
theorem CB.so {k : PyData → SO} {P : VK} (hc : CB X W e f) (r : Rep X.K Z env σ H O) (q : SOk X W Z D (ofR (f env) env k)) (kk : ∀ d v H1, Ext H H1 → Dp X.K (hid Z.Oc H1) v d → Rep X.K Z env σ H1 O → SOk X W Z D (k d) → P v H1) : wpE X e σ H P :=
  hc Z env σ H O P r (ROk.of_so r q fun d H1 e1 q1 v hv => kk d v H1 e1 hv (r.mono e1) q1)
theorem CL.so {k : List PyData → SO} {P : VK} {fl : Env → RO (List PyData)} (hc : CL X W e fl) (r : Rep X.K Z env σ H O) (q : SOk X W Z D (ofR (fl env) env k))
    (kk : ∀ ds p vs H1, Ext H H1 → H1 p = none → DpAll X.K (hid O H1) vs ds → Rep X.K Z env σ H1 O → SOk X W Z D (k ds) → P (.ref p) (upd H1 p (.lst vs))) : wpE X e σ H P :=
  hc Z env σ H O P r (ROk.of_so r q fun ds H1 e1 q1 p vs hp hd => kk ds p vs H1 e1 hp hd (r.mono e1) q1)
theorem CT.so {k : Bool → SO} {P : Bool → Hp → Prop} (hc : CT X W e t) (r : Rep X.K Z env σ H O) (q : SOk X W Z D (ofR (t env) env k)) (kk : ∀ d H1, Ext H H1 → Rep X.K Z env σ H1 O → SOk X W Z D (k d) → P d H1) : wpT X e σ H P :=
  hc Z env σ H O P r (ROk.of_so r q fun d H1 e1 q1 => kk d H1 e1 (r.mono e1) q1)

/-! ### blocks -/
def sNx : S := fun env => .nx env
def sSeq (g h : S) : S := fun env => match g env with
  | .nx e => h e
  | r => r
theorem css_nil : CSs X W [] sNx := fun Z env σ H O D r q => wp_ss pss_nil (q σ H O r)
theorem css_cons (h1 : CS X W st g) (h2 : CSs X W rest h) : CSs X W (st :: rest) (sSeq g h) := fun Z env σ H O D r q => by
  refine wp_ss (pss_cons ps_wp pss_wp) ?_
  have q' : SOk X W Z D (match g env with | .nx e => h e | r => r) := q
  refine h1 Z env σ H O _ r ?_
  cases hg : g env with
  | nx e => rw [hg] at q'; exact fun σ1 H1 O1 r1 => h2 Z e σ1 H1 O1 D r1 q'
  | rt d => rw [hg] at q'; exact q'
  | bk d => rw [hg] at q'; exact q'
  | ct d => rw [hg] at q'; exact q'
  | er d c fl => rw [hg] at q'; exact q'
  | no => rw [hg] at q'; exact q'
theorem css_one (h1 : CS X W st g) : CSs X W [st] g := fun Z env σ H O D r q => wp_ss (pss_one ps_wp) (h1 Z env σ H O D r q)
/-! ### stores -/
def sSet (i : Nat) (f : E) : S := fun env => ofR (f env) env fun d => .nx (env.set i (some (.fz d)))
def sSetL (i : Nat) (f : Env → RO (List PyData)) : S := fun env => ofR (f env) env fun ds => .nx (env.set i (some (.own ds)))
theorem cs_set [Tbs] [Zp] {i : Nat} {x : Str} {pos' : Pos} (hN : X.N.Nodup) (hi : X.N[i]? = some x) (hx : Loc X.env.scope x) (he : CE X W e f) (hs : swapsWith e (some (.Name x pos')) pos.line X.env = pure false := by rfl) (hf : X.fn x = true ∨ X.env.scope.names.lookup x = some .local := by first | exact .inl rfl | exact .inr rfl | assumption) :
    CS X W (.Assign [.Name x pos'] e pos) (sSet i f) := fun Z env σ H O D r q => by
  refine wp_s (ps_set hN hi hx pe_wp hs hf) ?_
  exact he.so r q fun d v H1 e1 d1 r1 q1 => q1 _ _ _ (r1.setFz i d1)
section
variable {tg iter elt : Expr} {ifs : List Expr} {scope : Scope} {own : List (Str × Nat)} {fs : Env → RO (List PyData)} {gg : G} {is : List Nat} {tt : T}
end
/-- a, b = e -/
def sAsg (f : E) (gg : G) : S := fun env => ofR (f env) env fun d => match gg d env with
  | .ok e => .nx e
  | _ => .no
theorem cs_asg [Tbs] [Zp] {tg : Expr} {is : List Nat} {gg : G} (he : CE X W e f) (hg : CG X tg is gg) (hs : swapsWithSole [tg] e pos.line X.env = pure false := by rfl) (hw : swappedStores [tg] e X.env = pure none := by rfl)
    (h1 : (assignEach [tg] X.env).map (·.2) = [assign tg X.env] := by rfl) : CS X W (.Assign [tg] e pos) (sAsg f gg) := fun Z env σ H O D r q => by
  refine wp_s (ps_asg pe_wp pg_wp hs hw h1) ?_
  refine he.so r q fun d v H1 e1 d1 r1 q1 => ?_
  refine hg Z env σ H1 O v d _ r1 d1 ?_
  cases hgd : gg d env with
  | ok e2 => rw [hgd] at q1; exact fun σ' r2 _ _ => q1 _ _ _ r2
  | er _ _ => rw [hgd] at q1; exact q1
  | no => rw [hgd] at q1; exact q1
/-- x += e of ints -/
def dAugAdd : PyData → PyData → Option PyData
  | .int i, .int j => some (.int (i + j))
  | _, _ => none
def sAug (i : Nat) (f : E) : S := fun env => ofR (gv env i) env fun x => ofR (f env) env fun y => ofR (ofO (dAugAdd x y)) env fun d => .nx (env.set i (some (.fz d)))
/-! ### return, if, an expression alone -/
def sRet (f : E) : S := fun env => ofR (f env) env .rt
def sRetN : S := fun _ => .rt .none
def sDrop (f : E) : S := fun env => ofR (f env) env fun _ => .nx env
def sIf (t : T) (g h : S) : S := fun env => ofR (t env) env fun b => if b = true then g env else h env
theorem cs_ret [Tbs] [Zp] (he : CE X W e f) : CS X W (.Return (some e) pos) (sRet f) := fun Z env σ H O D r q => by
  refine wp_s (ps_ret pe_wp) ?_
  exact he.so r q fun d v H1 e1 d1 r1 q1 => q1 v H1 r1.whole ((Ext.hid_sub r1.sub).dp d1)
theorem cs_if [Tbs] [Zp] {s1 s2 : List Stmt} (hc : CT X W c t) (h1 : CSs X W s1 g) (h2 : CSs X W s2 h) : CS X W (.If c s1 s2 pos) (sIf t g h) := fun Z env σ H O D r q => by
  refine wp_s (ps_if pt_wp pss_wp pss_wp) ?_
  refine hc.so r q fun d H1 e1 r1 q1 => ?_
  cases d with
  | true => exact h1 Z env σ H1 O D r1 q1
  | false => exact h2 Z env σ H1 O D r1 q1

/-! ### loops -/
def forGo (gg : G) (body : S) : List PyData → Env → SO
  | [], env => .nx env
  | x :: xs, env => match gg x env with
    | .ok e1 => match body e1 with
      | .nx e => forGo gg body xs e
      | .ct e => forGo gg body xs e
      | .bk e => .nx e
      | r => r
    | _ => .no
def sFor (fi : Env → RO (List PyData)) (gg : G) (body : S) : S := fun env => ofR (fi env) env fun items => forGo gg body items env
/-- the frozen things of a state, as an entry of their own -/
def zn (Z : Zn) (H : Hp) (O : List Addr) : Zn := ⟨fun a => if a ∈ O ∧ a ∉ Z.Oc then none else H a, Z.Oc⟩
theorem zn_hid (r : Rep X.K Z env σ H O) : hid (zn Z H O).Oc (zn Z H O).H0 = hid O H := by
  funext a
  show hid Z.Oc (fun a => if a ∈ O ∧ a ∉ Z.Oc then none else H a) a = hid O H a
  unfold hid
  by_cases h1 : a ∈ Z.Oc
  · rw [if_pos h1, if_pos (r.sub a h1)]
  · rw [if_neg h1]
    dsimp only
    by_cases h2 : a ∈ O
    · rw [if_pos (show a ∈ O ∧ a ∉ Z.Oc from ⟨h2, h1⟩), if_pos h2]
    · rw [if_neg (show ¬ (a ∈ O ∧ a ∉ Z.Oc) from fun z => h2 z.1), if_neg h2]
theorem zn_oc {a : Addr} (h : a ∈ Z.Oc) : (zn Z H O).H0 a = H a := if_neg fun z => z.2 h
theorem zn_ext (r : Rep X.K Z env σ H O) : Ext Z.H0 (zn Z H O).H0 := fun a o h => by
  by_cases ha : a ∈ Z.Oc
  · exact .inl (by rw [zn_oc ha, r.kp a ha]; exact h)
  · have h1 : hid Z.Oc Z.H0 a = some o := by rw [hid_out ha]; exact h
    have h2 := r.ex a o h1
    rw [← zn_hid r] at h2
    rcases h2 with h2 | ⟨ps, more, e1, h2, h3⟩
    · exact .inl (hid_some h2).2
    · exact .inr ⟨ps, more, e1, (hid_some h2).2, h3⟩
theorem Rep.zone (r : Rep X.K Z env σ H O) : Rep X.K (zn Z H O) env σ H O :=
  ⟨by rw [zn_hid r]; exact Ext.refl _, r.sub, fun a h => (zn_oc h).symm, r.len, r.sl, r.nd, r.lv, r.tb, Zp.cl r.zp (fun a h => ⟨h, (zn_oc h).trans (r.kp a h)⟩) (by have := r.ex; rw [← zn_hid r] at this; exact this)⟩
theorem Rep.unzone {env' : Env} {σ' : Sg} {H' : Hp} {O' : List Addr} (r0 : Rep X.K Z env σ H O) (r : Rep X.K (zn Z H O) env' σ' H' O') : Rep X.K Z env' σ' H' O' :=
  ⟨r0.ex.trans (by have := r.ex; rw [zn_hid r0] at this; exact this), r.sub, fun a h => by
    have h2 : H' a = (zn Z H O).H0 a := r.kp a h
    rw [h2, zn_oc h]
    exact r0.kp a h, r.len, r.sl, r.nd, r.lv, r.tb, r0.zp⟩
theorem Rep.frz {env' : Env} {σ' : Sg} {H' : Hp} {O' : List Addr} (r0 : Rep X.K Z env σ H O) (r : Rep X.K (zn Z H O) env' σ' H' O') : Ext (hid O H) (hid O' H') := by
  have := r.ex
  rw [zn_hid r0] at this
  exact this
/-- an outcome wanted of the whole, of a part that begins at a state -/
theorem SOk.zone (r0 : Rep X.K Z env σ H O) : ∀ {r : SO}, SOk X W Z D r → SOk X W (zn Z H O) D r
  | .nx _, h => fun σ' H' O' r => h σ' H' O' (r0.unzone r)
  | .rt _, h => fun v H' e d => h v H' ((zn_ext r0).trans e) d
  | .bk _, h => fun σ' H' O' r => h σ' H' O' (r0.unzone r)
  | .ct _, h => fun σ' H' O' r => h σ' H' O' (r0.unzone r)
  | .er _ _ _, h => fun C od σ' H' O' r x => h C od σ' H' O' (r0.unzone r) x
  | .no, h => h
theorem for_core {tg : Expr} {is : List Nat} {gg : G} {J : It} {items : List PyData} (hg : CG X tg is gg) (hb : CSs X W sts g)
    (r0 : Rep X.K Z env σ H O) (wd : WalkD X.K O H J items) (q : SOk X W Z D (forGo gg g items env)) :
    ∃ Wv : Nat → Nat → L2.St → Hp → Prop, (∃ m, Wv 0 m σ H) ∧ ∀ i m σ H, Wv i m σ H →
      (J.stop i H ∧ D.nx σ H) ∨ (J.go i H ∧ ∃ N : L2.St → Hp → Prop, (∀ σ' H', N σ' H' → ∃ m', m' < m ∧ Wv (i + 1) m' σ' H') ∧ ∀ x H', J.yld i H x H' → wpG X tg x σ H' fun σ2 H2 => wpSs X sts { D with nx := N, ct := N, bk := D.nx } σ2 H2) := by
  have q0 := q.zone r0
  let Wv : Nat → Nat → L2.St → Hp → Prop := fun i m σ' H' => m = items.length - i ∧ i ≤ items.length ∧ ∃ env' O', Rep X.K (zn Z H O) env' σ' H' O' ∧ SOk X W (zn Z H O) D (forGo gg g (items.drop i) env')
  refine ⟨Wv, ⟨items.length, by simp, Nat.zero_le _, env, O, r0.zone, by simpa using q0⟩, ?_⟩
  rintro i m σ1 H1 ⟨rfl, hi, env1, O1, r1, q1⟩
  have ex1 := r0.frz r1
  by_cases hlt : i < items.length
  · have hx : items[i]? = some items[i] := List.getElem?_eq_getElem hlt
    obtain ⟨hgo, hyld⟩ := wd.go i _ O1 H1 hx ex1 r1.lv
    refine .inr ⟨hgo, fun σ' H' => Wv (i + 1) (items.length - (i + 1)) σ' H', fun σ' H' h' => ⟨_, by omega, h'⟩, fun x H2 hy => ?_⟩
    obtain ⟨e2, d2⟩ := hyld x H2 hy
    rw [List.drop_eq_getElem_cons hlt] at q1
    refine hg (zn Z H O) env1 σ1 H2 O1 x _ _ (r1.mono e2) d2 ?_
    have q2 : SOk X W (zn Z H O) D (match gg items[i] env1 with | .ok e1 => (match g e1 with | .nx e => forGo gg g (items.drop (i + 1)) e | .ct e => forGo gg g (items.drop (i + 1)) e | .bk e => .nx e | r => r) | _ => .no) := q1
    cases hgd : gg items[i] env1 with
    | ok e1 =>
      rw [hgd] at q2
      refine fun σ2 r2 _ _ => hb (zn Z H O) e1 σ2 H2 O1 _ r2 ?_
      have q3 : SOk X W (zn Z H O) D (match g e1 with | .nx e => forGo gg g (items.drop (i + 1)) e | .ct e => forGo gg g (items.drop (i + 1)) e | .bk e => .nx e | r => r) := q2
      cases hge : g e1 with
      | nx e => rw [hge] at q3; exact fun σ3 H3 O3 r3 => ⟨rfl, hlt, e, O3, r3, q3⟩
      | ct e => rw [hge] at q3; exact fun σ3 H3 O3 r3 => ⟨rfl, hlt, e, O3, r3, q3⟩
      | bk e => rw [hge] at q3; exact q3
      | rt d => rw [hge] at q3; exact q3
      | er d c fl => rw [hge] at q3; exact q3
      | no => rw [hge] at q3; exact q3
    | er _ _ => rw [hgd] at q2; exact q2.elim
    | no => rw [hgd] at q2; exact q2.elim
  · have e0 : i = items.length := by omega
    subst e0
    rw [List.drop_length] at q1
    exact .inl ⟨wd.stop _ O1 H1 rfl ex1, q1 σ1 H1 O1 r1⟩
theorem cs_for {tg iter : Expr} {is : List Nat} {gg : G} {fi : Env → RO (List PyData)} (hp : PassesOwn (model X.prog X.w) X.A X.env X.xe) (hc : X.calm = true) (hi : CI X W tg iter fi) (hg : CG X tg is gg) (hb : CSs X W sts g)
    (hs : ∀ x, foldedSetIterable iter X.env x = pure x := by intro _; rfl) : CS X W (.For tg iter sts [] pos) (sFor fi gg g) := fun Z env σ H O D r q => by
  refine wp_s (ps_for hp hc pi_wp pg_wp pss_wp hs) ?_
  exact hi Z env σ H O _ r (ROk.of_so r q fun items H1 e1 q1 J wd => for_core hg hb (r.mono e1) wd q1)
def whileGo (t : T) (body : S) : Nat → Env → SO
  | 0, _ => .no
  | n + 1, env => ofR (t env) env fun b => if b = true then (match body env with
      | .nx e => whileGo t body n e
      | .ct e => whileGo t body n e
      | .bk e => .nx e
      | r => r) else .nx env
theorem cs_while [Tbs] [Zp] (n : Nat) (hp : PassesOwn (model X.prog X.w) X.A X.env X.xe) (hc : CT X W c t) (hb : CSs X W sts g) : CS X W (.While c sts [] pos) (fun env => whileGo t g n env) := fun Z env σ H O D r q => by
  refine wp_s (ps_while hp pt_wp pss_wp) ?_
  refine ⟨fun m σ' H' => ∃ env' O', Rep X.K Z env' σ' H' O' ∧ SOk X W Z D (whileGo t g m env'), ⟨n, env, O, r, q⟩, ?_⟩
  rintro m σ1 H1 ⟨env1, O1, r1, q1⟩
  cases m with
  | zero => exact q1.elim
  | succ m =>
    refine hc.so r1 q1 fun d H2 e2 r2 q2 => ?_
    cases d with
    | false =>
      rw [if_neg Bool.false_ne_true] at q2 ⊢
      exact q2 _ _ _ r2
    | true =>
      rw [if_pos rfl] at q2 ⊢
      refine ⟨fun σ' H' => ∃ env' O', Rep X.K Z env' σ' H' O' ∧ SOk X W Z D (whileGo t g m env'), fun σ' H' h' => ⟨m, Nat.lt_succ_self _, h'⟩, hb Z env1 σ1 H2 O1 _ r2 ?_⟩
      cases hge : g env1 with
      | nx e => rw [hge] at q2; exact fun σ3 H3 O3 r3 => ⟨e, O3, r3, q2⟩
      | ct e => rw [hge] at q2; exact fun σ3 H3 O3 r3 => ⟨e, O3, r3, q2⟩
      | bk e => rw [hge] at q2; exact q2
      | rt d => rw [hge] at q2; exact q2
      | er d c fl => rw [hge] at q2; exact q2
      | no => rw [hge] at q2; exact q2

/-! ### own lists change -/
def sApp (i : Nat) (f : E) : S := fun env => ofR (gvo env i) env fun xs => ofR (f env) env fun d => if xs.length < sizeLine then .nx (env.set i (some (.own (xs ++ [d])))) else .no
/-- from here on the own list of slot i is a value like any other -/
def frz (i : Nat) : S → S := fun s env => match env[i]? with
  | some (some (.own ds)) => s (env.set i (some (.fz (.list ds))))
  | _ => .no
end
end PD
set_option Elab.async false
set_option linter.all false
set_option maxRecDepth 100000
set_option maxHeartbeats 4000000
namespace PD
open PySem PySem.Spec PyProof.Rows L2

/-! ### defs -/
/-- a def's promise, by a function of its arguments' data -/
def spD [Tbs] (K : PySem.W.Frag) (mg : Str → Option Value) (n : Nat) (F : List PyData → RO PyData) : Sp := fun vs H Q E => vs.length = n ∧ (∀ P ∈ Tbs.l, GxR.TabG H P) ∧ ∃ ds Oc, Lv Oc H ∧ DpAll K (hid Oc H) vs ds ∧ (match F ds with
  | .ok d => ∀ v H', Ext H H' → Dp K (hid Oc H') v d → Q v H'
  | .er c fl => ∀ C od H', Ext H H' → ExR mg K (hid Oc H') c fl C od → E C od H'
  | .no => False)
def startE (m : Nat) (ds : List PyData) : Env := ds.map (fun d => some (.fz d)) ++ List.replicate (m - ds.length) none
def runD (m : Nat) (B : S) : List PyData → RO PyData := fun ds => match B (startE m ds) with
  | .nx _ => .ok .none
  | .rt d => .ok d
  | .er _ c fl => .er c fl
  | _ => .no
theorem start_rep [Tbs] {K : PySem.W.Frag} {H : Hp} {Oc : List Addr} {vs : List V} {ds : List PyData} {N : List Str} (l : Lv Oc H) (tb : ∀ P ∈ Tbs.l, GxR.TabG H P) (h : DpAll K (hid Oc H) vs ds) : Rep K ⟨H, Oc⟩ (startE N.length ds) (L2.start N vs) H Oc := by
  have hl := dpa_len h
  have noOwn : ∀ {i : Nat} {di : List PyData}, (startE N.length ds)[i]? = some (some (.own di)) → False := fun {i di} e => by
    unfold startE at e
    by_cases hi : i < ds.length
    · rw [List.getElem?_append_left (by simpa using hi), List.getElem?_map] at e
      cases hd : ds[i]? with
      | none => rw [hd] at e; cases e
      | some d => rw [hd] at e; cases e
    · rw [List.getElem?_append_right (by simpa using hi), List.getElem?_replicate] at e
      split at e <;> cases e
  refine ⟨Ext.refl _, fun _ h => h, fun _ _ => rfl, ?_, fun i s e => ?_, fun i j a di dj e => (noOwn e).elim, l, tb, trivial⟩
  · unfold startE L2.start
    simp [hl]
  · unfold startE at e
    by_cases hi : i < ds.length
    · rw [List.getElem?_append_left (by simpa using hi), List.getElem?_map] at e
      cases hd : ds[i]? with
      | none => rw [hd] at e; cases e
      | some d =>
        rw [hd] at e
        cases e
        obtain ⟨v, h1, h2⟩ := dpa_get h hd
        refine ⟨v, ?_, h2⟩
        unfold L2.start
        rw [List.getElem?_append_left (by rw [List.length_map, hl]; exact hi), List.getElem?_map, h1]
        rfl
    · rw [List.getElem?_append_right (by simpa using hi), List.getElem?_replicate] at e
      split at e <;> cases e
section
variable {P : Program} {w : World} {K : PySem.W.Frag} {mg : Str → Option Value} {base : Heap}
variable [Tbs]
theorem body_ok {N : List Str} {X : Cx} {H : Hp} {vs : List V} {Q : VK} {E : XK} {body : List Stmt} {B : S} {n : Nat} (hK : X.K = K) (hmg : X.mg = mg) (h : CSs X (fun cls d _ H => E cls d H) body B) (q : spD K mg n (runD N.length B) vs H Q E) :
    wpSs X body { nx := fun _ H' => Q .non H', rt := Q } (L2.start N vs) H := by
  subst hK
  subst hmg
  obtain ⟨_, tb, ds, Oc, l, hd, q⟩ := q
  refine h ⟨H, Oc⟩ (startE N.length ds) _ H Oc _ (start_rep l tb hd) ?_
  unfold runD at q
  cases hb : B (startE N.length ds) with
  | nx e => rw [hb] at q; exact fun σ' H' O' r => q _ H' r.whole .non
  | rt d => rw [hb] at q; exact fun v H' e hv => q v H' e hv
  | bk e => rw [hb] at q; exact q.elim
  | ct e => rw [hb] at q; exact q.elim
  | er e c fl => rw [hb] at q; exact fun C od σ' H' O' r x => q C od H' r.whole (x.mono (Ext.hid_sub r.sub))
  | no => rw [hb] at q; exact q.elim
theorem okD {x qual : Str} {st : Stmt} {f : Addr} {fd : FuncData} {N ps : List Str} {k : Nat} (F : Fun K x qual st f fd) (S : FnScope N ps (defScope st)) (B : PD.S)
    (h : ∀ (cdv : Value) (A : Around) (outer : List PySem.Env) (s : Shared) (H : Hp) (E : XK), Room k (A.deeper (envOfC qual (defScope st) s.heap.objs.size f cdv)) →
      CSs (cxOf (L2.CX P w) P w K mg base N qual (defScope st) f cdv A outer s H E) (fun cls d _ H => E cls d H) (defBody st) B) : FnOk P w K mg base (L2.CX P w) (k + 1) f fd ps (spD K mg ps.length (runD N.length B)) :=
  F.okX S (fun vs H Q E q => q.1) fun cdv A outer s H vs Q E hr q => ⟨_, pss_wp, body_ok (N := N) rfl rfl (h cdv A outer s H E hr) q⟩
end

/-! ### calls of defs -/
def callD (n : Nat) (F : List PyData → RO PyData) (ds : List PyData) : RO PyData := if ds.length = n then F ds else .no
section
variable {X : Cx} {W : WX} {Z : Zn} {env : Env} {σ : Sg} {H : Hp} {O : List Addr} {k n : Nat} {f : Addr} {fd : FuncData} {ps : List Str} {F : List PyData → RO PyData} {x : Str} {p pos : Pos} {e : Expr} {es : List Expr} {ga : Env → RO (List PyData)} {ds : List Value} {dvs : List V} {dd : List PyData}
variable [Tbs] [Zp]
theorem sp_of {vs : List V} {d : List PyData} {Q : VK} (r : Rep X.K Z env σ H O) (hv : DpAll X.K (hid O H) vs d) (q : ROk X W σ O (VQ X.K O Q) H (callD n F d)) : spD X.K X.mg n F vs H Q (WE W σ) := by
  unfold callD at q
  by_cases hl : d.length = n
  · rw [if_pos hl] at q
    refine ⟨by rw [dpa_len hv]; exact hl, r.tb, d, O, r.lv, hv, ?_⟩
    cases hF : F d with
    | ok y => rw [hF] at q; exact fun v H' e' h => q H' e' v h
    | er c fl => rw [hF] at q; exact q
    | no => rw [hF] at q; exact q
  · rw [if_neg hl] at q
    exact q.elim
theorem ce_call (G : FnOk X.prog X.w X.K X.mg X.base (L2.CX X.prog X.w) k f fd ps (spD X.K X.mg n F)) (hr : Room k X.A) (tk : Takes X W) (hg : Gl X x) (hm : X.mg x = some (.ref f)) (hk : PySem.W.keepIn X.K (.ref f) = true) (hb : Binds X.K fd ps [])
    (ha : CA X W (e :: es) ga) (hdb : (x == ("__debug__" : Str)) = false := by decide) (he : starEach (e :: es) X.env = (false, eval e X.env) :: starEach es X.env := by rfl) (hpl : (backTo pos (starEach es X.env)).any (·.1) = false := by rfl) :
    CE X W (.Call (.Name x p) (e :: es) [] pos) (fun env => ga env >>= callD n F) := fun Z env σ H O Q r q => by
  refine wp_e (pe_callS G hr hg hm hk hb (fun σ => passAt tk σ) pa_wp hdb he hpl) ?_
  exact ha.go r q fun d vs H1 e1 d1 r1 q1 => sp_of r1 d1 q1
/-- the defaults fill up -/
theorem run_fnSD {E : L2.St → XK} {sp : Sp} {pins : List (Addr × Obj)} {s : Shared} {Q : VK} {us : List Value} {vs : List V} (G : FnOk X.prog X.w X.K X.mg X.base (L2.CX X.prog X.w) k f fd ps sp) (hr : Room k X.A) (hb : Binds X.K fd ps ds) (hd : Vals dvs ds) (hx : PassesAt (L2.CX X.prog X.w) X σ (E σ))
    (I : Inv X pins σ H s) (r : Vals vs us) (h : sp (vs ++ dvs) H Q (E σ)) : wpAny (model X.prog X.w) X.A (call (.ref f) us) (EP X pins σ Q) X.xe s := by
  have r2 : Vals (vs ++ dvs) (us ++ ds) := r.append hd
  have hl : (us ++ ds).length = ps.length := by rw [← r2.length]; exact G.len _ _ _ _ h
  refine wpAny_call (codeAny_mono (G.run X.A X.stack s H ⟨us, []⟩ (us ++ ds) (vs ++ dvs) Q (E σ) hr I.env0 (hb s us I.kIn hl) r2 h) fun r s' hq => ?_)
  cases r with
  | error e => exact hx pins H s e s' I hq
  | ok fl =>
    cases fl with
    | ret u => exact I.after hq
    | next => exact False.elim hq
    | brk => exact False.elim hq
    | cont => exact False.elim hq
end

/-! ### raise C(), C an own class without __init__ -/
section
variable {X : Cx} {W : WX} {C : Addr} {bmB : List Value} {B newId initId : String} {x : Str} {p pos : Pos}
variable [Tbs] [Zp]
theorem pmk_own0 (F : ExcBaseFacts B newId initId bmB) (q : PySem.W.excIn X.K C bmB newId = true) (gC : X.mg x = some (.ref C)) (kC : PySem.W.keepIn X.K (.ref C) = true) (r : Raises X (.ref C)) (hg : Gl X x) (hdb : (x == ("__debug__" : Str)) = false := by decide) :
    PMk X (.Call (.Name x p) [] [] pos) (fun _ H Q => Q (.ref C) none H) := by
  intro pins s σ H Q I h
  refine wpAny_Call_Name_kw (ld_glob I hg gC ?_ hdb)
  refine PySem.W.callWith_K0 I.kIn kC ?_
  show wpAny _ _ (call (.ref C) []) _ _ _
  obtain ⟨bm, N, nm, qn, bs, hdct, sn, sub, ab, col, dd, k0, k1, k2, k3, k5, mN, hC, hN, hni, T⟩ := exc_obj I.kIn q
  refine wpAny_call_exc_subT F T hC hN hni (fun h' e hm => ?_) (by show 0 ≤ sizeLine; exact Nat.zero_le _)
  exact mk_of I hm r h (I.hok.gone hm.new)
def sRaise (c : Str) (fl : Flds) : S := fun env => .er env c fl
end
end PD
set_option Elab.async false
set_option linter.all false
set_option maxRecDepth 100000
set_option maxHeartbeats 4000000
namespace PD
open PySem PySem.Spec PyProof.Rows L2

/-! ### in an except suite: expressions over the exception that slot i holds -/
abbrev Ex := Str → Flds → E
def CEx [Tbs] [Zp] (X : Cx) (i : Nat) (a : Addr) (cls : Value) (od : Option Addr) (e : Expr) (f : Ex) : Prop := ∀ Z env σ H O Q c fl, Rep X.K Z env σ H O → σ[i]? = some (some (.ref a)) → ExR X.mg X.K (hid O H) c fl cls od → ROk X WN σ O (VQ X.K O Q) H (f c fl env) → wpE X e σ H Q
section
variable {X : Cx} {i : Nat} {a : Addr} {cls : Value} {od : Option Addr} {e e1 e2 : Expr} {es rest : List Expr} {f : E} {fa fb : Ex} {pos p : Pos} {Z : Zn} {env : Env} {σ : Sg} {H : Hp} {O : List Addr}
variable [Tbs] [Zp]
theorem CEx.go {β : Type} {g : PyData → RO β} {P : β → Hp → Prop} {Q : VK} {c : Str} {fl : Flds} (h : CEx X i a cls od e fa) (r : Rep X.K Z env σ H O) (hi : σ[i]? = some (some (.ref a))) (x : ExR X.mg X.K (hid O H) c fl cls od) (q : ROk X WN σ O P H (fa c fl env >>= g))
    (k : ∀ d v H1, Ext H H1 → Dp X.K (hid O H1) v d → Rep X.K Z env σ H1 O → ExR X.mg X.K (hid O H1) c fl cls od → ROk X WN σ O P H1 (g d) → Q v H1) : wpE X e σ H Q :=
  h Z env σ H O Q c fl r hi x (q.then fun d H1 _ e1 q1 v hv => k d v H1 e1 hv (r.mono e1) (x.mono (e1.hid O)) q1)
/-- the tuple's items -/
def CAx (X : Cx) (i : Nat) (a : Addr) (cls : Value) (od : Option Addr) (es : List Expr) (f : Str → Flds → Env → RO (List PyData)) : Prop := ∀ Z env σ H O Q c fl, Rep X.K Z env σ H O → σ[i]? = some (some (.ref a)) → ExR X.mg X.K (hid O H) c fl cls od → ROk X WN σ O (AQ X.K O Q) H (f c fl env) → wpA X es σ H Q
variable {ga : Str → Flds → Env → RO (List PyData)}
end

section
variable {X : Cx} {i : Nat} {a D : Addr} {oe : Obj} {pn : List (Addr × Obj)} {cls : Value} {od : Option Addr} {n x : Str} {pos p p1 p2 : Pos} {C : Addr} {b : Bool} {c0 : Str}
variable [Tbs] [Zp]
end
/-! ### the statement -/
def sTryR (i : Nat) (g : S) (mtc : Str → Option Bool) (fx : Ex) : S := fun env => match g env with
  | .er e1 c fl => (match mtc c with
    | some true => if i < e1.length then (match fx c fl (e1.set i none) with | .ok d => .rt d | _ => .no) else .no
    | some false => .er e1 c fl
    | none => .no)
  | r => r
section
variable {X : Cx} {W : WX} {x n : Str} {cV : Value} {i : Nat} {body : List Stmt} {np pos pos' rpos : Pos} {g : S} {mtc : Str → Option Bool} {fx : Ex} {e : Expr}
variable [Tbs] [Zp]
end
end PD
set_option Elab.async false
set_option linter.all false
set_option maxRecDepth 100000
set_option maxHeartbeats 4000000
namespace PD
open PySem PySem.Spec PyProof.Rows L2

/-! ### the readings by name -/
abbrev A := PD.Env → RO (List PyData)
def eOp (bi : PyData → PyData → Option PyData) (fa fb : E) : E := fun env => fa env >>= fun x => fb env >>= fun y => ofO (bi x y)
def tCm (bi : PyData → PyData → Option PyData) (fa fb : E) : T := fun env => fa env >>= fun x => fb env >>= fun y => ofO (bi x y) >>= tb
def eUn (bi : PyData → Option PyData) (fa : E) : E := fun env => fa env >>= fun x => ofO (bi x)
def eBf (bi : List PyData → Option PyData) (ga : A) : E := fun env => ga env >>= fun ds => ofO (bi ds)
def eIsi (T : String) (f : E) : E := fun env => f env >>= fun d => ofO (isiO T d)
def eB (i : Nat) : E := fun env => gb env i
def eIx (fa fb : E) : E := fun env => fa env >>= fun x => fb env >>= fun y => ofO (dIx x y)
def eIxO (i : Nat) (fb : E) : E := fun env => gvo env i >>= fun xs => fb env >>= fun y => ofO (dIx (.list xs) y)
abbrev OI := PD.Env → RO (Option Int)
def oN : OI := fun _ => .ok none
def oS (f : E) : OI := fun env => f env >>= tI >>= fun i => .ok (some i)
def eSl (fa : E) (fl fh : OI) : E := fun env => fa env >>= fun x => fl env >>= fun l => fh env >>= fun u => dCut x l u
def lLi (f : E) : A := fun env => f env >>= dSeq
def eTu (f : E) : E := fun env => f env >>= dSeq >>= fun xs => .ok (.tuple xs)
def eTuO (i : Nat) : E := fun env => gvo env i >>= fun xs => .ok (.tuple xs)
def eLeO (i : Nat) : E := fun env => gvo env i >>= fun xs => .ok (.int xs.length)
def eL (fl : A) : E := fun env => fl env >>= fun ds => .ok (.list ds)
def lComp (fs : A) (g : G) (t : T) (f : E) (ws : List Nat) : A := fun env => fs env >>= fun items => compD g t f (wipeE env ws) items
def iSeq (f : E) : A := fun env => f env >>= dIter
def iR1 (f : E) : A := fun env => f env >>= rng1
def iR2 (f g : E) : A := fun env => f env >>= fun x => g env >>= fun y => rng2 x y
def tV (f : E) : T := fun env => f env >>= tb
def tT (f : E) : T := fun env => f env >>= tru
def tY : T := fun _ => .ok true
def eCall (n : Nat) (F : List PyData → RO PyData) (ga : A) : E := fun env => ga env >>= callD n F
def eCallD (n : Nat) (F : List PyData → RO PyData) (dd : List PyData) (ga : A) : E := fun env => ga env >>= fun xs => callD n F (xs ++ dd)
def sWh (n : Nat) (t : T) (g : S) : S := fun env => whileGo t g n env
def sBk : S := fun env => .bk env
def sCt : S := fun env => .ct env
/-! ### a def that may be called by its name -/
def Dfn [Tbs] (P : Program) (w : World) (K : PySem.W.Frag) (mg : Str → Option Value) (base : Heap) (x : Str) (k n : Nat) (F : List PyData → RO PyData) : Prop :=
  ∃ (f : Addr) (fd : FuncData) (ps : List Str), FnOk P w K mg base (L2.CX P w) k f fd ps (spD K mg n F) ∧ mg x = some (.ref f) ∧ PySem.W.keepIn K (.ref f) = true ∧ Binds K fd ps []
theorem Dfn.mono [Tbs] {P : Program} {w : World} {K : PySem.W.Frag} {mg : Str → Option Value} {base : Heap} {x : Str} {k k' n : Nat} {F : List PyData → RO PyData} (h : Dfn P w K mg base x k n F) (l : k ≤ k') : Dfn P w K mg base x k' n F := by
  obtain ⟨f, fd, ps, G, r⟩ := h
  exact ⟨f, fd, ps, G.mono l, r⟩
/-- the same, with a promise that is worth as much -/
theorem Dfn.eqv [Tbs] {P : Program} {w : World} {K : PySem.W.Frag} {mg : Str → Option Value} {base : Heap} {x : Str} {k n : Nat} {F F' : List PyData → RO PyData} (h : Dfn P w K mg base x k n F) (l : ∀ ds, F' ds = .no ∨ F' ds = F ds) : Dfn P w K mg base x k n F' := by
  obtain ⟨f, fd, ps, G, r⟩ := h
  refine ⟨f, fd, ps, G.imp fun vs H Q E q => ?_, r⟩
  obtain ⟨q1, q0, ds, Oc, q2, q3, q4⟩ := q
  refine ⟨q1, q0, ds, Oc, q2, q3, ?_⟩
  rcases l ds with e | e
  · rw [e] at q4
    exact q4.elim
  · rw [← e]
    exact q4
section
variable {X : Cx} {W : WX} {e a b c : Expr} {es : List Expr} {f fa fb : E} {ga : A} {pos p : Pos} {x : Str} {k n kk : Nat} {F : List PyData → RO PyData}
variable [Tbs] [Zp]
theorem c_call (G : Dfn X.prog X.w X.K X.mg X.base x k n F) (hr : Room kk X.A) (hk : k ≤ kk) (tk : Takes X W) (hg : Gl X x) (ha : CA X W (e :: es) ga) (hdb : (x == ("__debug__" : Str)) = false := by decide) (he : starEach (e :: es) X.env = (false, eval e X.env) :: starEach es X.env := by rfl) (hpl : (backTo pos (starEach es X.env)).any (·.1) = false := by rfl) :
    CE X W (.Call (.Name x p) (e :: es) [] pos) (eCall n F ga) := by
  obtain ⟨f, fd, ps, G, hm, hkp, hb⟩ := G
  exact ce_call G (hr.mono hk) tk hg hm hkp hb ha hdb he hpl
/-- a def of the text: its promise by its body -/
theorem dfn_of {P : Program} {w : World} {K : PySem.W.Frag} {mg : Str → Option Value} {base : Heap} {qual : Str} {st : Stmt} {f : Addr} {fd : FuncData} {N ps : List Str} {B : S} (Fn : Fun K x qual st f fd) (Sc : FnScope N ps (defScope st)) (hb : Binds K fd ps []) (hm : mg x = some (.ref f))
    (h : ∀ (cdv : Value) (A : Around) (outer : List PySem.Env) (s : Shared) (H : Hp) (E : XK), Room k (A.deeper (envOfC qual (defScope st) s.heap.objs.size f cdv)) →
      @CSs _ zp0 (cxOf (L2.CX P w) P w K mg base N qual (defScope st) f cdv A outer s H E) (fun cls d _ H => E cls d H) (defBody st) B) : Dfn P w K mg base x (k + 1) ps.length (runD N.length B) :=
  ⟨f, fd, ps, okD Fn Sc B h, hm, Fn.kp, hb⟩
theorem tk0 {P : Program} {w : World} {K : PySem.W.Frag} {mg : Str → Option Value} {base : Heap} {N : List Str} {qual : Str} {sc : Scope} {f : Addr} {cdv : Value} {A : Around} {outer : List PySem.Env} {s : Shared} {H : Hp} {E : XK} :
    Takes (cxOf (L2.CX P w) P w K mg base N qual sc f cdv A outer s H E) (fun cls d _ H => E cls d H) := takes_of rfl rfl rfl rfl
theorem ps0 {P : Program} {w : World} {K : PySem.W.Frag} {mg : Str → Option Value} {base : Heap} {N : List Str} {qual : Str} {sc : Scope} {f : Addr} {cdv : Value} {A : Around} {outer : List PySem.Env} {s : Shared} {H : Hp} {E : XK} :
    PassesOwn (model (cxOf (L2.CX P w) P w K mg base N qual sc f cdv A outer s H E).prog (cxOf (L2.CX P w) P w K mg base N qual sc f cdv A outer s H E).w) (cxOf (L2.CX P w) P w K mg base N qual sc f cdv A outer s H E).A (cxOf (L2.CX P w) P w K mg base N qual sc f cdv A outer s H E).env (cxOf (L2.CX P w) P w K mg base N qual sc f cdv A outer s H E).xe :=
  passes_of (K := fun e s'' => L2.CX P w outer H s E e s'') rfl
/-- a constant of the module -/
theorem ce_gI {i : Int} {t : Tok} (hg : Gl X x) (hm : X.mg x = some (.int i t)) (hdb : (x == ("__debug__" : Str)) = false := by decide) : CE X W (.Name x pos) (eC (.int i)) := fun Z env σ H O Q r q =>
  wp_e (pe_glob (v := .int i) hg hm ⟨t, rfl⟩ hdb) (ROk.here q _ (.int i))
/-- a tuple of ints that the module holds -/
theorem ce_gT {a : Addr} {o : Obj} {its : Array Value} {m : Nat} {ks : List Int} (hg : Gl X x) (hm : X.mg x = some (.ref a)) (hk : X.K.lookup a = some o) (hc : o.cls = .type "tuple") (hd : o.data = .seq its m) (hz : its.size ≤ sizeLine) (hv : Vals (ks.map V.int) its.toList) (hdb : (x == ("__debug__" : Str)) = false := by decide) :
    CE X W (.Name x pos) (eC (.tuple (ks.map .int))) := fun Z env σ H O Q r q => by
  refine wp_e (pe_glob (v := .ref a) hg hm rfl hdb) (ROk.here q _ (.tup (xs := ks.map V.int) (.inr ⟨o, its, m, hk, hc, hd, hz, hv⟩) ?_))
  have : ∀ (H : Hp) (ks : List Int), DpAll X.K H (ks.map V.int) (ks.map .int) := fun H ks => by
    induction ks with
    | nil => exact .nil
    | cons k ks ih => exact .cons (.int k) ih
  exact this _ ks
end
end PD
set_option Elab.async false
set_option linter.all false
set_option maxRecDepth 100000
set_option maxHeartbeats 4000000
namespace PD
open PySem PySem.Spec PyProof.Rows L2
section
variable {X : Cx} {W : WX} {e e2 : Expr} {es : List Expr} {f : E} {g : A} {pos p p2 : Pos}
variable [Tbs] [Zp]
theorem c_len (hg : Gl X "len") (hm : X.mg "len" = none) (ha : CA X W (e :: es) g) (he : starEach (e :: es) X.env = (false, eval e X.env) :: starEach es X.env := by rfl) (hpl : (backTo pos (starEach es X.env)).any (·.1) = false := by rfl) :
    CE X W (.Call (.Name "len" p) (e :: es) [] pos) (eBf cLen g) := ce_bf cal_len.cal hg hm PySem.boot_len ha (by decide) (by decide) he hpl
theorem c_abs (hg : Gl X "abs") (hm : X.mg "abs" = none) (ha : CA X W (e :: es) g) (he : starEach (e :: es) X.env = (false, eval e X.env) :: starEach es X.env := by rfl) (hpl : (backTo pos (starEach es X.env)).any (·.1) = false := by rfl) :
    CE X W (.Call (.Name "abs" p) (e :: es) [] pos) (eBf cAbs g) := ce_bf cal_abs.cal hg hm (by decide +kernel) ha (by decide) (by decide) he hpl
theorem c_int (hg : Gl X "int") (hm : X.mg "int" = none) (ha : CA X W (e :: es) g) (he : starEach (e :: es) X.env = (false, eval e X.env) :: starEach es X.env := by rfl) (hpl : (backTo pos (starEach es X.env)).any (·.1) = false := by rfl) :
    CE X W (.Call (.Name "int" p) (e :: es) [] pos) (eBf cInt g) := ce_ty cal_int.cal hg hm (by decide +kernel) ha (by decide) (by decide) he hpl
theorem c_max (hc : X.calm = true) (hg : Gl X "max") (hm : X.mg "max" = none) (ha : CA X W (e :: es) g) (he : starEach (e :: es) X.env = (false, eval e X.env) :: starEach es X.env := by rfl) (hpl : (backTo pos (starEach es X.env)).any (·.1) = false := by rfl) :
    CE X W (.Call (.Name "max" p) (e :: es) [] pos) (eBf cMax g) := ce_bf (cal_max hc).cal hg hm (by decide +kernel) ha (by decide) (by decide) he hpl
theorem c_gcd (hg : Gl X "gcd") (hm : X.mg "gcd" = some (.builtin "math.gcd")) (ha : CA X W (e :: es) g) (he : starEach (e :: es) X.env = (false, eval e X.env) :: starEach es X.env := by rfl) (hpl : (backTo pos (starEach es X.env)).any (·.1) = false := by rfl) :
    CE X W (.Call (.Name "gcd" p) (e :: es) [] pos) (eBf cGcd g) := ce_bi cal_gcd.cal hg hm ha (by decide) he hpl
theorem c_isi_int (hg : Gl X "isinstance") (hm : X.mg "isinstance" = none) (hg2 : Gl X "int") (hm2 : X.mg "int" = none) (h : CB X W e f)
    (he : starEach [e, .Name "int" p2] X.env = (false, eval e X.env) :: starEach [.Name "int" p2] X.env := by rfl) (he2 : starEach [.Name "int" p2] X.env = (false, eval (.Name "int" p2) X.env) :: starEach [] X.env := by rfl) (hpl : (backTo pos (starEach [.Name "int" p2] X.env)).any (·.1) = false := by rfl) :
    CE X W (.Call (.Name "isinstance" p) [e, .Name "int" p2] [] pos) (eIsi "int" f) := ce_isi rfl hg hm hg2 hm2 (by decide +kernel) (by decide) (by decide) h he he2 hpl
theorem c_isi_bool (hg : Gl X "isinstance") (hm : X.mg "isinstance" = none) (hg2 : Gl X "bool") (hm2 : X.mg "bool" = none) (h : CB X W e f)
    (he : starEach [e, .Name "bool" p2] X.env = (false, eval e X.env) :: starEach [.Name "bool" p2] X.env := by rfl) (he2 : starEach [.Name "bool" p2] X.env = (false, eval (.Name "bool" p2) X.env) :: starEach [] X.env := by rfl) (hpl : (backTo pos (starEach [.Name "bool" p2] X.env)).any (·.1) = false := by rfl) :
    CE X W (.Call (.Name "isinstance" p) [e, .Name "bool" p2] [] pos) (eIsi "bool" f) := ce_isi rfl hg hm hg2 hm2 (by decide +kernel) (by decide) (by decide) h he he2 hpl
theorem c_isi_tuple (hg : Gl X "isinstance") (hm : X.mg "isinstance" = none) (hg2 : Gl X "tuple") (hm2 : X.mg "tuple" = none) (h : CB X W e f)
    (he : starEach [e, .Name "tuple" p2] X.env = (false, eval e X.env) :: starEach [.Name "tuple" p2] X.env := by rfl) (he2 : starEach [.Name "tuple" p2] X.env = (false, eval (.Name "tuple" p2) X.env) :: starEach [] X.env := by rfl) (hpl : (backTo pos (starEach [.Name "tuple" p2] X.env)).any (·.1) = false := by rfl) :
    CE X W (.Call (.Name "isinstance" p) [e, .Name "tuple" p2] [] pos) (eIsi "tuple" f) := ce_isi rfl hg hm hg2 hm2 (by decide +kernel) (by decide) (by decide) h he he2 hpl
end
/-- the law's promise, as the end asks it -/
def spLaw [Tbs] (K : PySem.W.Frag) : Sp := fun vs H Q _ => ∃ (a : Addr) (ns : List Int), vs = [.ref a] ∧ (∀ P ∈ Tbs.l, GxR.TabG H P) ∧ SqL K H a (ns.map V.int) ∧ ns.length ≤ 63 ∧ (∀ z ∈ ns, Builtin.Int.intBits z ≤ 1048576) ∧ ∀ H', Q (.bl true) H'
theorem dpa_ints {K : PySem.W.Frag} {H : Hp} : ∀ ns : List Int, DpAll K H (ns.map V.int) (ns.map PyData.int)
  | [] => .nil
  | n :: ns => .cons (.int n) (dpa_ints ns)
theorem law_of [Tbs] {P : Program} {w : World} {K : PySem.W.Frag} {mg : Str → Option Value} {base : Heap} {k : Nat} {f : Addr} {fd : FuncData} {ps : List Str} {F : List PyData → RO PyData} (G : FnOk P w K mg base (L2.CX P w) k f fd ps (spD K mg 1 F))
    (h : ∀ ns : List Int, ns.length ≤ 63 → (∀ z ∈ ns, Builtin.Int.intBits z ≤ 1048576) → F [.list (ns.map .int)] = .ok (.bool true)) : FnOk P w K mg base (L2.CX P w) k f fd ps (spLaw K) :=
  G.imp fun vs H Q E q => by
    obtain ⟨a, ns, rfl, h0, h1, h2, h3, q⟩ := q
    refine ⟨rfl, h0, [.list (ns.map .int)], [], (fun _ z => nomatch z), ?_, ?_⟩
    · rw [hid_nil]
      exact .cons (.lst h1 (dpa_ints ns)) .nil
    · rw [h ns h2 h3]
      intro v H' _ hv
      cases dp_bool hv
      exact q H'
end PD
set_option Elab.async false
set_option linter.all false
set_option maxRecDepth 100000
set_option maxHeartbeats 4000000
namespace PD
open PySem PySem.Spec PyProof.Rows L2
/-- so many turns of a while loop, so many calls within one another -/
def WH : Nat := 1000000
/-! ### what the module holds -/
def GInt (mg : Str → Option Value) (x : Str) (i : Int) : Prop := ∃ t, mg x = some (.int i t)
def GTup (K : PySem.W.Frag) (mg : Str → Option Value) (x : Str) (ks : List Int) : Prop :=
  ∃ (a : Addr) (o : Obj) (its : Array Value) (m : Nat), mg x = some (.ref a) ∧ K.lookup a = some o ∧ o.cls = .type "tuple" ∧ o.data = .seq its m ∧ its.size ≤ sizeLine ∧ Vals (ks.map V.int) its.toList
/-- an own exception class over ValueError, without an __init__ -/
structure XC (K : PySem.W.Frag) (mg : Str → Option Value) (c : Str) (C : Addr) : Prop where
  gg : mg c = some (.ref C)
  xx : PySem.W.excIn K C [.type "ValueError", .type "Exception", .type "BaseException", .type "object"] "ValueError.__new__" = true
  kk : PySem.W.keepIn K (.ref C) = true
  bb : PySem.W.subIn K (.ref C) (.type "BaseException") = some true
  tt : PySem.W.typeIn K (.ref C) = some (.type "type")
section
variable {X : Cx} {W : WX} {pos p : Pos} {x : Str} {e : Expr} {es : List Expr} {ga gk : A} {k n kk : Nat} {F : List PyData → RO PyData}
variable [Tbs] [Zp]
theorem c_gI {i : Int} (hg : Gl X x) (h : GInt X.mg x i) (hdb : (x == ("__debug__" : Str)) = false := by decide) : CE X W (.Name x pos) (eC (.int i)) := by
  obtain ⟨t, h⟩ := h
  exact ce_gI hg h hdb
theorem c_gT {ks : List Int} (hg : Gl X x) (h : GTup X.K X.mg x ks) (hdb : (x == ("__debug__" : Str)) = false := by decide) : CE X W (.Name x pos) (eC (.tuple (ks.map .int))) := by
  obtain ⟨a, o, its, m, h1, h2, h3, h4, h5, h6⟩ := h
  exact ce_gT hg h1 h2 h3 h4 h5 h6 hdb
/-- a def whose last parameter has a default: f(x), f(x, y), f(x, name=y) -/
structure Dfn1 (P : Program) (w : World) (K : PySem.W.Frag) (mg : Str → Option Value) (base : Heap) (x : Str) (k : Nat) (nm : Str) (d0 : Int) (F : List PyData → RO PyData) : Prop where
  full : Dfn P w K mg base x k 2 F
  one : ∃ (f : Addr) (fd : FuncData) (ps : List Str) (ds : List Value), FnOk P w K mg base (L2.CX P w) k f fd ps (spD K mg 2 F) ∧ mg x = some (.ref f) ∧ PySem.W.keepIn K (.ref f) = true ∧ Binds K fd ps ds ∧ Vals [.int d0] ds
  key : ∃ (f : Addr) (fd : FuncData) (ps : List Str), FnOk P w K mg base (L2.CX P w) k f fd ps (spD K mg 2 F) ∧ mg x = some (.ref f) ∧ PySem.W.keepIn K (.ref f) = true ∧ KBn K fd ps 1 [nm] (fun us ws => us ++ ws) (fun vs zs => vs ++ zs)
def eCallK (F : List PyData → RO PyData) (ga gk : A) : E := fun env => ga env >>= fun xs => gk env >>= fun ys => if xs.length = 1 ∧ ys.length = 1 then callD 2 F (xs ++ ys) else .no
end
/-- what an except clause does with a class below (or not below) its own -/
theorem kit_ofF {K : PySem.W.Frag} {S D : Addr} {b : Bool} (h0 : (Value.ref S == Value.ref D) = false) (h2 : PySem.W.isClsIn K D = true) (h3 : PySem.W.typeIn K (.ref D) = some (.type "type")) (h4 : PySem.W.subIn K (.ref S) (.ref D) = some b) :
    PySem.W.kitOne K (.ref S) (.ref D) = some b := by
  have e2 : ((PySem.W.clsIn K D).isSome && PySem.W.typeIn K (.ref D) == some (.type "type")) = true := by
    have h2' : (PySem.W.clsIn K D).isSome = true := h2
    rw [h2', h3] <;> rfl
  show (if (Value.ref S == Value.ref D) = true then some true else (if ((PySem.W.clsIn K D).isSome && PySem.W.typeIn K (.ref D) == some (.type "type")) = true then PySem.W.subIn K (.ref S) (.ref D) else none)) = some b
  rw [h0, if_neg Bool.false_ne_true, if_pos e2]
  exact h4
theorem kit_ofT {K : PySem.W.Frag} {S D : Addr} (h2 : PySem.W.isClsIn K D = true) (h3 : PySem.W.typeIn K (.ref D) = some (.type "type")) (h4 : PySem.W.subIn K (.ref S) (.ref D) = some true) :
    PySem.W.kitOne K (.ref S) (.ref D) = some true := by
  cases h0 : (Value.ref S == Value.ref D) with
  | false => exact kit_ofF h0 h2 h3 h4
  | true =>
    show (if (Value.ref S == Value.ref D) = true then some true else _) = some true
    rw [h0, if_pos rfl]
end PD
set_option Elab.async false
set_option linter.all false
set_option maxRecDepth 100000
set_option maxHeartbeats 4000000
namespace PD
open PySem PySem.Spec PyProof.Rows L2
/-! ### the mirrors, step by step -/
def outD : SO → RO PyData
  | .nx _ => .ok .none
  | .rt d => .ok d
  | .er _ c fl => .er c fl
  | _ => .no
section
variable {α β : Type} {env e1 : Env} {g h : S} {f fa fb f2 : E} {t u : T} {ga gb2 : A} {i n : Nat} {d x y : PyData} {ds xs : List PyData} {c : Str} {fl : Flds} {b : Bool} {B : S} {F : List PyData → RO PyData} {bi : PyData → PyData → Option PyData} {bc : List PyData → Option PyData} {bu : PyData → Option PyData}
theorem x_run : runD n B ds = outD (B (startE n ds)) := rfl
theorem x_out_nx : outD (.nx env) = .ok .none := rfl
theorem x_out_rt : outD (.rt d) = .ok d := rfl
theorem x_out_er : outD (.er env c fl) = .er c fl := rfl
def seqO (r : SO) (h : S) : SO := match r with
  | .nx e => h e
  | r => r
theorem x_seq : sSeq g h env = seqO (g env) h := rfl
theorem x_seq_nx : seqO (.nx env) h = h env := rfl
theorem x_seq_rt : seqO (.rt d) h = .rt d := rfl
theorem x_seq_er : seqO (.er env c fl) h = .er env c fl := rfl
theorem x_seq_ct : seqO (.ct env) h = .ct env := rfl
theorem x_seq_bk : seqO (.bk env) h = .bk env := rfl
theorem x_ofR_ok {k : α → SO} {a : α} : ofR (.ok a) env k = k a := rfl
theorem x_ofR_er {k : α → SO} : ofR (.er c fl : RO α) env k = .er env c fl := rfl
theorem x_nx : sNx env = .nx env := rfl
theorem x_bk : sBk env = .bk env := rfl
theorem x_ct : sCt env = .ct env := rfl
theorem x_set : sSet i f env = ofR (f env) env fun d => .nx (env.set i (some (.fz d))) := rfl
theorem x_setL : sSetL i ga env = ofR (ga env) env fun ds => .nx (env.set i (some (.own ds))) := rfl
theorem x_ret : sRet f env = ofR (f env) env .rt := rfl
theorem x_drop : sDrop f env = ofR (f env) env fun _ => .nx env := rfl
theorem x_retN : sRetN env = .rt .none := rfl
theorem x_if : sIf t g h env = ofR (t env) env fun b => if b = true then g env else h env := rfl
theorem x_raise : sRaise c fl env = .er env c fl := rfl
theorem x_var : eVar i env = gv env i := rfl
theorem x_gv0 {r : Env} : gv (some (.fz d) :: r) 0 = .ok d := rfl
theorem x_gvS {r : Env} {a : Option SV} : gv (a :: r) (i + 1) = gv r i := rfl
theorem x_gvo0 {r : Env} : gvo (some (.own ds) :: r) 0 = .ok ds := rfl
theorem x_gvoS {r : Env} {a : Option SV} : gvo (a :: r) (i + 1) = gvo r i := rfl
theorem x_gb : eB i env = gb env i := rfl
theorem x_gb0 {r : Env} : gb (some (.fz d) :: r) 0 = .ok d := rfl
theorem x_gbO {r : Env} : gb (some (.own ds) :: r) 0 = .ok (.list ds) := rfl
theorem x_gbS {r : Env} {a : Option SV} : gb (a :: r) (i + 1) = gb r i := rfl
theorem x_c : eC d env = .ok d := rfl
theorem x_op : eOp bi fa fb env = (fa env >>= fun x => fb env >>= fun y => ofO (bi x y)) := rfl
theorem x_cm : tCm bi fa fb env = (fa env >>= fun x => fb env >>= fun y => ofO (bi x y) >>= tb) := rfl
theorem x_un : eUn bu fa env = (fa env >>= fun x => ofO (bu x)) := rfl
theorem x_bf : eBf bc ga env = (ga env >>= fun ds => ofO (bc ds)) := rfl
theorem x_isi {T : String} : eIsi T f env = (f env >>= fun d => ofO (isiO T d)) := rfl
theorem x_ix : eIx fa fb env = (fa env >>= fun x => fb env >>= fun y => ofO (dIx x y)) := rfl
theorem x_ixO : eIxO i fb env = (gvo env i >>= fun xs => fb env >>= fun y => ofO (dIx (.list xs) y)) := rfl
theorem x_ofO_some {a : α} : ofO (some a) = RO.ok a := rfl
theorem x_anil : aNil env = .ok [] := rfl
theorem x_acons : aCons f ga env = (f env >>= fun x => ga env >>= fun xs => RO.ok (x :: xs)) := rfl
theorem x_tup : eTup ga env = (ga env >>= fun xs => if xs.length ≤ sizeLine then RO.ok (.tuple xs) else .no) := rfl
theorem x_lst : lLst ga env = (ga env >>= fun xs => if xs.length ≤ sizeLine then RO.ok xs else .no) := rfl
theorem x_eL : eL ga env = (ga env >>= fun ds => RO.ok (.list ds)) := rfl
theorem x_tb : tb (.bool b) = .ok b := rfl
theorem x_nt : tNt t env = (t env >>= fun b => RO.ok (!b)) := rfl
theorem x_an : tAn t u env = (t env >>= fun b => if b = true then u env else RO.ok false) := rfl
theorem x_or : tOr t u env = (t env >>= fun b => if b = true then RO.ok true else u env) := rfl
theorem x_ent : eNt f env = (f env >>= tb >>= fun b => RO.ok (.bool !b)) := rfl
theorem x_ean : eAn fa fb env = (fa env >>= tb >>= fun b => if b = true then fb env else RO.ok (.bool false)) := rfl
theorem x_eor : eOr fa fb env = (fa env >>= tb >>= fun b => if b = true then RO.ok (.bool true) else fb env) := rfl
theorem x_eif : eIf t fa fb env = (t env >>= fun b => if b = true then fa env else fb env) := rfl
theorem x_tT : tT f env = (f env >>= tru) := rfl
theorem x_tV : tV f env = (f env >>= tb) := rfl
theorem x_tY : tY env = .ok true := rfl
theorem x_call : eCall n F ga env = (ga env >>= callD n F) := rfl
theorem x_callD {dd : List PyData} : eCallD n F dd ga env = (ga env >>= fun xs => callD n F (xs ++ dd)) := rfl
theorem x_callK {gk : A} : eCallK F ga gk env = (ga env >>= fun xs => gk env >>= fun ys => if xs.length = 1 ∧ ys.length = 1 then callD 2 F (xs ++ ys) else .no) := rfl
theorem x_cd1 {a : PyData} : callD 1 F [a] = F [a] := rfl
theorem x_cd2 {a b : PyData} : callD 2 F [a, b] = F [a, b] := rfl
theorem x_cd3 {a b c : PyData} : callD 3 F [a, b, c] = F [a, b, c] := rfl
theorem x_cd4 {a b c d : PyData} : callD 4 F [a, b, c, d] = F [a, b, c, d] := rfl
theorem x_st0 : startE 0 [] = [] := rfl
theorem x_stS : startE (n + 1) (d :: ds) = some (.fz d) :: startE n ds := by
  unfold startE
  simp
theorem x_stN : startE (n + 1) [] = none :: startE n [] := by
  unfold startE
  simp [List.replicate_succ]
theorem x_wh {k : Nat} : sWh k t g env = whileGo t g k env := rfl
theorem x_for {gg : G} : sFor ga gg g env = ofR (ga env) env fun items => forGo gg g items env := rfl
theorem x_iseq : iSeq f env = (f env >>= dIter) := rfl
theorem x_ir1 : iR1 f env = (f env >>= rng1) := rfl
theorem x_ir2 : iR2 fa fb env = (fa env >>= fun x => fb env >>= fun y => rng2 x y) := rfl
theorem x_add {i j : Int} : dAdd (.int i) (.int j) = some (.int (i + j)) := rfl
theorem x_sub {i j : Int} : dSub (.int i) (.int j) = some (.int (i - j)) := rfl
theorem x_mul {i j : Int} (h : mulOk i j = true) : dMul (.int i) (.int j) = some (.int (i * j)) := by
  show (if mulOk i j = true then some (PyData.int (i * j)) else none) = _
  rw [if_pos h]
theorem x_div {i j : Int} (h : divOk j = true) : dDiv (.int i) (.int j) = some (.int (i.fdiv j)) := by
  show (if divOk j = true then some (PyData.int (i.fdiv j)) else none) = _
  rw [if_pos h]
theorem x_mod {i j : Int} (h : 0 < j) : dMod (.int i) (.int j) = some (.int (i % j)) := by
  show (if 0 < j then some (PyData.int (i % j)) else none) = _
  rw [if_pos h]
theorem x_neg {i : Int} : dNeg (.int i) = some (.int (-i)) := rfl
theorem x_dcmp {p : Int → Int → Bool} {i j : Int} : dCmp p (.int i) (.int j) = some (.bool (p i j)) := rfl
theorem x_eqI {i j : Int} : dEq (.int i) (.int j) = some (.bool (decide (i = j))) := rfl
theorem x_neI {i j : Int} : dNe (.int i) (.int j) = some (.bool !(decide (i = j))) := rfl
theorem x_absI {i : Int} : cAbs [.int i] = some (.int (if i < 0 then -i else i)) := rfl
theorem x_intI {i : Int} : cInt [.int i] = some (.int i) := rfl
theorem x_gcdI {i j : Int} : cGcd [.int i, .int j] = some (.int (Int.gcd i j)) := rfl
theorem x_maxI {i j : Int} : cMax [.int i, .int j] = some (.int (if j > i then j else i)) := rfl
theorem x_minI {i j : Int} : cMin [.int i, .int j] = some (.int (if j < i then j else i)) := rfl
theorem x_lenL : cLen [.list xs] = some (.int xs.length) := rfl
theorem x_lenT : cLen [.tuple xs] = some (.int xs.length) := rfl
theorem x_ixL {i : Int} : dIx (.list xs) (.int i) = atI xs i := rfl
theorem x_ixT {i : Int} : dIx (.tuple xs) (.int i) = atI xs i := rfl
theorem x_at0 {a : α} {l : List α} : atI (a :: l) 0 = some a := atI_nat (j := 0) rfl
theorem x_at1 {a b : α} {l : List α} : atI (a :: b :: l) 1 = some b := atI_nat (j := 1) rfl
theorem x_sz0 : (([] : List PyData).length ≤ sizeLine) = True := eq_true (Nat.zero_le _)
theorem x_sz1 {a : PyData} : ([a].length ≤ sizeLine) = True := eq_true (by show 1 ≤ sizeLine; decide)
theorem x_sz2 {a b : PyData} : ([a, b].length ≤ sizeLine) = True := eq_true (by show 2 ≤ sizeLine; decide)
theorem x_sz3 {a b c : PyData} : ([a, b, c].length ≤ sizeLine) = True := eq_true (by show 3 ≤ sizeLine; decide)
theorem x_len1 {a : PyData} : ([a].length = 1) = True := eq_true rfl
def forB (r : SO) (k : PD.Env → SO) : SO := match r with
  | .nx e => k e
  | .ct e => k e
  | .bk e => .nx e
  | r => r
theorem x_forN {xs : List PyData} {r : PD.Env} : forGo (gN i) g (x :: xs) r = forB (g (r.set i (some (.fz x)))) (forGo (gN i) g xs) := rfl
theorem x_for0 {gg : G} {r : PD.Env} : forGo gg g [] r = .nx r := rfl
theorem x_fB_nx {k : PD.Env → SO} : forB (.nx env) k = k env := rfl
theorem x_fB_ct {k : PD.Env → SO} : forB (.ct env) k = k env := rfl
theorem x_fB_bk {k : PD.Env → SO} : forB (.bk env) k = .nx env := rfl
theorem x_fB_rt {k : PD.Env → SO} : forB (.rt d) k = .rt d := rfl
theorem x_fB_er {k : PD.Env → SO} : forB (.er env c fl) k = .er env c fl := rfl
theorem x_iTT : isiO "tuple" (.tuple xs) = some (.bool true) := rfl
theorem x_iTL : isiO "tuple" (.list xs) = some (.bool false) := rfl
theorem x_iTI {j : Int} : isiO "tuple" (.int j) = some (.bool false) := rfl
theorem x_iLT : isiO "list" (.tuple xs) = some (.bool false) := rfl
theorem x_iLL : isiO "list" (.list xs) = some (.bool true) := rfl
theorem x_iII {j : Int} : isiO "int" (.int j) = some (.bool true) := rfl
theorem x_iBI {j : Int} : isiO "bool" (.int j) = some (.bool false) := rfl
theorem x_iSS {z : Str} : isiO "str" (.str z) = some (.bool true) := rfl
theorem x_iBB : isiO "bool" (.bool b) = some (.bool true) := rfl
theorem x_truB : tru (.bool b) = .ok b := rfl
theorem x_itT : dIter (.tuple xs) = .ok xs := rfl
theorem x_itL : dIter (.list xs) = .ok xs := rfl
def tryB (r : SO) (i : Nat) (mtc : Str → Option Bool) (fx : Str → Flds → PD.Env → RO PyData) : SO := match r with
  | .er e1 c fl => (match mtc c with
    | some true => if i < e1.length then (match fx c fl (e1.set i none) with | .ok d => .rt d | _ => .no) else .no
    | some false => .er e1 c fl
    | none => .no)
  | r => r
theorem x_try {mtc : Str → Option Bool} {fx : Str → Flds → PD.Env → RO PyData} : sTryR i g mtc fx env = tryB (g env) i mtc fx := rfl
theorem x_gN : gN i d env = .ok (env.set i (some (.fz d))) := rfl
end
end PD
set_option Elab.async false
set_option linter.all false
set_option maxRecDepth 100000
set_option maxHeartbeats 4000000
namespace PD
open PySem PySem.Spec PyProof.Rows L2
/-! ### sizes -/
def Sm (n : Nat) (i : Int) : Prop := i.natAbs < 2 ^ n
theorem Sm.mono {n m : Nat} {i : Int} (h : Sm n i) (l : n ≤ m) : Sm m i := Nat.lt_of_lt_of_le h (Nat.pow_le_pow_right (by decide) l)
theorem Sm.le {n : Nat} {i j : Int} (h : Sm n i) (l : j.natAbs ≤ i.natAbs) : Sm n j := Nat.lt_of_le_of_lt l h
theorem Sm.mul {n m : Nat} {i j : Int} (h : Sm n i) (k : Sm m j) : Sm (n + m) (i * j) := by
  unfold Sm at *
  rw [Int.natAbs_mul, Nat.pow_add]
  exact Nat.mul_lt_mul'' h k
theorem Sm.neg {n : Nat} {i : Int} (h : Sm n i) : Sm n (-i) := by
  unfold Sm at *
  rw [Int.natAbs_neg]
  exact h
theorem Sm.add {n : Nat} {i j : Int} (h : Sm n i) (k : Sm n j) : Sm (n + 1) (i + j) := by
  unfold Sm at *
  have := Int.natAbs_add_le i j
  rw [Nat.pow_succ]
  omega
theorem Sm.sub {n : Nat} {i j : Int} (h : Sm n i) (k : Sm n j) : Sm (n + 1) (i - j) := by
  have := Sm.add h k.neg
  rwa [Int.add_neg_eq_sub] at this
theorem Sm.log {n : Nat} {i : Int} (h : Sm n i) : i.natAbs.log2 ≤ n := by
  by_cases z : i.natAbs = 0
  · rw [z]
    exact Nat.le_trans (by decide : Nat.log2 0 ≤ 0) (Nat.zero_le _)
  · exact Nat.le_of_lt ((Nat.log2_lt z).mpr h)
theorem Sm.abs {n : Nat} {i : Int} (h : Sm n i) : Sm n (if i < 0 then -i else i) := by
  split
  · exact h.neg
  · exact h
theorem mulOk_sm {m n : Nat} {i j : Int} (h : Sm m i) (k : Sm n j) (l : m + n < 100000000 := by decide) : mulOk i j = true := by
  have h1 := h.log
  have h2 := k.log
  exact decide_eq_true (by omega)
theorem divOk_sm {n : Nat} {j : Int} (h : Sm n j) (z : j ≠ 0) (l : n < 9000 := by decide) : divOk j = true := by
  unfold divOk
  rw [Bool.and_eq_true]
  exact ⟨decide_eq_true z, decide_eq_true (Nat.lt_of_le_of_lt h.log l)⟩
theorem divOk_le {i j : Int} {n : Nat} (h : Sm n j) (z : i ≠ 0) (l : i.natAbs ≤ j.natAbs) (l2 : n < 9000 := by decide) : divOk i = true := divOk_sm (h.le l) z l2
/-! ### lowest terms -/
theorem low_facts (a b : Int) (hb : b ≠ 0) : ∃ p q : Int, a = Int.gcd a b * p ∧ b = Int.gcd a b * q ∧ Int.gcd p q = 1 ∧ 0 < (Int.gcd a b : Int) := by
  have hg : 0 < Int.gcd a b := Int.gcd_pos_of_ne_zero_right a hb
  obtain ⟨p, hp⟩ := Int.gcd_dvd_left a b
  obtain ⟨q, hq⟩ := Int.gcd_dvd_right a b
  refine ⟨p, q, hp, hq, ?_, Int.natCast_pos.mpr hg⟩
  have e : Int.gcd ((Int.gcd a b : Int) * p) ((Int.gcd a b : Int) * q) = Int.gcd a b * Int.gcd p q := by
    rw [Int.gcd_mul_left, Int.natAbs_natCast]
  rw [← hp, ← hq] at e
  exact Nat.eq_of_mul_eq_mul_left hg (by rw [Nat.mul_one]; exact e.symm)
theorem fdiv_neg_gcd {g p : Int} (h : 0 < g) : (g * p).fdiv (-g) = -p := by
  rw [show g * p = (-g) * (-p) by rw [Int.neg_mul_neg], Int.mul_fdiv_cancel_left _ (by omega)]
theorem fdiv_gcd {g p : Int} (h : 0 < g) : (g * p).fdiv g = p := Int.mul_fdiv_cancel_left _ (by omega)
/-! ### loops -/
theorem forGo_inv {gg : G} {body : S} (P : PyData → Prop) (I : PD.Env → Prop) (h : ∀ d env, P d → I env → ∃ e1, gg d env = .ok e1 ∧ ∃ e2, (body e1 = .nx e2 ∨ body e1 = .ct e2) ∧ I e2) : ∀ items env, (∀ d ∈ items, P d) → I env → ∃ env', forGo gg body items env = .nx env' ∧ I env'
  | [], env, _, hi => ⟨env, rfl, hi⟩
  | d :: items, env, hp, hi => by
    obtain ⟨e1, h1, e2, h2, h3⟩ := h d env (hp d (List.mem_cons_self ..)) hi
    obtain ⟨e3, h4, h5⟩ := forGo_inv P I h items e2 (fun x hx => hp x (List.mem_cons_of_mem _ hx)) h3
    refine ⟨e3, ?_, h5⟩
    show (match gg d env with
      | .ok e1 => match body e1 with
        | .nx e => forGo gg body items e
        | .ct e => forGo gg body items e
        | .bk e => .nx e
        | r => r
      | _ => .no) = _
    rw [h1]
    rcases h2 with h2 | h2
    · show (match body e1 with
        | .nx e => forGo gg body items e
        | .ct e => forGo gg body items e
        | .bk e => .nx e
        | r => r) = _
      rw [h2]
      exact h4
    · show (match body e1 with
        | .nx e => forGo gg body items e
        | .ct e => forGo gg body items e
        | .bk e => .nx e
        | r => r) = _
      rw [h2]
      exact h4
theorem rng1_ok {n : Nat} (h : n ≤ 1000) : rng1 (.int n) = .ok (rngItems 0 n) := by
  unfold rng1
  dsimp only
  rw [if_pos ⟨by omega, by omega⟩, Int.toNat_natCast]
theorem whileGo_stop {t : T} {body : S} {n : Nat} {env : PD.Env} (h : t env = .ok false) : whileGo t body (n + 1) env = .nx env := by
  show ofR (t env) env _ = _
  rw [h]
  rfl
theorem whileGo_step {t : T} {body : S} {n : Nat} {env e1 : PD.Env} (h : t env = .ok true) (h2 : body env = .nx e1) : whileGo t body (n + 1) env = whileGo t body n e1 := by
  show ofR (t env) env _ = _
  rw [h]
  show (if true = true then (match body env with
      | .nx e => whileGo t body n e
      | .ct e => whileGo t body n e
      | .bk e => .nx e
      | r => r) else .nx env) = _
  rw [if_pos rfl, h2]
def Keeps (I : PD.Env → Prop) : SO → Prop
  | .nx e => I e
  | .ct e => I e
  | _ => False
theorem forGo_keep {gg : G} {body : S} (P : PyData → Prop) (I : PD.Env → Prop) (h : ∀ d env, P d → I env → ∃ e1, gg d env = .ok e1 ∧ Keeps I (body e1)) (items : List PyData) (env : PD.Env) (hp : ∀ d ∈ items, P d) (hi : I env) : ∃ env', forGo gg body items env = .nx env' ∧ I env' :=
  forGo_inv P I (fun d env h1 h2 => by
    obtain ⟨e1, h3, h4⟩ := h d env h1 h2
    refine ⟨e1, h3, ?_⟩
    cases hb : body e1 with
    | nx e => rw [hb] at h4; exact ⟨e, .inl rfl, h4⟩
    | ct e => rw [hb] at h4; exact ⟨e, .inr rfl, h4⟩
    | rt d => rw [hb] at h4; exact h4.elim
    | bk e => rw [hb] at h4; exact h4.elim
    | er e c fl => rw [hb] at h4; exact h4.elim
    | no => rw [hb] at h4; exact h4.elim) items env hp hi
end PD
set_option Elab.async false
set_option linter.all false
set_option maxRecDepth 100000
set_option maxHeartbeats 4000000
namespace PD
open PySem PySem.Spec PyProof.Rows L2
/-! ### lcm -/
section
variable {X : Cx} {W : WX} {e : Expr} {es : List Expr} {ga : A} {pos p : Pos}
variable [Tbs] [Zp]
/-! ### x in a list -/
end
/-! ### more of the mirrors' steps -/
section
variable {g : S} {env : PD.Env} {d x y : PyData} {i j : Nat} {fa : E} {fl fh : OI} {ga : A} {xs : List PyData} {b c : Bool}
theorem x_eqB : dEq (.bool b) (.bool c) = some (.bool (decide (b = c))) := rfl
theorem x_neB : dNe (.bool b) (.bool c) = some (.bool !(decide (b = c))) := rfl
theorem x_intB : cInt [.bool b] = some (.int (if b then 1 else 0)) := rfl
theorem x_iIB : isiO "int" (.bool b) = some (.bool true) := rfl
theorem x_gT2 : gT 2 (gsC (gN i) (gsC (gN j) gsN)) (.tuple [x, y]) env = .ok ((env.set i (some (.fz x))).set j (some (.fz y))) := rfl
theorem x_lLi : lLi fa env = (fa env >>= dSeq) := rfl
theorem x_eTu : eTu fa env = (fa env >>= dSeq >>= fun xs => RO.ok (.tuple xs)) := rfl
theorem x_eTuO : eTuO i env = (gvo env i >>= fun xs => RO.ok (.tuple xs)) := rfl
theorem x_eLeO : eLeO i env = (gvo env i >>= fun xs => RO.ok (.int xs.length)) := rfl
theorem x_dSeqL : dSeq (.list xs) = .ok xs := rfl
theorem x_dSeqT : dSeq (.tuple xs) = .ok xs := rfl
theorem x_oN : oN env = .ok none := rfl
theorem x_oS : oS fa env = (fa env >>= tI >>= fun i => RO.ok (some i)) := rfl
theorem x_tI {k : Int} : tI (.int k) = .ok k := rfl
theorem x_sl : eSl fa fl fh env = (fa env >>= fun x => fl env >>= fun l => fh env >>= fun u => dCut x l u) := rfl
theorem x_cutL {l h : Option Int} : dCut (.list xs) l h = .ok (.list (cutD xs l h)) := rfl
theorem x_cutT {l h : Option Int} : dCut (.tuple xs) l h = .ok (.tuple (cutD xs l h)) := rfl
theorem x_comp {gg : G} {t : T} {f : E} {ws : List Nat} : lComp ga gg t f ws env = (ga env >>= fun items => compD gg t f (wipeE env ws) items) := rfl
theorem x_app {k : Nat} : sApp k fa env = ofR (gvo env k) env fun xs => ofR (fa env) env fun d => if xs.length < sizeLine then .nx (env.set k (some (.own (xs ++ [d])))) else .no := rfl
theorem x_asg {gg : G} : sAsg fa gg env = ofR (fa env) env fun d => match gg d env with
  | .ok e => .nx e
  | _ => .no := rfl
theorem x_aug : sAug i fa env = ofR (gv env i) env fun x => ofR (fa env) env fun y => ofR (ofO (dAugAdd x y)) env fun d => .nx (env.set i (some (.fz d))) := rfl
end
end PD
set_option Elab.async false
set_option linter.all false
set_option maxRecDepth 100000
set_option maxHeartbeats 4000000
namespace PD
open PySem PySem.Spec PyProof.Rows L2
/-! ### zip of two lists, of two tuples -/
section
variable {K : PySem.W.Frag} {O : List Addr} {H : Hp}
end
section
variable {X : Cx} {W : WX} {tg e a b c : Expr} {es elts : List Expr} {f fa fb : E} {pos p tpos : Pos} {kk : Nat} {Z : Zn} {env : Env} {σ : Sg} {H : Hp} {O : List Addr}
variable [Tbs] [Zp]
/-! ### a new list times an int -/
end
end PD
set_option Elab.async false
set_option linter.all false
set_option maxRecDepth 100000
set_option maxHeartbeats 4000000
namespace PD
open PySem PySem.Spec PyProof.Rows L2
/-! ### a tuple times 0, times 1 -/
theorem tuple_mulS (l : Addr) (items : Array Value) (n : Nat) (dd : Option Addr) (sl : Array (Option Value)) (x : Int) (u : Tok) (c0 : (decide (x < -(2 ^ 63)) || decide (x ≥ 2 ^ 63)) = false) (c1 : (items.isEmpty || x == 1) = true) :
    Meets (Builtin.«tuple.__mul__» ⟨[.ref l, .int x u], []⟩) (fun _ R s => s.heap.get? l = some { cls := .type "tuple", dict := dd, data := .seq items n, slots := sl } ∧ R (.ok (.ret (Value.ref l))) s) :=
  .of_wp fun prog w A R s h => by
    obtain ⟨hp, g, d, tk, os⟩ := s
    obtain ⟨hl, h⟩ := h
    have f1 := AutoSeq1.idx_int
    wp_walk using wpAny_loadPart' hl
    repeat (first
      | (refine wpAny_ite_false (decide_eq_false (by rw [c0]; exact Bool.false_ne_true)) ?_; wp_walk using wpAny_loadPart' hl)
      | (refine wpAny_ite_true (decide_eq_true c1) ?_; wp_walk using wpAny_loadPart' hl))
    exact ⟨_, rfl, h⟩
theorem tuple_mulZ (l : Addr) (items : Array Value) (n : Nat) (dd : Option Addr) (sl : Array (Option Value)) (x : Int) (u : Tok) (c0 : (decide (x < -(2 ^ 63)) || decide (x ≥ 2 ^ 63)) = false) (c1 : (items.isEmpty || x == 1) = false) (c2 : (decide (x ≤ 0) || items.isEmpty) = true) :
    Meets (Builtin.«tuple.__mul__» ⟨[.ref l, .int x u], []⟩) (fun _ R s => s.heap.get? l = some { cls := .type "tuple", dict := dd, data := .seq items n, slots := sl } ∧
      R (.ok (.ret (Value.ref s.heap.objs.size))) { s with heap := s.heap.push { cls := Value.type "tuple", data := Data.seq #[] }, toks := s.toks }) :=
  .of_wp fun prog w A R s h => by
    obtain ⟨hp, g, d, tk, os⟩ := s
    obtain ⟨hl, h⟩ := h
    have f1 := AutoSeq1.idx_int
    wp_walk using wpAny_loadPart' hl
    repeat (first
      | (refine wpAny_ite_false (decide_eq_false (by rw [c0]; exact Bool.false_ne_true)) ?_; wp_walk using wpAny_loadPart' hl)
      | (refine wpAny_ite_false (decide_eq_false (by rw [c1]; exact Bool.false_ne_true)) ?_; wp_walk using wpAny_loadPart' hl)
      | (refine wpAny_ite_true (decide_eq_true c2) ?_; wp_walk using wpAny_loadPart' hl))
    exact ⟨_, rfl, h⟩
def rRepTS (K : PySem.W.Frag) : R2 := fun x y H Q => ∃ l k xs, x = .ref l ∧ y = .int k ∧ SqT K H l xs ∧ (xs = [] ∨ k = 1) ∧ -(2 ^ 62) ≤ k ∧ k ≤ 2 ^ 62 ∧ Q (.ref l) H
def rRepTZ (K : PySem.W.Frag) : R2 := fun x y H Q => ∃ l k xs, x = .ref l ∧ y = .int k ∧ SqT K H l xs ∧ xs ≠ [] ∧ -(2 ^ 62) ≤ k ∧ k ≤ 0 ∧ ∀ p, H p = none → Q (.ref p) (upd H p (.tup []))
section
variable {X : Cx}
variable [Tbs] [Zp]
theorem op_repTS : OpR X (binaryOp .Mult) (rRepTS X.K) := by
  intro pins s σ H x y v u Q I rx ry h
  obtain ⟨l, k, xs, rfl, rfl, hT, hk, h1, h2, q⟩ := h
  cases rx
  obtain ⟨t, rfl⟩ := ry
  obtain ⟨its, r, ⟨⟨cls, dd, data, sl⟩, ho, hc, n, hd⟩, hs⟩ := I.tuple hT
  simp only at hc hd
  subst hc hd
  have c0 : (decide (k < -(2 ^ 63)) || decide (k ≥ 2 ^ 63)) = false := by
    rw [decide_eq_false (by omega), decide_eq_false (by omega)] <;> rfl
  have c1 : (its.toArray.isEmpty || k == 1) = true := by
    rcases hk with e | e
    · subst e
      cases r
      rfl
    · subst e
      exact Bool.or_true _
  refine wpAny_binaryOp_repeat_ref (T := "tuple") (U := "int") (by decide) ⟨_, ho, rfl⟩ (fun s' => typeIs_int s' k t) noFill_tuple_mul F.fills_int_mul F.slot_int_rmul repeat_tuple F.slot_int_index.lookup
    (call_meets F.slot_int_rmul (typeIs_int s k t) F.entry_int_rmul (F.args_int_rmul_2 _ _) (int_rmul_tuple k t l its.toArray n dd sl)
      ⟨ho, rfl, ⟨_, ho, rfl⟩, call_meets F.slot_tuple_mul ⟨_, ho, rfl⟩ F.entry_tuple_mul (F.args_tuple_mul_2 _ _) (tuple_mulS l its.toArray n dd sl k t c0 c1) ⟨ho, ?_⟩⟩)
  exact ⟨.ref l, H, I, rfl, q⟩
theorem op_repTZ : OpR X (binaryOp .Mult) (rRepTZ X.K) := by
  intro pins s σ H x y v u Q I rx ry h
  obtain ⟨l, k, xs, rfl, rfl, hT, hne, h1, h2, q⟩ := h
  cases rx
  obtain ⟨t, rfl⟩ := ry
  obtain ⟨its, r, ⟨⟨cls, dd, data, sl⟩, ho, hc, n, hd⟩, hs⟩ := I.tuple hT
  simp only at hc hd
  subst hc hd
  have c0 : (decide (k < -(2 ^ 63)) || decide (k ≥ 2 ^ 63)) = false := by
    rw [decide_eq_false (by omega), decide_eq_false (by omega)] <;> rfl
  have hi : its.toArray.isEmpty = false := by
    cases its with
    | nil => cases r; exact absurd rfl hne
    | cons a b => rfl
  have c1 : (its.toArray.isEmpty || k == 1) = false := by
    rw [hi, Bool.false_or]
    exact beq_eq_false_iff_ne.mpr (by omega)
  have c2 : (decide (k ≤ 0) || its.toArray.isEmpty) = true := by
    rw [decide_eq_true h2]
    rfl
  refine wpAny_binaryOp_repeat_ref (T := "tuple") (U := "int") (by decide) ⟨_, ho, rfl⟩ (fun s' => typeIs_int s' k t) noFill_tuple_mul F.fills_int_mul F.slot_int_rmul repeat_tuple F.slot_int_index.lookup
    (call_meets F.slot_int_rmul (typeIs_int s k t) F.entry_int_rmul (F.args_int_rmul_2 _ _) (int_rmul_tuple k t l its.toArray n dd sl)
      ⟨ho, rfl, ⟨_, ho, rfl⟩, call_meets F.slot_tuple_mul ⟨_, ho, rfl⟩ F.entry_tuple_mul (F.args_tuple_mul_2 _ _) (tuple_mulZ l its.toArray n dd sl k t c0 c1 c2) ⟨ho, ?_⟩⟩)
  refine ⟨.ref s.heap.objs.size, _, I.laid (t' := s.toks) (o := .tup []) (fun b ob q => Heap.get?_push_of_some _ q) (Nat.le_refl _) ?_, rfl, q _ (I.hok.fresh (Nat.le_refl _))⟩
  exact ⟨Nat.zero_le _, [], .nil, IsTup.new _ _⟩
/-- a product, also of a tuple with any small int -/
def dMulX : PyData → PyData → Option PyData
  | .int i, .int j => if mulOk i j = true then some (.int (i * j)) else none
  | .tuple a, .int k => if a.length ≤ 1000 ∧ -1000 ≤ k ∧ k ≤ 1000 then some (.tuple (List.replicate k.toNat a).flatten) else none
  | _, _ => none
theorem bin_mulX : BinR X (binaryOp .Mult) dMulX := fun dx dy d e => by
  cases dx <;> cases dy <;> first | (simp only [dMulX] at e; cases e; done) | skip
  · rename_i i j
    exact bin_mul (.int i) (.int j) d e
  · rename_i a j
    simp only [dMulX] at e
    split at e
    · rename_i hz
      obtain ⟨h0, h1, h2⟩ := hz
      cases e
      by_cases c : a = [] ∨ j = 1
      · refine ⟨_, op_repTS, fun O H vx vy Q l hx hy k => ?_⟩
        obtain ⟨p, xs, rfl, p1, p2⟩ := dp_tup hx
        cases dp_int hy
        have hl := dpa_len p2
        refine ⟨p, j, xs, rfl, rfl, Ext.unhid.st p1, ?_, by omega, by omega, k _ _ (Ext.refl H) ?_⟩
        · rcases c with c | c
          · left
            rw [c] at hl
            exact List.eq_nil_of_length_eq_zero hl
          · exact .inr c
        · have ea : (List.replicate j.toNat a).flatten = a := by
            rcases c with c | c
            · rw [c]
              simp
            · rw [c]
              simp
          rw [ea]
          exact hx
      · by_cases c2 : j ≤ 0
        · refine ⟨_, op_repTZ, fun O H vx vy Q l hx hy k => ?_⟩
          obtain ⟨p, xs, rfl, p1, p2⟩ := dp_tup hx
          cases dp_int hy
          have hl := dpa_len p2
          refine ⟨p, j, xs, rfl, rfl, Ext.unhid.st p1, fun z => c (.inl (by subst z; cases p2; rfl)), by omega, c2, fun q hq => ?_⟩
          have ej : j.toNat = 0 := by omega
          rw [ej] at k
          exact k _ _ (Ext.new hq) (dp_newT l hq .nil)
        · have j2 : 2 ≤ j := by
            have : j ≠ 1 := fun z => c (.inr z)
            omega
          have e2 : dMul (.tuple a) (.int j) = some (.tuple (List.replicate j.toNat a).flatten) := by
            show (if a ≠ [] ∧ 2 ≤ j ∧ j ≤ 1000 ∧ a.length ≤ 1000 then some (PyData.tuple (List.replicate j.toNat a).flatten) else none) = _
            rw [if_pos ⟨fun z => c (.inl z), j2, h2, h0⟩]
          exact bin_mul (.tuple a) (.int j) _ e2
    · cases e
end
end PD
set_option Elab.async false
set_option linter.all false
set_option maxRecDepth 100000
set_option maxHeartbeats 4000000
namespace PD
open PySem PySem.Spec PyProof.Rows L2
/-! ### zip of a tuple and a list -/
section
variable {prog : Program} {w : World} {A : Around} {E : Value → Shared → Prop} {s : Shared}
end
/-! ### zip of any two of these -/
section
variable {X : Cx} {W : WX} {a b e : Expr} {elts : List Expr} {fa fb : E} {pos p tpos : Pos} {kk : Nat} {σ : Sg} {H : Hp} {R : It → Hp → Prop} {p1 p2 : Addr} {vs us : List V} {ta : TA}
variable [Tbs] [Zp]
end
section
variable {X : Cx} {W : WX} {a b e : Expr} {elts : List Expr} {fa fb : E} {pos p tpos : Pos} {kk : Nat}
variable [Tbs] [Zp]
end
end PD
set_option Elab.async false
set_option linter.all false
set_option maxRecDepth 100000
set_option maxHeartbeats 4000000
namespace PD
open PySem PySem.Spec PyProof.Rows L2
/-! ### enumerate of a tuple -/
section
variable {prog : Program} {w : World} {A : Around} {E : Value → Shared → Prop} {s : Shared}
end
/-! ### enumerate of either -/
section
variable {X : Cx} {W : WX} {a e : Expr} {elts : List Expr} {fa : E} {pos p tpos : Pos} {kk : Nat} {σ : Sg} {H : Hp} {R : It → Hp → Prop} {p1 : Addr} {vs : List V} {ta : TA}
variable [Tbs] [Zp]
end
section
variable {K : PySem.W.Frag} {O : List Addr} {H : Hp} {a : Addr} {vs : List V} {ds : List PyData}
end
end PD
set_option Elab.async false
set_option linter.all false
set_option maxRecDepth 100000
set_option maxHeartbeats 4000000
namespace PD
open PySem PySem.Spec PyProof.Rows L2
/-! ### x[i] += e, x a list of the frame's own -/
section
variable {X : Cx} {W : WX} {b e : Expr} {fb f : E} {pos p : Pos}
variable [Tbs] [Zp]
end
end PD
set_option Elab.async false
set_option linter.all false
set_option maxRecDepth 100000
set_option maxHeartbeats 4000000
namespace PD
open PySem PySem.Spec PyProof.Rows L2
/-! ### all, any of a generator expression -/
section
variable {X : Cx} {pins : List (Addr × Obj)} {σ : L2.St} {H : Hp} {s : Shared}
end
end PD
set_option Elab.async false
set_option linter.all false
set_option maxRecDepth 100000
set_option maxHeartbeats 4000000
namespace PD
open PySem PySem.Spec PyProof.Rows L2
/-- asleep ahead of item i -/
def GPhi (Y : Cx) (pp : List (Addr × Obj)) (σw : L2.St) (fp : List Addr) (tn : Nat → Heap → Prop) (Hx : Hp) (i : Nat) (s : Shared) : Prop := ∃ H', Inv Y pp σw H' s ∧ tn i s.heap ∧ (∀ b ∈ fp, H' b = none) ∧ Ext Hx H'
def GPsi (Y : Cx) (pp : List (Addr × Obj)) (σw : L2.St) (Hx : Hp) (s : Shared) : Prop := ∃ H', Inv Y pp σw H' s ∧ Ext Hx H'
theorem inv_gens {Y : Cx} {pp : List (Addr × Obj)} {σ : L2.St} {H : Hp} {s : Shared} (I : Inv Y pp σ H s) {g' : Array GenState} (hg : AllBare g') : Inv Y pp σ H { s with gens := g' } :=
  I.call' (s' := { s with gens := g' }) (ch := []) rfl Un.refl I.hok hg fun _ z => nomatch z
theorem GPhi.gens {Y : Cx} {pp : List (Addr × Obj)} {σw : L2.St} {fp : List Addr} {tn : Nat → Heap → Prop} {Hx : Hp} {i : Nat} {s : Shared} (h : GPhi Y pp σw fp tn Hx i s) {g : Nat} {x : GenState} (hx : x.bare = true) : GPhi Y pp σw fp tn Hx i (s.setGen g x) := by
  obtain ⟨H', I, a, b, c⟩ := h
  exact ⟨H', inv_gens I (allBare_setGen I.bare hx), a, b, c⟩
theorem GPsi.gens {Y : Cx} {pp : List (Addr × Obj)} {σw : L2.St} {Hx : Hp} {s : Shared} (h : GPsi Y pp σw Hx s) {g : Nat} {x : GenState} (hx : x.bare = true) : GPsi Y pp σw Hx (s.setGen g x) := by
  obtain ⟨H', I, c⟩ := h
  exact ⟨H', inv_gens I (allBare_setGen I.bare hx), c⟩
theorem GPhi.psi {Y : Cx} {pp : List (Addr × Obj)} {σw : L2.St} {fp : List Addr} {tn : Nat → Heap → Prop} {Hx : Hp} {i : Nat} {s : Shared} (h : GPhi Y pp σw fp tn Hx i s) : GPsi Y pp σw Hx s := by
  obtain ⟨H', I, _, _, c⟩ := h
  exact ⟨H', I, c⟩
theorem GPsi.kept {Y : Cx} {pp : List (Addr × Obj)} {σw : L2.St} {Hx : Hp} {s : Shared} (h : GPsi Y pp σw Hx s) {h' : Heap} (k : ∀ b o, s.heap.get? b = some o → h'.get? b = some o) : GPsi Y pp σw Hx { s with heap := h' } := by
  obtain ⟨H', I, c⟩ := h
  exact ⟨H', I.kept (t' := s.toks) k, c⟩
section
variable [Tbs] {Y : Cx} {AW : Around} {elt iter : Expr} {x : Str} {px pos : Pos} {scope : Scope} {it : Addr} {J : It} {fp : List Addr} {tn : Nat → Heap → Prop} {pp : List (Addr × Obj)} {is ws : List Nat} {g : G} {f : E} {Z : Zn} {env : Env} {σ : Sg} {Hx : Hp} {O : List Addr} {items : List PyData} {go : Bool}
end
end PD
set_option Elab.async false
set_option linter.all false
set_option maxRecDepth 100000
set_option maxHeartbeats 4000000
namespace PD
open PySem PySem.Spec PyProof.Rows L2
section
variable {P : Program} {w : World} {A : Around} {R' : Result → Shared → Prop} {a gn : Addr} {g : G} {f : E} {env : Env} {items : List PyData} {Φ : Nat → Shared → Prop} {Ψ : Shared → Prop} {r : Bool}
/-- a generator that is asleep ahead of item i -/
structure GHold (Φ : Nat → Shared → Prop) (Ψ : Shared → Prop) (a gn : Nat) : Prop where
  phi : ∀ i s x, x.bare = true → Φ i s → Φ i (s.setGen gn x)
  psi : ∀ s x, x.bare = true → Ψ s → Ψ (s.setGen gn x)
  kept : ∀ (s : Shared) h', Ψ s → (∀ b o, s.heap.get? b = some o → h'.get? b = some o) → Ψ { s with heap := h' }
  sub : ∀ i s, Φ i s → Ψ s
  gen : ∀ s, Ψ s → s.heap.IsGen a gn ∧ s.heap.NoLimit
end
end PD
set_option Elab.async false
set_option linter.all false
set_option maxRecDepth 100000
set_option maxHeartbeats 4000000
namespace PD
open PySem PySem.Spec PyProof.Rows L2
theorem WalkD.mono {K : PySem.W.Frag} {O : List Addr} {H H2 : Hp} {J : It} {ds : List PyData} (wd : WalkD K O H J ds) (e : Ext H H2) : WalkD K O H2 J ds :=
  ⟨fun i d O1 H1 h x l => wd.go i d O1 H1 h ((e.hid O).trans x) l, fun i O1 H1 h x => wd.stop i O1 H1 h ((e.hid O).trans x)⟩
section
variable [Tbs] {X : Cx} {W : WX} {elt iter : Expr} {x : Str} {px p pos gpos : Pos} {scope : Scope} {own : List (Str × Nat)} {fs : Env → RO (List PyData)} {is : List Nat} {g : G} {f : E} {k : Nat} {c P : Addr} {go : Bool} {nm : Str} {id : String}
end
end PD
set_option Elab.async false
set_option linter.all false
set_option maxRecDepth 100000
set_option maxHeartbeats 4000000
namespace PD
open PySem PySem.Spec PyProof.Rows L2
/-! ### defs that hold a table; calls with keywords -/
section
variable [Tbs] {P : Program} {w : World} {K : PySem.W.Frag} {mg : Str → Option Value} {base : Heap}
end
/-- where a parameter's value comes from: the positional values, the keywords', the defaults -/
inductive Pk where
  | p | k | m
section
variable [Tbs] {X : Cx} {W : WX} {x : Str} {k kk n m : Nat} {ks : List Str} {r : List Pk} {dds : List PyData} {F : List PyData → RO PyData} {e : Expr} {es : List Expr} {kws : List Keyword} {fs gs : List E} {ga : A} {p pos : Pos}
end
end PD
set_option Elab.async false
set_option linter.all false
set_option maxRecDepth 100000
set_option maxHeartbeats 4000000
namespace PD
open PySem PySem.Spec PyProof.Rows L2
section
variable [Tbs] {X : Cx} {W : WX} {elt iter : Expr} {x : Str} {px p pos gpos : Pos} {scope : Scope} {own : List (Str × Nat)} {fs : Env → RO (List PyData)} {is : List Nat} {g : G} {f : E} {k : Nat}
end
/-! ### the mathematics of it -/
/-! ### the end, with tables -/
end PD
set_option Elab.async false
set_option linter.all false
set_option maxRecDepth 100000
set_option maxHeartbeats 4000000
namespace PD
open PySem PySem.Spec PyProof.Rows L2
/-! ### a list and a list make a new list -/
def rCatL (K : PySem.W.Frag) : R2 := fun x y H Q => ∃ l b xs zs, x = .ref l ∧ y = .ref b ∧ SqL K H l xs ∧ SqL K H b zs ∧ xs.length + zs.length ≤ sizeLine ∧ ∀ p, H p = none → Q (.ref p) (upd H p (.lst (xs ++ zs)))
theorem vals_app : ∀ {xs zs : List V} {its jts : List Value}, Vals xs its → Vals zs jts → Vals (xs ++ zs) (its ++ jts)
  | [], _, _, _, h, k => by cases h; exact k
  | _ :: _, _, _, _, h, k => by
    cases h with
    | cons a b => exact .cons a (vals_app b k)
section
variable {X : Cx}
variable [Tbs] [Zp]
theorem op_catL : OpR X (binaryOp .Add) (rCatL X.K) := by
  intro pins s σ H x y v u Q I rx ry h
  obtain ⟨l, b, xs, zs, rfl, rfl, h1, h2, hl, q⟩ := h
  cases rx
  cases ry
  obtain ⟨its, r1, ⟨⟨c1, d1, a1, sl1⟩, n1, ho1, hc1, hd1, hs1⟩, k1⟩ := I.list h1
  obtain ⟨jts, r2, ⟨⟨c2, d2, a2, sl2⟩, n2, ho2, hc2, hd2, hs2⟩, k2⟩ := I.list h2
  simp only at hc1 hd1 hs1 hc2 hd2 hs2
  subst hc1 hd1 hs1 hc2 hd2 hs2
  have len : its.toArray.size + jts.toArray.size ≤ sizeLine := by
    have e1 : xs.length = its.length := r1.length
    have e2 : zs.length = jts.length := r2.length
    rw [List.size_toArray, List.size_toArray]
    omega
  refine wpAny_binaryOp_concat (T := "list") ⟨_, ho1, rfl⟩ ⟨_, ho2, rfl⟩ noFill_list_add seq_list_add (call_meets F.slot_list_add ⟨_, ho1, rfl⟩ F.entry_list_add (F.args_list_add_2 _ _) (list_addW l b its.toArray jts.toArray n1 n2 none none sl1 sl2 len) ⟨ho1, ho2, ?_⟩)
  refine ⟨.ref s.heap.objs.size, _, I.laid (t' := s.toks) (o := .lst (xs ++ zs)) (fun b ob q => Heap.get?_push_of_some _ q) (Nat.le_refl _) ?_, rfl, q _ (I.hok.fresh (Nat.le_refl _))⟩
  refine ⟨by rw [List.length_append]; exact hl, its ++ jts, 0, vals_app r1 r2, ?_⟩
  rw [Heap.get?_push_size, List.append_toArray]
  rfl
/-- a sum, also of two lists -/
def dAddX : PyData → PyData → Option PyData
  | .list a, .list b => if a.length + b.length ≤ sizeLine then some (.list (a ++ b)) else none
  | x, y => dAdd x y
theorem bin_addX : BinR X (binaryOp .Add) dAddX := fun dx dy d e => by
  cases dx <;> cases dy <;> first | exact bin_add _ _ d e | skip
  rename_i a b
  simp only [dAddX] at e
  split at e
  · rename_i hz
    cases e
    refine ⟨_, op_catL, fun O H vx vy Q l hx hy k => ?_⟩
    obtain ⟨p, xs, rfl, p1, p2⟩ := dp_lst hx
    obtain ⟨p', ys, rfl, p1', p2'⟩ := dp_lst hy
    exact ⟨p, p', xs, ys, rfl, rfl, Ext.unhid.sl p1, Ext.unhid.sl p1', by rw [dpa_len p2, dpa_len p2']; exact hz, fun q hq => k _ _ (Ext.new hq) (dp_newL l hq (dpa_app p2 p2'))⟩
  · cases e
end
end PD
set_option Elab.async false
set_option linter.all false
set_option maxRecDepth 100000
set_option maxHeartbeats 4000000
namespace PD
open PySem PySem.Spec PyProof.Rows L2
section
variable {X : Cx} {W : WX} {e a b c : Expr} {es : List Expr} {f fa fb : E} {ft : T} {pos p : Pos} {Z : Zn} {env : Env} {σ : L2.St} {H : Hp} {O : List Addr} {ga : Env → RO (List PyData)} {tg iter elt : Expr} {ifs : List Expr} {scope : Scope} {own : List (Str × Nat)} {gg : G} {is : List Nat} {tt : T}
variable [Tbs] [Zp]
/-! ### a comprehension over a list of the frame's own, stored -/
end
section
variable {X : Cx} {i : Nat} {a : Addr} {cls : Value} {od : Option Addr} {c e1 e2 : Expr} {fa fb fc : Ex} {pos p : Pos}
variable [Tbs] [Zp]
end
/-! ### a list of the frame's own and a list -/
section
variable {X : Cx} {W : WX} {b : Expr} {fb : E} {pos : Pos}
variable [Tbs] [Zp]
end
/-! ### a suite without a name -/
section
variable {X : Cx} {W : WX} {x : Str} {cV : Value} {body : List Stmt} {np pos pos' rpos : Pos} {g : S} {mtc : Str → Option Bool} {f : E} {e : Expr}
variable [Tbs] [Zp]
end
/-! ### two names take two values at once -/
section
variable {X : Cx} {W : WX} {a b : Expr} {ga : Env → RO (List PyData)} {pos : Pos}
variable [Tbs] [Zp]
end
/-! ### argument lists, without unfolding the evaluation -/
def isStarB : Expr → Bool
  | .Starred _ _ => true
  | _ => false
theorem star_no {e : Expr} {es : List Expr} {env : PySem.Env} (h : isStarB e = false) : starEach (e :: es) env = (false, eval e env) :: starEach es env := by
  cases e <;> first | rfl | exact Bool.noConfusion h
section
variable {X : Cx} {W : WX} {e : Expr} {es : List Expr} {f : E} {g : Env → RO (List PyData)}
variable [Tbs] [Zp]
theorem ca_k (h : CE X W e f) (k : CA X W es g) (hs : isStarB e = false := by rfl) : CA X W (e :: es) (aCons f g) := ca_cons h k (star_no hs)
end
end PD
set_option Elab.async false
set_option linter.all false
set_option maxRecDepth 100000
set_option maxHeartbeats 4000000
namespace PD
open PySem PySem.Spec PyProof.Rows L2
/-! ### a suite told apart by the error's class -/
section
variable {X : Cx} {i : Nat} {a : Addr} {cls : Value} {od : Option Addr} {e : Expr} {fa fb : Ex}
variable [Tbs] [Zp]
end
end PD
set_option Elab.async false
set_option linter.all false
set_option maxRecDepth 100000
set_option maxHeartbeats 4000000
namespace PD
open PySem PySem.Spec PyProof.Rows L2
/-! ### defs that change a list of the caller's, defs that give a new list: statements that keep the frame in sight -/
inductive SO2 where
  | nx (env : Env)
  | rt (d : PyData) (env : Env)
  | rl (ds : List PyData) (env : Env)
  | no
abbrev S2 := Env → SO2
/-- slot i holds that address all the time -/
def PinA (i : Option Nat) (σ : Sg) (p : Addr) : Prop := match i with
  | none => True
  | some i => σ[i]? = some (some (.ref p))
section
variable {X : Cx} {W : WX} {e a b c : Expr} {es : List Expr} {st : Stmt} {sts rest : List Stmt} {f fa fb : E} {t : T} {Z : Zn} {env : Env} {σ : Sg} {H : Hp} {O : List Addr} {D : Ends} {pos p2 : Pos}
variable [Tbs] [Zp]
def SOk2 (X : Cx) (Z : Zn) (D : Ends) (i : Option Nat) (p : Addr) : SO2 → Prop
  | .nx env => ∀ σ H O, Rep X.K Z env σ H O → PinA i σ p → D.nx σ H
  | .rt d env => ∀ v σ H O, Rep X.K Z env σ H O → PinA i σ p → Dp X.K (hid O H) v d → D.rt v H
  | .rl ds env => ∀ q vs σ H O, Rep X.K Z env σ H O → PinA i σ p → H q = none → DpAll X.K (hid O H) vs ds → D.rt (.ref q) (upd H q (.lst vs))
  | .no => False
theorem CE.ok2 {Q : VK} {d : PyData} (h : CE X W e f) (r : Rep X.K Z env σ H O) (hf : f env = .ok d) (k : ∀ v H1, Ext H H1 → Dp X.K (hid O H1) v d → Rep X.K Z env σ H1 O → Q v H1) : wpE X e σ H Q :=
  h Z env σ H O Q r (by
    rw [hf]
    exact fun H1 e1 v hv => k v H1 e1 hv (r.mono e1))
theorem CT.ok2 {Q : Bool → Hp → Prop} {d : Bool} (h : CT X W e t) (r : Rep X.K Z env σ H O) (hf : t env = .ok d) (k : ∀ H1, Ext H H1 → Rep X.K Z env σ H1 O → Q d H1) : wpT X e σ H Q :=
  h Z env σ H O Q r (by
    rw [hf]
    exact fun H1 e1 => k H1 e1 (r.mono e1))
theorem CL.ok2 {Q : VK} {fl : Env → RO (List PyData)} {ds : List PyData} (h : CL X W e fl) (r : Rep X.K Z env σ H O) (hf : fl env = .ok ds) (k : ∀ p vs H1, Ext H H1 → H1 p = none → DpAll X.K (hid O H1) vs ds → Rep X.K Z env σ H1 O → Q (.ref p) (upd H1 p (.lst vs))) : wpE X e σ H Q :=
  h Z env σ H O Q r (by
    rw [hf]
    exact fun H1 e1 p vs hp hd => k p vs H1 e1 hp hd (r.mono e1))
end
/-! ### such defs' promises -/
section
variable {P : Program} {w : World} {K : PySem.W.Frag} {mg : Str → Option Value} {base : Heap}
variable [Tbs]
end
end PD
set_option Elab.async false
set_option linter.all false
set_option maxRecDepth 100000
set_option maxHeartbeats 4000000
namespace PD
open PySem PySem.Spec PyProof.Rows L2
/-! ### expressions that change own lists of the frame -/
abbrev E2 := Env → RO (PyData × Env)
abbrev A2 := Env → RO (List PyData × Env)
abbrev T2 := Env → RO (Bool × Env)
section
variable {X : Cx} {W : WX} {e a b c : Expr} {es : List Expr} {st : Stmt} {f : E} {fa fb : E2} {ga : A2} {t : T} {ft : T2} {Z : Zn} {env env' : Env} {σ : Sg} {H H' : Hp} {O : List Addr} {pos p2 : Pos}
variable [Tbs] [Zp]
/-- no list of the frame's own is made -/
def OwnLe (e e' : Env) : Prop := ∀ (j : Nat) (ds : List PyData), e'[j]? = some (some (SV.own ds)) → ∃ ds', e[j]? = some (some (SV.own ds'))
theorem OwnLe.refl {e : Env} : OwnLe e e := fun j ds h => ⟨ds, h⟩
theorem OwnLe.trans {a b c : Env} (h : OwnLe a b) (k : OwnLe b c) : OwnLe a c := fun j ds z => let ⟨ds', y⟩ := k j ds z; h j ds' y
def CT2 (X : Cx) (e : Expr) (f : T2) : Prop := (∀ env d env', f env = .ok (d, env') → OwnLe env env') ∧ ∀ Z env σ H O Q b env', Rep X.K Z env σ H O → f env = .ok (b, env') → (∀ H', Rep X.K Z env' σ H' O → Ext (hid O H) (hid O H') → Q b H') → wpT X e σ H Q
/-- a list of the frame's own, changed by a call -/
theorem Rep.back (r : Rep X.K Z env σ H O) {i : Nat} {p : Addr} {ds0 ds : List PyData} {ls : List V} (he : env[i]? = some (some (.own ds0))) (hs : σ[i]? = some (some (.ref p))) (e : Ext (hid O H) (hid O H')) (kp : ∀ a ∈ O, a ≠ p → H' a = H a) (hp : H' p = some (.lst ls)) (h : DpAll X.K (hid O H') ls ds) (tb : ∀ P ∈ Tbs.l, GxR.TabG H' P) : Rep X.K Z (env.set i (some (.own ds))) σ H' O := by
  obtain ⟨v, h1, a, ws, rfl, ha, hc, h3, _⟩ := r.sl i _ he
  rw [hs] at h1
  have e1 : p = a := by injection h1 with h1; injection h1 with h1; injection h1
  subst e1
  have old : ∀ {j : Nat} {dj : List PyData}, (env.set i (some (.own ds)))[j]? = some (some (.own dj)) → ∃ dj', env[j]? = some (some (.own dj')) := fun {j dj} e => by
    rcases set_some e with ⟨rfl, _, _⟩ | ⟨_, e⟩
    · exact ⟨_, he⟩
    · exact ⟨_, e⟩
  refine ⟨r.ex.trans e, r.sub, fun a ha' => ?_, by simp [r.len], fun j s e' => ?_, fun j k a dj dk e1 e2 s1 s2 => ?_, fun a ha' => ?_, tb, r.zp⟩
  · have n : a ≠ p := fun z => hc (by rw [← z]; exact ha')
    rw [kp a (r.sub a ha') n]
    exact r.kp a ha'
  · rcases set_some e' with ⟨rfl, _, e'⟩ | ⟨hj, e'⟩
    · cases e'
      exact ⟨.ref p, hs, p, ls, rfl, ha, hc, hp, h⟩
    · obtain ⟨w, h1, h2⟩ := r.sl j s e'
      refine ⟨w, h1, ?_⟩
      cases s with
      | fz d => exact e.dp h2
      | ob c fs => exact e.ob h2
      | me => exact h2
      | own dj =>
        obtain ⟨b, ws, e1, hb, hcb, h3', h4⟩ := h2
        have nb : b ≠ p := fun z => hj (r.nd j i p dj ds0 e' he (by rw [h1, e1, z]) hs)
        exact ⟨b, ws, e1, hb, hcb, by rw [kp b hb nb]; exact h3', e.dpa h4⟩
  · obtain ⟨x1, y1⟩ := old e1
    obtain ⟨x2, y2⟩ := old e2
    exact r.nd j k a x1 x2 y1 y2 s1 s2
  · by_cases z : a = p
    · exact ⟨ls, by rw [z]; exact hp⟩
    · obtain ⟨ws, h3⟩ := r.lv a ha'
      exact ⟨ws, by rw [kp a ha' z]; exact h3⟩
end
section
variable {X : Cx} {W : WX} {Z : Zn} {env : Env} {σ : Sg} {H : Hp} {O : List Addr} {k n : Nat} {f : Addr} {fd : FuncData} {ps : List Str} {x : Str} {p pos : Pos} {e : Expr} {es : List Expr} {ga : A2}
variable [Tbs] [Zp]
end
/-! ### stores and tests -/
section
variable {X : Cx} {W : WX} {e c : Expr} {f2 : E2} {t2 : T2} {g h : S} {pos : Pos}
variable [Tbs] [Zp]
end
end PD
set_option Elab.async false
set_option linter.all false
set_option maxRecDepth 100000
set_option maxHeartbeats 4000000
namespace PD
open PySem PySem.Spec PyProof.Rows L2
/-! ### defs by name -/
section
variable [Tbs] {X : Cx} {W : WX} {k kk n : Nat} {x : Str} {p pos : Pos} {e : Expr} {es : List Expr} {ga : A2} {f : E}
end
end PD
set_option Elab.async false
set_option linter.all false
set_option maxRecDepth 100000
set_option maxHeartbeats 4000000
namespace PD
open PySem PySem.Spec PyProof.Rows L2
/-! ### evaluation of what has effects -/
section
variable {env e1 : PD.Env} {f fk : E} {g h : S2} {t : T} {d : PyData} {i j m n : Nat} {b : Bool} {fa fb : E2} {ga : A2} {ds xs : List PyData}
end
end PD
set_option Elab.async false
set_option linter.all false
set_option maxRecDepth 100000
set_option maxHeartbeats 4000000
namespace PD
open PySem PySem.Spec PyProof.Rows L2
section
variable {X : Cx} {W : WX} {e a b c : Expr} {es rest : List Expr} {st : Stmt} {sts : List Stmt} {f2 fa fb : E2} {t2 ft fu : T2} {Z : Zn} {env env' : Env} {σ : Sg} {H H' : Hp} {O : List Addr} {D : Ends} {pos p2 : Pos}
variable [Tbs] [Zp]
/-! ### statements of such defs, with such expressions -/
/-! ### tests -/
def CW2 (X : Cx) (e : Expr) (f : T2) : Prop := (∀ env d env', f env = .ok (d, env') → OwnLe env env') ∧ ∀ Z env σ H O Q b env', Rep X.K Z env σ H O → f env = .ok (b, env') → (∀ H', Rep X.K Z env' σ H' O → Ext (hid O H) (hid O H') → Q b H') → wpW X e σ H Q
theorem CW2.ct (h : CW2 X e ft) : CT2 X e ft := ⟨h.1, fun Z env σ H O Q b env' r q k => wp_t pw_wp.pt (h.2 Z env σ H O Q b env' r q k)⟩
/-! ### tuple(e), append(e), for x in e -/
end
end PD
set_option Elab.async false
set_option linter.all false
set_option maxRecDepth 100000
set_option maxHeartbeats 4000000
namespace PD
open PySem PySem.Spec PyProof.Rows L2
/-! ### comprehensions whose items change an own list of the frame -/
section
variable {K : PySem.W.Frag} {Z : Zn} {env : Env} {σ : Sg} {H : Hp} {O : List Addr} {D : Addr} {acc : List V}
variable [Tbs] [Zp]
/-- no own list of the frame stands at D -/
def NoD (env : Env) (σ : Sg) (D : Addr) : Prop := ∀ (j : Nat) (ds : List PyData), env[j]? = some (some (SV.own ds)) → σ[j]? ≠ some (some (.ref D))
theorem Rep.drop (r : Rep K Z env σ H (D :: O)) (n : NoD env σ D) (hc : D ∉ Z.Oc) : Rep K Z env σ H O := by
  have sub : ∀ a ∈ O, a ∈ D :: O := fun a h => List.mem_cons_of_mem _ h
  have ex1 : Ext (hid (D :: O) H) (hid O H) := Ext.hid_sub sub
  refine ⟨r.ex.trans ex1, fun a h => ?_, r.kp, r.len, fun j s e => ?_, r.nd, fun a h => r.lv a (sub a h), r.tb, r.zp⟩
  · rcases List.mem_cons.mp (r.sub a h) with z | z
    · exact absurd (z ▸ h) hc
    · exact z
  · obtain ⟨v, h1, h2⟩ := r.sl j s e
    refine ⟨v, h1, ?_⟩
    cases s with
    | fz d => exact ex1.dp h2
    | ob c fs => exact ex1.ob h2
    | me => exact h2
    | own ds =>
      obtain ⟨a, vs, p1, p2, p3, p4, p5⟩ := h2
      rcases List.mem_cons.mp p2 with z | z
      · exact absurd (by rw [h1, p1, z]) (n j ds e)
      · exact ⟨a, vs, p1, z, p3, p4, ex1.dpa p5⟩
end
section
variable {X : Cx} {W : WX} {tg iter elt : Expr} {scope : Scope} {own : List (Str × Nat)} {pos : Pos} {fs : A} {g : G} {is : List Nat} {f : E2}
variable [Tbs] [Zp]
end
end PD
set_option Elab.async false
set_option linter.all false
set_option maxRecDepth 100000
set_option maxHeartbeats 4000000
namespace PD
open PySem PySem.Spec PyProof.Rows L2 HT
section
variable {prog : Program} {w : World} {A : Around} {E : Value → Shared → Prop} {s : Shared}
end
section
variable {X : Cx} {W : WX} {e : Expr} {f : E} {es : List Expr} {g : A} {p pos : Pos}
variable [Tbs] [Zp]
end
end PD
set_option Elab.async false
set_option linter.all false
set_option maxRecDepth 100000
set_option maxHeartbeats 4000000
namespace PD
open PySem PySem.Spec PyProof.Rows L2
section
variable {env e1 : PD.Env} {f : E} {f2 : E2} {t : T} {t2 u2 : T2} {g h : S2} {gg : G} {body : S} {d : PyData} {i j m n : Nat} {b : Bool} {fs : A} {ws : List Nat} {xs items : List PyData}
end
end PD
set_option Elab.async false
set_option linter.all false
set_option maxRecDepth 100000
set_option maxHeartbeats 4000000
namespace PD
open PySem PySem.Spec PyProof.Rows L2
/-! ### loops in defs that change a list of the caller's; walks whose items come with effects -/
section
variable {X : Cx} {W : WX} {tg it e a b c : Expr} {es rest : List Expr} {st : Stmt} {sts : List Stmt} {f : E} {f2 fa fb : E2} {t2 : T2} {g : S2} {gg : G} {is : List Nat} {Z : Zn} {env env' : Env} {σ : Sg} {H H' : Hp} {O : List Addr} {D : Ends} {pos p2 : Pos}
variable [Tbs] [Zp]
abbrev I2 := Env → RO (List PyData × Env)
/-! ### such loops -/
theorem SOk2.zone {i : Option Nat} {p : Addr} (r0 : Rep X.K Z env σ H O) : ∀ {r : SO2}, SOk2 X Z D i p r → SOk2 X (zn Z H O) D i p r
  | .nx _, h => fun σ' H' O' r hp => h σ' H' O' (r0.unzone r) hp
  | .rt _ _, h => fun v σ' H' O' r hp d => h v σ' H' O' (r0.unzone r) hp d
  | .rl _ _, h => fun q vs σ' H' O' r hp hq d => h q vs σ' H' O' (r0.unzone r) hp hq d
  | .no, h => h
/-! ### own lists of such frames -/
/-! ### a and b, as a value -/
end
end PD
set_option Elab.async false
set_option linter.all false
set_option maxRecDepth 100000
set_option maxHeartbeats 4000000
namespace PD
open PySem PySem.Spec PyProof.Rows L2
/-! ### chains of two comparisons -/
section
variable {X : Cx} {W : WX} {e a b c : Expr} {f fa fb fc : E} {pos : Pos} [Tbs] [Zp]
end
end PD
set_option Elab.async false
set_option linter.all false
set_option maxRecDepth 100000
set_option maxHeartbeats 4000000
namespace PD
open PySem PySem.Spec PyProof.Rows L2
section
variable {env e1 : PD.Env} {f fa fb fc : E} {f2 a2 b2 : E2} {g h : S2} {gg : G} {body : S} {i2 : I2} {fl fs : A} {d a b c : PyData} {i j m n : Nat} {xs items l : List PyData} {bi bi' : PyData → PyData → Option PyData} {F : List PyData → List PyData → RO (PyData × List PyData)}
end
end PD
set_option Elab.async false
set_option linter.all false
set_option maxRecDepth 100000
set_option maxHeartbeats 4000000
namespace PD
open PySem PySem.Spec PyProof.Rows L2
/-! ### own errors whose __init__ hands a text to super().__init__ and keeps its arguments -/
section
open PySem.W PySem.Calls
variable {prog : Program} {w : World} {A : Around} {E : Value → Shared → Prop} {h : Heap} {g : Array GenState} {d : Drawn} {t : Nat} {os : OsState}
variable {nm q : Str} {C N : Addr} {bs bm : List Value} {hdct : Bool} {sn : List Str} {sub : List Value} {ab : Bool} {col : Option Bool} {dd : Option Addr} {k0 k1 k2 k3 k5 : Option Value}
theorem call_mwV {u e t0 : Addr} {rest : List Value} {Q : Value → Shared → Prop}
    (hC : h.get? C = some (excClassObj nm q C N bs bm hdct sn sub ab col dd k0 k1 k2 k3 k5 "ValueError.__new__")) (he : h.get? e = some (HandSPX.excO C t0)) (hu : h.get? u = some (kxs_mw "ValueError.__init__" e)) (hrest : rest.length ≤ sizeLine)
    (hq : ∀ h' t1, (∀ b o, b ≠ e → h.get? b = some o → h'.get? b = some o) → h'.get? e = some (HandSPX.excO C t1) → Q .none ⟨h', g, d, t, os⟩) :
    wpAny (model prog w) A (call (.ref u) rest) Q E ⟨h, g, d, t, os⟩ := by
  refine wpAny_call (codeAny_of_tree ?_)
  show wpAny _ A.in1 (callAny (.ref u) ⟨rest, []⟩) _ _ _
  simp only [callAny]
  refine wpAny_bind (wpAny_load hu ?_)
  simp only [kxs_mw, show (Value.type "method-wrapper" == Value.type "method" || Value.type "method-wrapper" == Value.type "builtin_function_or_method" || Value.type "method-wrapper" == Value.type "method-wrapper") = true by decide, if_true]
  refine KFB.if_so (by decide) ?_
  refine wpAny_bind (check_bound_init F.excBase_ValueError.toExcCallFacts hC he rfl ?_)
  refine wpAny_bind (wpAny_pure (wpAny_pure ?_))
  refine ⟨plainId_quiet F.excBase_ValueError.init.plain _, codeAny_builtin F.excBase_ValueError.initEntry ?_⟩
  exact exc_init_tree (cls := .ref C) (t0 := t0) (dv := none) (c2 := .none) (c3 := .none) (b4 := .bool false) he hrest fun h' k e' t' => hq h' _ k e'
end
/-- what the written part must say of such an __init__: f the function, C its class, cc the cell that holds C, cda its code -/
structure InitK (P : Program) (K : PySem.W.Frag) (f C cc cda : Addr) (fd : FuncData) (x : Str) : Prop where
  fn : ∃ oc od osl, K.lookup f = some (⟨oc, od, .func fd, osl⟩ : Obj)
  par : ∃ ar : Arg, (fd.params.posonlyargs ++ fd.params.args).head? = some ar ∧ ar.arg = x
  code : ∃ ccl cdd ccs vs file tf, K.lookup cda = some (⟨ccl, cdd, .fields vs, ccs⟩ : Obj) ∧ vs[2]? = some (.str file tf) ∧ ((P.main.file : Str) == file) = true
  top : (P.main.scope.names.lookup ("super" : Str)).isSome = false
  cell : ∃ cl cld csl, K.lookup cc = some (⟨cl, cld, .cell (some (.ref C)), csl⟩ : Obj)
  cls : OexC K C
  self : PySem.W.mroIn K C (.ref C) = some true
  init : PySem.W.ks_superIn K C C "__init__" = some (some (.builtin "ValueError.__init__"))
  opq : PySem.W.nsIn K cStatics "thirdparty.any" = some none
  ve : PySem.W.subIn K (.ref C) (.type "ValueError") = some true
section
variable {X : Cx} {pins : List (Addr × Obj)} {σ : L2.St} {H : Hp} {s : Shared} {a C f cc cda : Addr} {fd : FuncData} {x : Str} {e : Expr} {te : TE} {body : List Stmt} {p0 p1 ap cp : Pos}
theorem super_init {Qn : Hp → Prop} {pl : Sem Bool} (T : InitK X.prog X.K f C cc cda fd x) (I : Inv X pins σ H s) (hks : X.env.kindOf "super" = some .globalImplicit) (hkc : X.env.kindOf "__class__" = some .free) (hfu : X.env.func = some f) (hco : X.env.code = .ref cda)
    (hcl : X.env.cells.lookup ("__class__" : Str) = some cc) (hms : X.mg "super" = none) (hN : X.N[0]? = some x) (hka : X.env.kindOf x = some .local) (hσ : σ[0]? = some (some (.ref a))) (ea : H a = some (exo a C none)) (hee : PE X e te)
    (q : te σ H fun v H1 => H1 a = some (exo a C none) ∧ Qn H1)
    (hev : eval (.Call (.Attribute (.Call (.Name "super" p0) [] [] p1) "__init__" ap) [e] [] cp) X.env = (do
      let ov ← attributeBase (.Call (.Name "super" p0) [] [] p1) "__init__" X.env (eval (.Call (.Name "super" p0) [] [] p1) X.env)
      standAt ap.atName
      let (f, first) ← holding [ov] (getMethod ov "__init__" pl)
      callWith cp f first (backTo cp (starEach [e] X.env)) []))
    (hs : starEach [e] X.env = (false, eval e X.env) :: starEach [] X.env) (hs0 : starEach [] X.env = []) :
    _root_.PySem.wpAt (model X.prog X.w) X.A (.func body X.env) (eval (.Call (.Attribute (.Call (.Name "super" p0) [] [] p1) "__init__" ap) [e] [] cp) X.env) (fun _ s' => ∃ H1, Inv X pins σ H1 s' ∧ Qn H1) X.xe s := by
  obtain ⟨oc, od, osl, lkf⟩ := T.fn
  obtain ⟨ar, har, hax⟩ := T.par
  obtain ⟨ccl, cdd, ccs, vs, file, tf, lkc, hvs, hfile⟩ := T.code
  obtain ⟨cl, cld, csl, lkcc⟩ := T.cell
  obtain ⟨nm, qn, N, bs, bm, sn, sub, ab, col, dd, k0, k1, k2, k3, k5, hC, hbm⟩ := T.cls.cls
  have KX := I.kIn
  have hcd : PySem.W.clsIn X.K C = some { name := nm, bases := bs, mro := .ref C :: bm, ns := N, qualname := qn, hasDict := true, slotNames := sn, subclasses := sub, abstract := ab, collection := col, hasDel := false } := by unfold PySem.W.clsIn; rw [hC] <;> rfl
  obtain ⟨t1, ho⟩ := exo_at I.hok ea
  have Ia : PySem.W.InstAt s.heap a ({ cls := .ref C, dict := none, data := .fields #[.ref t1, .none, .none, .none, .bool false, .none] } : Obj) C none := ⟨ho, rfl, rfl, trivial⟩
  refine ks_wpAt_MethodCall (pl := pl) ?_ hev
  refine ks_wpAt_super_base hks hkc (by decide) hfu (KX _ _ lkf) rfl har hco (KX _ _ lkc) rfl hvs hfile T.top ?_
  obtain ⟨mb, h1, h2⟩ := I.mod.blt
  refine PySem.W.ks_loadName_global I.ok.kind hks (Calls.loadGlobal_builtin (by rw [I.ok.glob]; exact I.mod.glob.keeps I.bk) hms (by rw [I.ok.blt]; exact h1.keeps I.bk) ((h2 "super" (by decide)).trans PyProof.Rows.Boot.«super») ⟨rfl, ?_⟩)
  refine wpAny_loadName_free I.ok.kind hkc hcl (v := .ref C) ⟨_, KX _ _ lkcc, rfl⟩ ?_
  obtain ⟨m, hn, hl⟩ := I.loc
  obtain ⟨u, ru, lu⟩ := hl 0 x _ hN hσ (.inl hka)
  cases ru
  have hmx : m x = some (.ref a) := by
    rcases lu with ⟨_, q⟩ | ⟨q, _⟩
    · exact q
    · rw [hka] at q
      rcases q with q | q <;> cases q
  rw [hax]
  refine wpAny_loadName_local I.ok.kind hka hn hmx ?_
  refine ks_wpAny_isType_cls (KX _ _ hC) rfl ⟨rfl, ?_⟩
  obtain ⟨hp, g, dr, tk, os⟩ := s
  refine ks_wpAny_call_super (KX _ _ hC) rfl ho rfl (fun c z => by cases z) (PySem.W.looks_mroIn KX T.self) (fun h' hso kk => ?_)
  have I1 : Inv X pins σ H ⟨h', g, dr, tk, os⟩ := I.kept (t' := tk) kk
  have hI1 : PySem.W.Looks (model X.prog X.w) hp (isInstance (.ref a) (.type "ValueError")) true := (Ia.type (M := model X.prog X.w)).andThen (PySem.W.looks_subIn KX T.ve)
  have hnC : a ≠ C := fun z => by
    rw [z] at ho
    have := (KX _ _ hC).symm.trans ho
    cases this
  have hal : PySem.W.alongIn X.K "__init__" (((Value.ref C :: bm).dropWhile (· != .ref C)).drop 1) = some (some (.builtin "ValueError.__init__")) := by
    have := T.init
    unfold PySem.W.ks_superIn at this
    rw [hcd] at this
    exact this
  have lkM : PySem.W.Looks (model X.prog X.w) hp (mroOf (.ref C)) (.ref C :: bm) := (PySem.W.looks_clsIn KX hcd).andThen .now
  refine PySem.W.kxs_getMethod PySem.W.kxs_ValueError hso ((PySem.W.looks_opaque KX T.opq).keeps kk) (lkM.keeps kk) rfl I1.kIn hal (hI1.keeps kk) hnC (by decide) ?_
  have hu : (h'.push (PySem.W.kxs_mw "ValueError.__init__" a)).get? h'.objs.size = some (PySem.W.kxs_mw "ValueError.__init__" a) := Heap.get?_push_at rfl rfl
  have I2 : Inv X pins σ H ⟨h'.push (PySem.W.kxs_mw "ValueError.__init__" a), g, dr, tk + 1, os⟩ := I1.kept (t' := tk + 1) fun b o z => Heap.get?_push_of_some _ z
  have hnu : H h'.objs.size = none := I1.hok.fresh (Nat.le_refl _)
  have I3 : Inv X ((h'.objs.size, PySem.W.kxs_mw "ValueError.__init__" a) :: pins) σ H ⟨h'.push (PySem.W.kxs_mw "ValueError.__init__" a), g, dr, tk + 1, os⟩ := I2.pins_of fun p hp => by
    rcases List.mem_cons.mp hp with rfl | hp
    · exact ⟨hu, hnu, fun z => absurd I1.lt (by rw [← z]; exact Nat.lt_irrefl _), I1.nofs (Nat.le_refl _), fun v z => by cases z⟩
    · exact I2.pin p (List.mem_append_right _ hp)
  rw [hs, hs0]
  refine PySem.W.kxs_callWith (i := "ValueError.__init__") (x := a) rfl ?_
  refine Calls.evalArgs_plain (x := eval e X.env) (rest := []) ?_
  refine Calls.spliced_cons (thn (hee.run _ _ σ H _ I3 q) fun v s4 ⟨vv, H4, I4, r4, ea4, q4⟩ => ?_)
  refine Calls.spliced_nil ?_
  obtain ⟨hu4, hn4, _⟩ := I4.pin (h'.objs.size, PySem.W.kxs_mw "ValueError.__init__" a) (List.mem_append_right _ (List.mem_cons_self ..))
  refine ⟨hu4, ?_⟩
  have I5 : Inv X pins σ H4 s4 := I4.pins_of fun p hp => I4.pin p ((List.mem_append.mp (List.mem_append_right X.pn hp)).elim (fun z => List.mem_append_left _ z) fun z => List.mem_append_right _ (List.mem_cons_of_mem _ z))
  obtain ⟨t4, ho4⟩ := exo_at I5.hok ea4
  obtain ⟨hp4, g4, dr4, tk4, os4⟩ := s4
  refine call_mwV (I5.kIn _ _ hC) ho4 hu4 (by show 1 ≤ sizeLine; decide) fun h5 t5 k5 hx5 => ?_
  have J := I5.write (t' := tk4) (x := a) (e := a) (o := exo a C none) (by rw [ea4]; exact True.intro) (.inl rfl) k5 ⟨_, hx5⟩ (exo_ok hx5)
  have eu : upd H4 a (exo a C none) = H4 := by
    funext b
    by_cases hb : b = a
    · rw [hb, upd_same, ea4]
    · rw [upd_ne hb]
  rw [eu] at J
  exact ⟨H4, J, q4⟩
end
open NdefX in
theorem fnok_init {CX : CXT} {P : Program} {w : World} {K : PySem.W.Frag} {mg : Str → Option Value} {base : Heap} {k : Nat} {f C cc cda : Addr} {name qual : Str} {params : Arguments} {rest : List Stmt} {scope : Scope} {dV kV doc pm ct : Value} {an : Option Addr} {e : Expr} {p0 p1 ap cp ep : Pos} {x : Str} {N ps : List Str} {sp : Sp} {pl : PySem.Env → Sem Bool}
    (T : InitK P K f C cc cda (PySem.W.fnX name qual params (.Expr (.Call (.Attribute (.Call (.Name "super" p0) [] [] p1) "__init__" ap) [e] [] cp) ep :: rest) scope [("__class__", cc)] dV kV doc pm an (.ref cda) ct) x)
    (hcd : PySem.W.codeIn K (.ref cda) qual = true) (hms : mg "super" = none) (S : NScope N ps ["__class__"] scope) (hN0 : N[0]? = some x) (hks : scope.names.lookup ("super" : Str) = some .globalImplicit) (hka : scope.names.lookup x = some .local)
    (len : ∀ vs H Q E, sp vs H Q E → vs.length = ps.length)
    (hev : ∀ env : PySem.Env, eval (.Call (.Attribute (.Call (.Name "super" p0) [] [] p1) "__init__" ap) [e] [] cp) env = (do
      let ov ← attributeBase (.Call (.Name "super" p0) [] [] p1) "__init__" env (eval (.Call (.Name "super" p0) [] [] p1) env)
      standAt ap.atName
      let (f, first) ← holding [ov] (getMethod ov "__init__" (pl env))
      callWith cp f first (backTo cp (starEach [e] env)) []))
    (hs : ∀ env : PySem.Env, starEach [e] env = (false, eval e env) :: starEach [] env)
    (hsw : ∀ env : PySem.Env, swapsWith (.Call (.Attribute (.Call (.Name "super" p0) [] [] p1) "__init__" ap) [e] [] cp) none ep.line env = pure false)
    (hbody : ∀ (A : Around) (outer : List PySem.Env) (s : Shared) (H : Hp) (vs : List V) (Q : VK) (E : XK), sp vs H Q E → ∃ (a : Addr) (te : TE) (t : TS), (startF N vs [none])[0]? = some (some (.ref a)) ∧ H a = some (exo a C none) ∧
      PE (ncx CX P w K mg base N ⟨name, qual, params, .Expr (.Call (.Attribute (.Call (.Name "super" p0) [] [] p1) "__init__" ap) [e] [] cp) ep :: rest, scope, [("__class__", cc)], cda⟩ f A outer s H E) e te ∧
      PSs (ncx CX P w K mg base N ⟨name, qual, params, .Expr (.Call (.Attribute (.Call (.Name "super" p0) [] [] p1) "__init__" ap) [e] [] cp) ep :: rest, scope, [("__class__", cc)], cda⟩ f A outer s H E) rest t ∧
      te (startF N vs [none]) H fun _ H1 => H1 a = some (exo a C none) ∧ t { nx := fun _ H' => Q .non H', rt := Q } (startF N vs [none]) H1) :
    FnOk P w K mg base CX (k + 1) f (PySem.W.fnX name qual params (.Expr (.Call (.Attribute (.Call (.Name "super" p0) [] [] p1) "__init__" ap) [e] [] cp) ep :: rest) scope [("__class__", cc)] dV kV doc pm an (.ref cda) ct) ps sp := by
  refine ⟨len, fun A outer s H args us vs Q E hr e0 hb r hsp => ?_⟩
  have hl := len _ _ _ _ hsp
  obtain ⟨oc, od, osl, lkf⟩ := T.fn
  obtain ⟨cl, cld, csl, lkcc⟩ := T.cell
  have KX : K.In s.heap := e0.mod.kin.keeps fun b o e => (e0.bs b o e).1
  have lim : s.heap.NoLimit := e0.mod.nolimit.keeps fun b o e => (e0.bs b o e).1
  obtain ⟨a, te, t, ha0, ea, hpe, hps, hte⟩ := hbody A outer s H vs Q E hsp
  let F : NF := ⟨name, qual, params, .Expr (.Call (.Attribute (.Call (.Name "super" p0) [] [] p1) "__init__" ap) [e] [] cp) ep :: rest, scope, [("__class__", cc)], cda⟩
  have C1 : CellsAt F.cl ["__class__"] [none] s.heap H := by
    have one : ∀ y c, F.cl.lookup y = some c → y = "__class__" ∧ c = cc := fun y c z => by
      have z' : List.lookup y [(("__class__" : Str), cc)] = some c := z
      by_cases q : y = ("__class__" : Str)
      · rw [q] at z'
        exact ⟨q, by simpa [List.lookup] using z'.symm⟩
      · have qb : (y == ("__class__" : Str)) = false := by simpa using q
        simp [List.lookup, qb] at z'
    refine ⟨rfl, fun y c z => ?_, fun x y c z z' => by rw [(one x c z).1, (one y c z').1], fun i y z => ?_⟩
    · rw [(one y c z).2]
      exact ⟨(e0.bs cc _ (e0.mod.kin _ _ lkcc)).2, _, _, KX _ _ lkcc, rfl⟩
    · cases i with
      | zero =>
        cases z
        exact ⟨cc, by simp [F, List.lookup], fun v z => by cases z⟩
      | succ i => simp at z
  refine ks_codeAny_call_defAt hr.depth (KX _ _ lkf) rfl lim (PySem.W.codeRec_of KX hcd) rfl hb S.nocell (fun ⟨n, v⟩ hy => S.par n (List.of_mem_zip hy).1) (fun h₁ hns kp => ?_) S.co S.gen S.kind
  have I : Inv (ncx CX P w K mg base N F f A outer s H E) [] (startF N vs [none]) H { s with heap := h₁, toks := s.toks + (ps.zip us).length } := inv_startN S hr.hd e0 hl r C1 hns kp
  have fin : ∀ {s' : Shared} {σ' : L2.St} {H' : Hp} {v : V} {u : Value}, Inv (ncx CX P w K mg base N F f A outer s H E) [] σ' H' s' → L2.RelV v u → Q v H' → L2.CE outer P w H s Q u s' :=
    fun {s' σ' H' v u} J rv q => ⟨v, H', J.os, J.bare, J.base, J.hok, rv, q⟩
  refine ks_wpAt_execs_cons (ks_wpAt_Expr_any (ks_wpAt_mono (super_init (X := ncx CX P w K mg base N F f A outer s H E) (Qn := fun H1 => t { nx := fun _ H' => Q .non H', rt := Q } (startF N vs [none]) H1) T I hks (S.frk _ (List.mem_singleton.mpr rfl)) rfl rfl (by simp [ncx, F, List.lookup]) hms hN0 hka ha0 ea hpe hte (hev _) (hs _) rfl) (fun v s' hh => ?_) fun e s' z => z) I.quiet ?_)
  · obtain ⟨H1, J, q1⟩ := hh
    refine wpAt_of_wpAny (wpAny_mono (hps.run [] _ _ H1 _ J q1) (fun fl s2 hs2 => ?_) fun e s2 z => z)
    cases fl with
    | ret u =>
      obtain ⟨v, σ', H', J', rv, q⟩ := hs2
      exact fin J' rv q
    | next =>
      obtain ⟨σ', H', J', q⟩ := hs2
      exact fin (v := V.non) (u := Value.none) J' rfl q
    | brk =>
      obtain ⟨_, _, _, q⟩ := hs2
      exact False.elim q
    | cont =>
      obtain ⟨_, _, _, q⟩ := hs2
      exact False.elim q
  · exact hsw _
end PD
set_option Elab.async false
set_option linter.all false
set_option maxRecDepth 100000
set_option maxHeartbeats 4000000
namespace PD
open PySem PySem.Spec PyProof.Rows L2 NdefX
/-- what such an error is made of: a small int or a short text -/
def Fld (x : V) : Prop := (∃ i : Int, x = .int i ∧ i.natAbs.log2 < 1000) ∨ ∃ y : Str, x = .str y ∧ y.length ≤ 1000
theorem Fld.fmt {x : V} (h : Fld x) {σ : L2.St} {H : Hp} {te : TE} {Q : VK} (ht : ∀ R : VK, R x H → te σ H R) (q : ∀ y : Str, y.length ≤ 2000 → Q (.str y) H) : tFmt te σ H Q := by
  rcases h with ⟨i, rfl, hi⟩ | ⟨y, rfl, hy⟩
  · refine ht _ (.inr ⟨i, rfl, by omega, q _ ?_⟩)
    have e := int_text_length_le (k := 1000) (by decide) hi
    rw [PySem.ofString_length]
    omega
  · exact ht _ (.inl ⟨y, rfl, by rw [sizeLine_eq]; omega, q y (by omega)⟩)
def spErr1 (K : PySem.W.Frag) (C : Addr) (f1 : Str) : Sp := fun vs H Q E => ∃ (a : Addr) (x : V), vs = [.ref a, x] ∧ H a = some (exo a C none) ∧ Fld x ∧ ∀ d, H d = none → d ≠ a → Q .non (upd (upd H d (exd d [(f1, x)])) a (exo a C (some d)))
def spErr2 (K : PySem.W.Frag) (C : Addr) (f1 f2 : Str) : Sp := fun vs H Q E => ∃ (a : Addr) (x y : V), vs = [.ref a, x, y] ∧ H a = some (exo a C none) ∧ Fld x ∧ Fld y ∧
  ∀ d, H d = none → d ≠ a → Q .non (upd (upd (upd H d (exd d [(f1, x)])) a (exo a C (some d))) d (exd d [(f2, y), (f1, x)]))
theorem str_empty_len : (Str.empty).length = 0 := rfl
section
variable {P : Program} {w : World} {K : PySem.W.Frag} {mg : Str → Option Value} {base : Heap} {f C cc cda : Addr} {name qual : Str} {params : Arguments} {scope : Scope} {dV kV doc pm ct : Value} {an : Option Addr} {p0 p1 ap cp ep q1 q2 q3 q4 q5 q6 q7 q8 q9 q10 q11 q12 q13 q14 q15 : Pos} {x n1 n2 f1 f2 w1 w2 : Str} {c1 c2 : Option String}
abbrev err2B (x n1 n2 f1 f2 w1 w2 : Str) (j1 j2 : Nat) (p0 p1 ap cp ep q1 q2 q3 q4 q5 q6 q7 q8 q9 q10 q11 q12 q13 q14 q15 : Pos) : List Stmt :=
  [.Expr (.Call (.Attribute (.Call (.Name "super" p0) [] [] p1) "__init__" ap) [.JoinedStr [.Constant (.str w1) j1 q1, .FormattedValue (.Name n1 q2) (-1) none q3, .Constant (.str w2) j2 q4, .FormattedValue (.Name n2 q5) (-1) none q6] q7] [] cp) ep,
   .Assign [.Attribute (.Name x q8) f1 q9] (.Name n1 q10) q11, .Assign [.Attribute (.Name x q12) f2 q13] (.Name n2 q14) q15]
theorem fnok_err2 {CX : CXT} {k j1 j2 : Nat} {pl : PySem.Env → Sem Bool} (T : InitK P K f C cc cda (PySem.W.fnX name qual params (err2B x n1 n2 f1 f2 w1 w2 j1 j2 p0 p1 ap cp ep q1 q2 q3 q4 q5 q6 q7 q8 q9 q10 q11 q12 q13 q14 q15) scope [("__class__", cc)] dV kV doc pm an (.ref cda) ct) x)
    (hcd : PySem.W.codeIn K (.ref cda) qual = true) (hms : mg "super" = none) (S : NScope [x, n1, n2, "__class__"] [x, n1, n2] ["__class__"] scope) (hks : scope.names.lookup ("super" : Str) = some .globalImplicit)
    (hw1 : w1.length ≤ 1000) (hw2 : w2.length ≤ 1000) (hf1 : PySem.W.findIn K (.ref C) f1 = some none) (hf2 : PySem.W.findIn K (.ref C) f2 = some none)
    (d0 : (x == ("__debug__" : Str)) = false) (d1 : (n1 == ("__debug__" : Str)) = false) (d2 : (n2 == ("__debug__" : Str)) = false) (e0 : (x == ("__classdict__" : Str)) = false) (e1 : (n1 == ("__classdict__" : Str)) = false) (e2 : (n2 == ("__classdict__" : Str)) = false)
    (hev : ∀ env : PySem.Env, eval (.Call (.Attribute (.Call (.Name "super" p0) [] [] p1) "__init__" ap) [.JoinedStr [.Constant (.str w1) j1 q1, .FormattedValue (.Name n1 q2) (-1) none q3, .Constant (.str w2) j2 q4, .FormattedValue (.Name n2 q5) (-1) none q6] q7] [] cp) env = (do
      let ov ← attributeBase (.Call (.Name "super" p0) [] [] p1) "__init__" env (eval (.Call (.Name "super" p0) [] [] p1) env)
      standAt ap.atName
      let (f, first) ← holding [ov] (getMethod ov "__init__" (pl env))
      callWith cp f first (backTo cp (starEach [.JoinedStr [.Constant (.str w1) j1 q1, .FormattedValue (.Name n1 q2) (-1) none q3, .Constant (.str w2) j2 q4, .FormattedValue (.Name n2 q5) (-1) none q6] q7] env)) []))
    (hsw : ∀ env : PySem.Env, swapsWith (.Call (.Attribute (.Call (.Name "super" p0) [] [] p1) "__init__" ap) [.JoinedStr [.Constant (.str w1) j1 q1, .FormattedValue (.Name n1 q2) (-1) none q3, .Constant (.str w2) j2 q4, .FormattedValue (.Name n2 q5) (-1) none q6] q7] [] cp) none ep.line env = pure false) :
    FnOk P w K mg base CX (k + 1) f (PySem.W.fnX name qual params (err2B x n1 n2 f1 f2 w1 w2 j1 j2 p0 p1 ap cp ep q1 q2 q3 q4 q5 q6 q7 q8 q9 q10 q11 q12 q13 q14 q15) scope [("__class__", cc)] dV kV doc pm an (.ref cda) ct) [x, n1, n2] (spErr2 K C f1 f2) := by
  have k0 := S.par x (by simp)
  have k1 := S.par n1 (by simp)
  have k2 := S.par n2 (by simp)
  refine fnok_init T hcd hms S rfl hks k0 (fun vs H Q E ⟨a, y, z, h, _⟩ => by rw [h]; rfl) hev (fun env => by rfl) hsw ?_
  intro A outer s H vs Q E ⟨a, y, z', hv, ea, fy, fz, hq⟩
  subst hv
  refine ⟨a, _, _, rfl, ea, pe_joined (.cons pe_str (.cons (pe_fmt (pe_var (i := 1) rfl (.inl k1) d1 e1)) (.cons pe_str (.cons (pe_fmt (pe_var (i := 2) rfl (.inl k2) d2 e2)) .nil)))),
    pss_cons (ps_ost (pe_var (i := 0) rfl (.inl k0) d0 e0) (pe_var (i := 1) rfl (.inl k1) d1 e1)) (pss_one (ps_ost (pe_var (i := 0) rfl (.inl k0) d0 e0) (pe_var (i := 2) rfl (.inl k2) d2 e2))), ?_⟩
  have z : ∀ {y : Str} {l : Nat}, y.length = l → l ≤ 10000 → y.length ≤ sizeLine := fun h1 h2 => by rw [sizeLine_eq]; omega
  have la := PySem.Str.length_append
  refine ⟨w1, rfl, z (la ..) (by rw [str_empty_len]; omega), ?_⟩
  refine fy.fmt (fun R r => ⟨y, rfl, r⟩) fun t1 ht1 => ⟨t1, rfl, z (by rw [la, la, str_empty_len]) (by omega), ?_⟩
  refine ⟨w2, rfl, z (by rw [la, la, la, str_empty_len]) (by omega), ?_⟩
  refine fz.fmt (fun R r => ⟨_, rfl, r⟩) fun t2 ht2 => ⟨t2, rfl, z (by rw [la, la, la, la, str_empty_len]) (by omega), ?_⟩
  refine ⟨ea, ?_⟩
  refine ⟨y, rfl, .ref a, rfl, a, C, rfl, T.cls, hf1, .inl ⟨ea, fun d hd dne => ?_⟩⟩
  exact ⟨z', rfl, .ref a, rfl, a, C, rfl, T.cls, hf2, .inr ⟨d, [(f1, y)], upd_same, by rw [upd_ne dne, upd_same], (by show 1 ≤ 900; omega), hq d hd dne⟩⟩
abbrev err1B (x n1 f1 w1 : Str) (j1 : Nat) (p0 p1 ap cp ep q1 q2 q3 q7 q8 q9 q10 q11 : Pos) : List Stmt :=
  [.Expr (.Call (.Attribute (.Call (.Name "super" p0) [] [] p1) "__init__" ap) [.JoinedStr [.Constant (.str w1) j1 q1, .FormattedValue (.Name n1 q2) (-1) none q3] q7] [] cp) ep,
   .Assign [.Attribute (.Name x q8) f1 q9] (.Name n1 q10) q11]
theorem fnok_err1 {CX : CXT} {k j1 : Nat} {pl : PySem.Env → Sem Bool} (T : InitK P K f C cc cda (PySem.W.fnX name qual params (err1B x n1 f1 w1 j1 p0 p1 ap cp ep q1 q2 q3 q7 q8 q9 q10 q11) scope [("__class__", cc)] dV kV doc pm an (.ref cda) ct) x)
    (hcd : PySem.W.codeIn K (.ref cda) qual = true) (hms : mg "super" = none) (S : NScope [x, n1, "__class__"] [x, n1] ["__class__"] scope) (hks : scope.names.lookup ("super" : Str) = some .globalImplicit)
    (hw1 : w1.length ≤ 1000) (hf1 : PySem.W.findIn K (.ref C) f1 = some none)
    (d0 : (x == ("__debug__" : Str)) = false) (d1 : (n1 == ("__debug__" : Str)) = false) (e0 : (x == ("__classdict__" : Str)) = false) (e1 : (n1 == ("__classdict__" : Str)) = false)
    (hev : ∀ env : PySem.Env, eval (.Call (.Attribute (.Call (.Name "super" p0) [] [] p1) "__init__" ap) [.JoinedStr [.Constant (.str w1) j1 q1, .FormattedValue (.Name n1 q2) (-1) none q3] q7] [] cp) env = (do
      let ov ← attributeBase (.Call (.Name "super" p0) [] [] p1) "__init__" env (eval (.Call (.Name "super" p0) [] [] p1) env)
      standAt ap.atName
      let (f, first) ← holding [ov] (getMethod ov "__init__" (pl env))
      callWith cp f first (backTo cp (starEach [.JoinedStr [.Constant (.str w1) j1 q1, .FormattedValue (.Name n1 q2) (-1) none q3] q7] env)) []))
    (hsw : ∀ env : PySem.Env, swapsWith (.Call (.Attribute (.Call (.Name "super" p0) [] [] p1) "__init__" ap) [.JoinedStr [.Constant (.str w1) j1 q1, .FormattedValue (.Name n1 q2) (-1) none q3] q7] [] cp) none ep.line env = pure false) :
    FnOk P w K mg base CX (k + 1) f (PySem.W.fnX name qual params (err1B x n1 f1 w1 j1 p0 p1 ap cp ep q1 q2 q3 q7 q8 q9 q10 q11) scope [("__class__", cc)] dV kV doc pm an (.ref cda) ct) [x, n1] (spErr1 K C f1) := by
  have k0 := S.par x (by simp)
  have k1 := S.par n1 (by simp)
  refine fnok_init T hcd hms S rfl hks k0 (fun vs H Q E ⟨a, y, h, _⟩ => by rw [h]; rfl) hev (fun env => by rfl) hsw ?_
  intro A outer s H vs Q E ⟨a, y, hv, ea, fy, hq⟩
  subst hv
  refine ⟨a, _, _, rfl, ea, pe_joined (.cons pe_str (.cons (pe_fmt (pe_var (i := 1) rfl (.inl k1) d1 e1)) .nil)),
    pss_one (ps_ost (pe_var (i := 0) rfl (.inl k0) d0 e0) (pe_var (i := 1) rfl (.inl k1) d1 e1)), ?_⟩
  have z : ∀ {y : Str} {l : Nat}, y.length = l → l ≤ 10000 → y.length ≤ sizeLine := fun h1 h2 => by rw [sizeLine_eq]; omega
  have la := PySem.Str.length_append
  refine ⟨w1, rfl, z (la ..) (by rw [str_empty_len]; omega), ?_⟩
  refine fy.fmt (fun R r => ⟨y, rfl, r⟩) fun t1 ht1 => ⟨t1, rfl, z (by rw [la, la, str_empty_len]) (by omega), ?_⟩
  refine ⟨ea, ?_⟩
  refine ⟨y, rfl, .ref a, rfl, a, C, rfl, T.cls, hf1, .inl ⟨ea, fun d hd dne => ?_⟩⟩
  exact hq d hd dne
end
end PD
set_option Elab.async false
set_option linter.all false
set_option maxRecDepth 100000
set_option maxHeartbeats 4000000
namespace PD
open PySem PySem.Spec PyProof.Rows L2
/-! ### raise C(a, b) -/
/-- the class x with an __init__ of its own: two fields, one -/
def ErrC (P : Program) (w : World) (K : PySem.W.Frag) (mg : Str → Option Value) (base : Heap) (x : Str) (k : Nat) (sp : Addr → Sp) : Prop :=
  ∃ (C fI : Addr) (fd : FuncData) (ps : List Str), OexC K C ∧ PySem.W.findIn K (.ref C) "__init__" = some (some (.ref fI)) ∧ PySem.W.typeIn K (.ref fI) = some (.type "function") ∧ FnOk P w K mg base (L2.CX P w) k fI fd ps (sp C) ∧ Binds K fd ps [] ∧ mg x = some (.ref C)
section
variable {X : Cx} {W : WX} {x f1 f2 : Str} {p pos pos' : Pos} {e1 e2 : Expr} {ga : A} {k kk : Nat}
variable [Tbs] [Zp]
end
end PD
set_option Elab.async false
set_option linter.all false
set_option maxRecDepth 100000
set_option maxHeartbeats 4000000
namespace PD
open PySem PySem.Spec PyProof.Rows L2
/-! ### len(range(a, b, c)) -/
section
variable {X : Cx} {W : WX} {a b c : Expr} {ga : A} {p1 p2 pos pos2 : Pos}
variable [Tbs] [Zp]
end
/-! ### err.f in an except suite -/
section
variable {X : Cx} {i : Nat} {a C : Addr} {oe : Obj} {pn : List (Addr × Obj)} {cls : Value} {od : Option Addr} {n f c0 : Str} {pos p1 : Pos}
variable [Tbs] [Zp]
end
/-! ### xs.extend([..]) -/
section
variable {X : Cx} {W : WX} {i : Nat} {x : Str} {px apos cpos pos : Pos} {e : Expr} {fl : A}
variable [Tbs] [Zp]
end
end PD
set_option Elab.async false
set_option linter.all false
set_option maxRecDepth 100000
set_option maxHeartbeats 4000000
namespace PD
open PySem PySem.Spec PyProof.Rows L2
/-- an own class whose errors have an __init__ of their own -/
structure XC2 (K : PySem.W.Frag) (mg : Str → Option Value) (c : Str) (a : Addr) : Prop where
  gg : mg c = some (.ref a)
  kk : PySem.W.keepIn K (.ref a) = true
  bb : PySem.W.subIn K (.ref a) (.type "BaseException") = some true
  tt : PySem.W.typeIn K (.ref a) = some (.type "type")
def oexB (K : PySem.W.Frag) (C : Addr) : Bool := match K.lookup C with
  | some ⟨.type "type", _, .cls cd, sl⟩ => (match cd.mro, sl.toList with
    | .ref C' :: bm, [_, _, _, _, some (.builtin n), _] => C' == C && n == "ValueError.__new__" && !cd.hasDel && cd.hasDict && PySem.HandSPX.refsVE bm
    | _, _ => false)
  | _ => false
end PD
namespace PD
open PySem PySem.Spec PyProof.Rows L2 NdefX
theorem oexC_of {K : PySem.W.Frag} {C : Addr} (q : oexB K C = true) (sa : PySem.W.findIn K (.ref C) "__setattr__" = some (some (.builtin "object.__setattr__"))) (b : PySem.W.subIn K (.ref C) (.type "BaseException") = some true) (t : PySem.W.typeIn K (.ref C) = some (.type "type"))
    (k : PySem.W.keepIn K (.ref C) = true) : OexC K C := by
  refine ⟨?_, sa, b, t, k⟩
  unfold oexB at q
  split at q
  · rename_i dd cd sl ho
    split at q
    · rename_i C' bm k0 k1 k2 k3 n k5 hm hs
      simp only [Bool.and_eq_true, beq_iff_eq, Bool.not_eq_true'] at q
      obtain ⟨⟨⟨⟨rfl, rfl⟩, hdel⟩, hdct⟩, ht⟩ := q
      obtain ⟨nm, bs, mro, ns, qn, hd, sn, sub, ab, col, del⟩ := cd
      dsimp only at hm hdel hdct
      subst hm hdel hdct
      have hsl : sl = #[k0, k1, k2, k3, some (.builtin "ValueError.__new__"), k5] := by
        obtain ⟨l⟩ := sl
        simp only at hs
        rw [hs]
      subst hsl
      exact ⟨nm, qn, ns, bs, bm, sn, sub, ab, col, dd, k0, k1, k2, k3, k5, ho, ht⟩
    · cases q
  · cases q
/-- what the end of a text tells of such a class -/
structure ErrK (P : Program) (K : PySem.W.Frag) (C f cc cda : Addr) (fd : FuncData) (qual : Str) (x : Str) : Prop where
  init : InitK P K f C cc cda fd x
  cd : PySem.W.codeIn K (.ref cda) qual = true
  find : PySem.W.findIn K (.ref C) "__init__" = some (some (.ref f))
  typ : PySem.W.typeIn K (.ref f) = some (.type "function")
section
variable {P : Program} {w : World} {K : PySem.W.Frag} {mg : Str → Option Value} {base : Heap} {f C cc cda : Addr} {c name qual : Str} {params : Arguments} {body : List Stmt} {scope : Scope} {dV kV doc pm ct : Value} {an : Option Addr} {p0 p1 ap cp ep q1 q2 q3 q4 q5 q6 q7 q8 q9 q10 q11 q12 q13 q14 q15 : Pos} {x n1 n2 f1 f2 w1 w2 : Str}
theorem errC2_mk {k j1 j2 : Nat} {pl : PySem.Env → Sem Bool} (G : ErrK P K C f cc cda (PySem.W.fnX name qual params body scope [("__class__", cc)] dV kV doc pm an (.ref cda) ct) qual x) (hm : mg c = some (.ref C))
    (hbd : body = err2B x n1 n2 f1 f2 w1 w2 j1 j2 p0 p1 ap cp ep q1 q2 q3 q4 q5 q6 q7 q8 q9 q10 q11 q12 q13 q14 q15)
    (hb : Binds K (PySem.W.fnX name qual params body scope [("__class__", cc)] dV kV doc pm an (.ref cda) ct) [x, n1, n2] [])
    (hms : mg "super" = none) (S : NScope [x, n1, n2, "__class__"] [x, n1, n2] ["__class__"] scope) (hks : scope.names.lookup ("super" : Str) = some .globalImplicit)
    (hw : w1.length ≤ 1000 ∧ w2.length ≤ 1000) (hf1 : PySem.W.findIn K (.ref C) f1 = some none) (hf2 : PySem.W.findIn K (.ref C) f2 = some none)
    (d0 : (x == ("__debug__" : Str)) = false ∧ (n1 == ("__debug__" : Str)) = false ∧ (n2 == ("__debug__" : Str)) = false ∧ (x == ("__classdict__" : Str)) = false ∧ (n1 == ("__classdict__" : Str)) = false ∧ (n2 == ("__classdict__" : Str)) = false)
    (hev : ∀ env : PySem.Env, eval (.Call (.Attribute (.Call (.Name "super" p0) [] [] p1) "__init__" ap) [.JoinedStr [.Constant (.str w1) j1 q1, .FormattedValue (.Name n1 q2) (-1) none q3, .Constant (.str w2) j2 q4, .FormattedValue (.Name n2 q5) (-1) none q6] q7] [] cp) env = (do
      let ov ← attributeBase (.Call (.Name "super" p0) [] [] p1) "__init__" env (eval (.Call (.Name "super" p0) [] [] p1) env)
      standAt ap.atName
      let (f, first) ← holding [ov] (getMethod ov "__init__" (pl env))
      callWith cp f first (backTo cp (starEach [.JoinedStr [.Constant (.str w1) j1 q1, .FormattedValue (.Name n1 q2) (-1) none q3, .Constant (.str w2) j2 q4, .FormattedValue (.Name n2 q5) (-1) none q6] q7] env)) []))
    (hsw : ∀ env : PySem.Env, swapsWith (.Call (.Attribute (.Call (.Name "super" p0) [] [] p1) "__init__" ap) [.JoinedStr [.Constant (.str w1) j1 q1, .FormattedValue (.Name n1 q2) (-1) none q3, .Constant (.str w2) j2 q4, .FormattedValue (.Name n2 q5) (-1) none q6] q7] [] cp) none ep.line env = pure false) :
    ErrC P w K mg base c (k + 1) (fun C => spErr2 K C f1 f2) := by
  subst hbd
  exact ⟨C, f, _, _, G.init.cls, G.find, G.typ, fnok_err2 G.init G.cd hms S hks hw.1 hw.2 hf1 hf2 d0.1 d0.2.1 d0.2.2.1 d0.2.2.2.1 d0.2.2.2.2.1 d0.2.2.2.2.2 hev hsw, hb, hm⟩
theorem errC1_mk {k j1 : Nat} {pl : PySem.Env → Sem Bool} (G : ErrK P K C f cc cda (PySem.W.fnX name qual params body scope [("__class__", cc)] dV kV doc pm an (.ref cda) ct) qual x) (hm : mg c = some (.ref C))
    (hbd : body = err1B x n1 f1 w1 j1 p0 p1 ap cp ep q1 q2 q3 q7 q8 q9 q10 q11)
    (hb : Binds K (PySem.W.fnX name qual params body scope [("__class__", cc)] dV kV doc pm an (.ref cda) ct) [x, n1] [])
    (hms : mg "super" = none) (S : NScope [x, n1, "__class__"] [x, n1] ["__class__"] scope) (hks : scope.names.lookup ("super" : Str) = some .globalImplicit)
    (hw : w1.length ≤ 1000) (hf1 : PySem.W.findIn K (.ref C) f1 = some none)
    (d0 : (x == ("__debug__" : Str)) = false ∧ (n1 == ("__debug__" : Str)) = false ∧ (x == ("__classdict__" : Str)) = false ∧ (n1 == ("__classdict__" : Str)) = false)
    (hev : ∀ env : PySem.Env, eval (.Call (.Attribute (.Call (.Name "super" p0) [] [] p1) "__init__" ap) [.JoinedStr [.Constant (.str w1) j1 q1, .FormattedValue (.Name n1 q2) (-1) none q3] q7] [] cp) env = (do
      let ov ← attributeBase (.Call (.Name "super" p0) [] [] p1) "__init__" env (eval (.Call (.Name "super" p0) [] [] p1) env)
      standAt ap.atName
      let (f, first) ← holding [ov] (getMethod ov "__init__" (pl env))
      callWith cp f first (backTo cp (starEach [.JoinedStr [.Constant (.str w1) j1 q1, .FormattedValue (.Name n1 q2) (-1) none q3] q7] env)) []))
    (hsw : ∀ env : PySem.Env, swapsWith (.Call (.Attribute (.Call (.Name "super" p0) [] [] p1) "__init__" ap) [.JoinedStr [.Constant (.str w1) j1 q1, .FormattedValue (.Name n1 q2) (-1) none q3] q7] [] cp) none ep.line env = pure false) :
    ErrC P w K mg base c (k + 1) (fun C => spErr1 K C f1) := by
  subst hbd
  exact ⟨C, f, _, _, G.init.cls, G.find, G.typ, fnok_err1 G.init G.cd hms S hks hw hf1 d0.1 d0.2.1 d0.2.2.1 d0.2.2.2 hev hsw, hb, hm⟩
end
end PD
set_option Elab.async false
set_option linter.all false
set_option maxRecDepth 100000
set_option maxHeartbeats 4000000
namespace PySem.W
open PySem PySem.Spec PySem.Calls PyProof.Rows
section
variable {prog : Program} {w : World} {A : Around} {E : Value → Shared → Prop} {s : Shared} {K : Frag} {x D : Addr} {ox : Obj} {od : Option Obj}
theorem findObj_dataO {C : Addr} {name : Str} {a g : Value} (hc : (clsIn K C).isSome = true) (ha : findIn K (.ref C) name = some (some a)) (hg : specialIn K a "__get__" = some (some g)) (ht : takesIn K a = some true) : findObj K C od name = some (.bind g a) := by
  obtain ⟨cd, hc⟩ := Option.isSome_iff_exists.mp hc
  unfold findObj
  rw [hc, Option.bind_some, ha, Option.bind_some]
  cases od <;> simp [hg, ht]
theorem kin_classO {Q : Option Value → Shared → Prop} (hga : findIn K (.ref D) "__getattribute__" = some (some (.builtin "BaseException.__getattribute__"))) (hgt : findIn K (.ref D) "__getattr__" = some none) (hsub : subIn K (.ref D) (.type "BaseException") = some true)
    (hdct : hasDictIn K D = true) (ha : findIn K (.ref D) "__class__" = some (some (.builtin "object.__class__")))
    (hn : specialIn K (.builtin "object.__class__") "__get__" = some (some (.builtin "getset_descriptor.__get__"))) (htk : takesIn K (.builtin "object.__class__") = some true) (hm : mroIn K D (.type "object") = some true)
    (X : K.In s.heap) (I : InstAt s.heap x ox D od) (h : Q (some (.ref D)) { s with toks := s.toks + 1 }) : wpAny (model prog w) A (getAttr? (.ref x) "__class__") Q E s := by
  have hf : findObj K D od "__class__" = some (.bind (.builtin "getset_descriptor.__get__") (.builtin "object.__class__")) := findObj_dataO (by obtain ⟨cd, hc, _⟩ := any_some hdct; rw [hc]; rfl) ha hn htk
  obtain ⟨hp, g, d, t, os⟩ := s
  have L0 := I.type (M := model prog w)
  have L1 := looks_findIn (M := model prog w) X hga
  have L2 := looks_findIn (M := model prog w) X hgt
  have L3 := looks_find (M := model prog w) X I hf
  have sub : Looks (model prog w) hp (isInstance (.ref x) (.type "BaseException")) true := L0.andThen (looks_subIn X hsub)
  have hx0 : (false && onTheHeap (Value.builtin "BaseException.__getattribute__")) = false := rfl
  have hx2 : (Value.builtin "BaseException.__getattribute__" == Value.builtin "object.__getattribute__") = false := by decide +kernel
  have hx1 : (onTheHeap (Value.ref D) && Value.builtin "BaseException.__getattribute__" == Value.builtin "object.__getattribute__") = false := by rw [hx2]; rfl
  unfold getAttr? getAttrBy? getAttrBy
  refine wpAny_bind (wpAny_mkText (wpAny_bind (wpAny_attempt (wpAny_holding (wpAny_bind (L0.at (wpAny_bind (L1.at ?_))))))))
  show wpAny _ _ (if (onTheHeap (Value.ref D) && Value.builtin "BaseException.__getattribute__" == Value.builtin "object.__getattribute__") = true then _ else _) _ _ _
  rw [hx1, if_neg Bool.false_ne_true]
  unfold getAttrByItsOwn hookBefore
  refine wpAny_bind ?_
  rw [if_pos (show onTheHeap (Value.ref D) = true from rfl)]
  refine L2.at ?_
  refine wpAny_bind (wpAny_attempt (wpAny_holding ?_))
  unfold callGetattribute
  rw [hx0, if_neg Bool.false_ne_true]
  unfold boundAndCalled
  rw [PySem.F.excAttr_ValueError.ga.bind (.ref x)]
  refine wpAny_bind (wpAny_pure ?_)
  show wpAny _ _ (call (.builtin "BaseException.__getattribute__") [.ref x, .str "__class__" t]) _ _ _
  refine wpAny_call (codeAny_call_builtin PySem.F.excAttr_ValueError.ga.plain PySem.F.entry_bexc_ga ?_)
  refine @check_slot (model prog w) _ _ ⟨hp, g, d, t + 1, os⟩ "BaseException.__getattribute__" "BaseException" "__getattribute__" (.ref x) [.str "__class__" t] [] _ (by decide +kernel) (by decide +kernel) sub (PySem.F.args_bexc_ga (.ref x) (.str "__class__" t)) ?_
  unfold Builtin.«object.__getattribute__»
  refine wpAny_bind (wpAny_of_eq (a := ((Value.ref x : Value), [Value.str "__class__" t])) (by first | rfl | (simp only [slotArgs]; rfl)) ?_)
  refine wpAny_bind (wpAny_pure (wpAny_bind (L0.at (wpAny_bind (L3.at ?_)))))
  show wpAny _ _ (holding [Value.builtin "object.__class__"] (call (.builtin "getset_descriptor.__get__") [.builtin "object.__class__", .ref x, .ref D]) >>= ret) _ _ _
  refine wpAny_bind (wpAny_holding (wpAny_call (class_get (s := ⟨hp, g, d, t + 1, os⟩) (ox := ox) (od := od) X I hm ?_)))
  refine wpAny_pure ?_
  show wpAny _ _ (handedOut (.ref D)) _ _ _
  rw [handedOut_of (v := .ref D) rfl]
  first
    | exact wpAny_pure (wpAny_pure h)
    | exact wpAny_pure h
    | exact wpAny_pure (wpAny_bind (wpAny_pure (wpAny_pure h)))
theorem kitx_excO (hga : findIn K (.ref D) "__getattribute__" = some (some (.builtin "BaseException.__getattribute__"))) (hgt : findIn K (.ref D) "__getattr__" = some none) (hsub : subIn K (.ref D) (.type "BaseException") = some true) (hdct : hasDictIn K D = true) (ha : findIn K (.ref D) "__class__" = some (some (.builtin "object.__class__")))
    (hn : specialIn K (.builtin "object.__class__") "__get__" = some (some (.builtin "getset_descriptor.__get__"))) (htk : takesIn K (.builtin "object.__class__") = some true) (hm : mroIn K D (.type "object") = some true) :
    KitX K (.ref x) (.ref D) (fun h => ∃ od, InstAt h x ox D od) where
  ty := fun _ _ _ ⟨_, I⟩ => I.type
  it := fun _ _ X _ => by
    obtain ⟨cdD, hcD, _⟩ := any_some hdct
    unfold clsIn at hcD
    split at hcD
    · rename_i c' d' cd' sl' ho
      intro A' Q' E' s' k q
      unfold isType loadHead
      exact wpAny_bind (wpAny_loadPart (k _ _ (X _ _ ho)) (wpAny_pure q))
    · cases hcD
  ne := fun h tp dd its n sl X htp => by
    obtain ⟨cdD, hcD, _⟩ := any_some hdct
    refine Bool.eq_false_iff.mpr fun q => ?_
    have e : D = tp := Value.ref.inj (beq_iff_eq.mp q)
    subst e
    unfold clsIn at hcD
    split at hcD
    · rename_i c' d' cd' sl' ho
      have z := (X _ _ ho).symm.trans htp
      cases z
    · cases hcD
  ca := fun X ⟨_, I⟩ k => kin_classO hga hgt hsub hdct ha hn htk hm X I k
end
end PySem.W
namespace PD
open PySem PySem.Spec PyProof.Rows L2
section
variable {X : Cx} {i : Nat} {a D : Addr} {oe : Obj} {pn : List (Addr × Obj)} {cls : Value} {od : Option Addr} {n x : Str} {pos p p1 p2 : Pos} {C : Addr} {b : Bool} {c0 : Str}
variable [Tbs] [Zp]
end
end PD
set_option Elab.async false
set_option linter.all false
set_option maxRecDepth 100000
set_option maxHeartbeats 4000000
namespace L2
open PySem PySem.Spec PyProof.Rows
/-! ### several except clauses, with and without a name -/
abbrev ClX1 := Value × Option Nat × (Addr → Value → Option Addr → TS)
def Dset (i : Nat) (D : Ends) : Ends := { nx := fun σ' H' => D.nx (σ'.set i none) H', rt := D.rt, bk := fun σ' H' => D.bk (σ'.set i none) H', ct := fun σ' H' => D.ct (σ'.set i none) H' }
def wList (K : PySem.W.Frag) (Wout : WX) (D : Ends) : List ClX1 → WX
  | [] => Wout
  | (c, none, ts) :: r => fun cls d σ H => ∃ b, PySem.W.exmOne K cls c = some b ∧ (b = true → ∀ a, H a = none → ts a cls d D σ H) ∧ (b = false → wList K Wout D r cls d σ H)
  | (c, some i, ts) :: r => fun cls d σ H => ∃ b, PySem.W.exmOne K cls c = some b ∧ (b = true → ∀ a, H a = none → ts a cls d (Dset i D) (σ.set i (some (.ref a))) H) ∧ (b = false → wList K Wout D r cls d σ H)
inductive HdL (X : Cx) : List ExceptHandler → List ClX1 → Prop
  | nil : HdL X [] []
  | plain {x : Str} {c : Value} {ts : Addr → Value → Option Addr → TS} {b₀ : Stmt} {suite : List Stmt} {np pos' : Pos} {hds : List ExceptHandler} {l : List ClX1} (hc : Names X x c)
      (hsu : ∀ (a : Addr) (oe : Obj) (cls : Value) (d : Option Addr) (pn : List (Addr × Obj)), Zc cls d oe → (∃ vs, oe.data = .fields vs) → PSs (X.suite a ((a, oe) :: pn)) (b₀ :: suite) (ts a cls d)) (r : HdL X hds l) :
      HdL X (.ExceptHandler (some (.Name x np)) none (b₀ :: suite) pos' :: hds) ((c, none, ts) :: l)
  | named {x n : Str} {i : Nat} {c : Value} {ts : Addr → Value → Option Addr → TS} {b₀ : Stmt} {suite : List Stmt} {np pos' : Pos} {hds : List ExceptHandler} {l : List ClX1} (hi : X.N[i]? = some n) (hln : X.env.kindOf n = some .local) (hc : Names X x c)
      (hsu : ∀ (a : Addr) (oe : Obj) (cls : Value) (d : Option Addr) (pn : List (Addr × Obj)), Zc cls d oe → (∃ vs, oe.data = .fields vs) → PSs (X.suite a ((a, oe) :: pn)) (b₀ :: suite) (ts a cls d)) (r : HdL X hds l) :
      HdL X (.ExceptHandler (some (.Name x np)) (some n) (b₀ :: suite) pos' :: hds) ((c, some i, ts) :: l)
section
variable {X : Cx} {body : List Stmt} {h₀ : ExceptHandler} {hds : List ExceptHandler} {l : List ClX1} {pos : Pos} {tb : WX → TS} {Wout : WX}
end
end L2
set_option Elab.async false
set_option linter.all false
set_option maxRecDepth 100000
set_option maxHeartbeats 4000000
namespace PD
open PySem PySem.Spec PyProof.Rows L2
/-! ### try with several clauses -/
abbrev Hd1 := Option Nat × (Str → Option Bool) × Ex
/-- what the clauses make of an error -/
def hdGo (e1 : Env) (c : Str) (fl : Flds) : List Hd1 → SO
  | [] => .er e1 c fl
  | (none, mtc, fx) :: r => match mtc c with
    | some true => (match fx c fl e1 with | .ok d => .rt d | _ => .no)
    | some false => hdGo e1 c fl r
    | none => .no
  | (some i, mtc, fx) :: r => match mtc c with
    | some true => if i < e1.length then (match fx c fl (e1.set i none) with | .ok d => .rt d | _ => .no) else .no
    | some false => hdGo e1 c fl r
    | none => .no
abbrev tsOf (X : Cx) (e : Expr) (rpos : Pos) : Addr → Value → Option Addr → TS := fun a cls d D σ H => ∀ oe pn, Zc cls d oe → (∃ vs, oe.data = .fields vs) → wpSs (X.suite a ((a, oe) :: pn)) [.Return (some e) rpos] D σ H
inductive HdC [Tbs] (X : Cx) : List ExceptHandler → List Hd1 → Prop
  | nil : HdC X [] []
  | plain {x : Str} {cV : Value} {mtc : Str → Option Bool} {f : E} {e : Expr} {np pos' rpos : Pos} {hds : List ExceptHandler} {l : List Hd1} (hc : Names X x cV)
      (hsu : ∀ (a : Addr) (oe : Obj) (cls : Value) (d : Option Addr) (pn : List (Addr × Obj)), Zc cls d oe → (∃ vs, oe.data = .fields vs) → CE (X.suite a ((a, oe) :: pn)) WN e f)
      (hm : ∀ c b, mtc c = some b → ∀ C, X.mg c = some C → PySem.W.exmOne X.K C cV = some b) (r : HdC X hds l) :
      HdC X (.ExceptHandler (some (.Name x np)) none [.Return (some e) rpos] pos' :: hds) ((none, mtc, fun _ _ => f) :: l)
  | named {x n : Str} {i : Nat} {cV : Value} {mtc : Str → Option Bool} {fx : Ex} {e : Expr} {np pos' rpos : Pos} {hds : List ExceptHandler} {l : List Hd1} (hi : X.N[i]? = some n) (hln : X.env.kindOf n = some .local) (hc : Names X x cV)
      (hsu : ∀ (a : Addr) (oe : Obj) (cls : Value) (d : Option Addr) (pn : List (Addr × Obj)), Zc cls d oe → (∃ vs, oe.data = .fields vs) → CEx (X.suite a ((a, oe) :: pn)) i a cls d e fx)
      (hm : ∀ c b, mtc c = some b → ∀ C, X.mg c = some C → PySem.W.exmOne X.K C cV = some b) (r : HdC X hds l) :
      HdC X (.ExceptHandler (some (.Name x np)) (some n) [.Return (some e) rpos] pos' :: hds) ((some i, mtc, fx) :: l)
section
variable {X : Cx} {W : WX} {body : List Stmt} {h₀ : ExceptHandler} {hds : List ExceptHandler} {l : List Hd1} {pos : Pos} {g : S}
variable [Tbs]
theorem HdC.list {hds : List ExceptHandler} {l : List Hd1} (h : HdC X hds l) : ∃ l' : List ClX1, HdL X hds l' ∧ ∀ (Z : Zn) (D : Ends) (e1 : Env) (σ : Sg) (H : Hp) (O : List Addr) (c : Str) (fl : Flds) (C : Value) (od : Option Addr), Rep X.K Z e1 σ H O → ExR X.mg X.K (hid O H) c fl C od →
    SOk X W Z D (hdGo e1 c fl l) → wList X.K W D l' C od σ H := by
  induction h with
  | nil => exact ⟨[], .nil, fun Z D e1 σ H O c fl C od r x q => q C od σ H O r x⟩
  | @plain x cV mtc f e np pos' rpos hds l hc hsu hm r ih =>
    obtain ⟨l', h1, h2⟩ := ih
    refine ⟨(cV, none, tsOf X e rpos) :: l', .plain hc (fun a oe cls d pn z1 z2 => ⟨fun pins s _ _ _ I h => h oe pn z1 z2 pins s I⟩) h1, fun Z D e1 σ H O c fl C od r x1 q => ?_⟩
    cases hmt : mtc c with
    | none =>
      have q' : SOk X W Z D (match mtc c with | some true => (match f e1 with | .ok d => .rt d | _ => .no) | some false => hdGo e1 c fl l | none => .no) := q
      rw [hmt] at q'; exact q'.elim
    | some b =>
      have q' : SOk X W Z D (match mtc c with | some true => (match f e1 with | .ok d => .rt d | _ => .no) | some false => hdGo e1 c fl l | none => .no) := q
      rw [hmt] at q'
      refine ⟨b, hm c b hmt C x1.1, fun eb a na oe pn' hz hff => ?_, fun eb => ?_⟩
      · subst eb
        refine wp_ss (pss_one (ps_ret pe_wp)) ?_
        refine hsu a oe C od pn' hz hff Z e1 σ H O _ r ?_
        have q2 : SOk X W Z D (match f e1 with | .ok d => .rt d | _ => .no) := q'
        cases hfx : f e1 with
        | ok d => rw [hfx] at q2; exact fun H2 e2 v hv => q2 v H2 (r.whole.trans e2) ((Ext.hid_sub r.sub).dp hv)
        | er _ _ => rw [hfx] at q2; exact q2.elim
        | no => rw [hfx] at q2; exact q2.elim
      · subst eb
        exact h2 Z D e1 σ H O c fl C od r x1 q'
  | @named x n i cV mtc fx e np pos' rpos hds l hi hln hc hsu hm r ih =>
    obtain ⟨l', h1, h2⟩ := ih
    refine ⟨(cV, some i, tsOf X e rpos) :: l', .named hi hln hc (fun a oe cls d pn z1 z2 => ⟨fun pins s _ _ _ I h => h oe pn z1 z2 pins s I⟩) h1, fun Z D e1 σ H O c fl C od r x1 q => ?_⟩
    cases hmt : mtc c with
    | none =>
      have q' : SOk X W Z D (match mtc c with | some true => if i < e1.length then (match fx c fl (e1.set i none) with | .ok d => .rt d | _ => .no) else .no | some false => hdGo e1 c fl l | none => .no) := q
      rw [hmt] at q'; exact q'.elim
    | some b =>
      have q' : SOk X W Z D (match mtc c with | some true => if i < e1.length then (match fx c fl (e1.set i none) with | .ok d => .rt d | _ => .no) else .no | some false => hdGo e1 c fl l | none => .no) := q
      rw [hmt] at q'
      refine ⟨b, hm c b hmt C x1.1, fun eb a na oe pn' hz hff => ?_, fun eb => ?_⟩
      · subst eb
        have q2 : SOk X W Z D (if i < e1.length then (match fx c fl (e1.set i none) with | .ok d => .rt d | _ => .no) else .no) := q'
        by_cases hl : i < e1.length
        · rw [if_pos hl] at q2
          refine wp_ss (pss_one (ps_ret pe_wp)) ?_
          have r2 := r.setNone i (some (.ref a))
          refine hsu a oe C od pn' hz hff Z _ _ H O _ c fl r2 (List.getElem?_set_self (by rw [← r.len]; exact hl)) x1 ?_
          cases hfx : fx c fl (e1.set i none) with
          | ok d => rw [hfx] at q2; exact fun H2 e2 v hv => q2 v H2 (r.whole.trans e2) ((Ext.hid_sub r.sub).dp hv)
          | er _ _ => rw [hfx] at q2; exact q2.elim
          | no => rw [hfx] at q2; exact q2.elim
        · rw [if_neg hl] at q2
          exact q2.elim
      · subst eb
        exact h2 Z D e1 σ H O c fl C od r x1 q'
end
end PD
set_option Elab.async false
set_option linter.all false
set_option maxRecDepth 100000
set_option maxHeartbeats 4000000
namespace PD
open PySem PySem.Spec PyProof.Rows L2
section
variable {X : Cx} {i : Nat} {a : Addr} {cls : Value} {od : Option Addr} {e e1 e2 : Expr} {es rest : List Expr} {f : E} {fa fb : Ex} {ga : Str → Flds → Env → RO (List PyData)} {pos p : Pos} {x : Str} {T : String} {bi : List PyData → Option PyData}
variable [Tbs] [Zp]
end
section
variable {X : Cx} {i : Option Nat} {st : Stmt} {g : S2}
variable [Tbs] [Zp]
end
end PD
set_option Elab.async false
set_option linter.all false
set_option maxRecDepth 100000
set_option maxHeartbeats 4000000
namespace PD
open PySem PySem.Spec PyProof.Rows L2
section
variable {X : Cx} {e : Expr} {f2 : E2} {pos : Pos}
variable [Tbs] [Zp]
end
end PD
set_option Elab.async false
set_option linter.all false
set_option maxRecDepth 100000
set_option maxHeartbeats 4000000
namespace PD
open PySem PySem.Spec PyProof.Rows L2
/-! ### range(a, b, c) -/
section
variable {X : Cx} {W : WX} {tg a b c e elt : Expr} {ifs : List Expr} {scope : Scope} {own : List (Str × Nat)} {ga : A} {f : E} {g : G} {t : T} {is : List Nat} {p p1 p2 p3 p4 p5 p6 p7 pos : Pos} {Z : Zn} {env : Env} {σ : Sg} {H : Hp} {O : List Addr} {Q : VK}
variable [Tbs] [Zp]
end
end PD
set_option Elab.async false
set_option linter.all false
set_option maxRecDepth 100000
set_option maxHeartbeats 4000000
namespace PD
open PySem PySem.Spec PyProof.Rows L2
/-! ### a call as a statement, its arguments with effects; it may raise -/
section
variable [Tbs] {X : Cx} {W : WX} {k kk n : Nat} {x : Str} {p pos pos2 : Pos} {e : Expr} {es : List Expr} {ga : A2}
end
section
variable {n : Nat} {F : List PyData → RO PyData} {ga : A2} {env e1 : Env} {ds : List PyData}
end
section
variable {f2 : E2} {env : Env}
end
end PD
set_option Elab.async false
set_option linter.all false
set_option maxRecDepth 100000
set_option maxHeartbeats 4000000
namespace PD
open PySem PySem.Spec PyProof.Rows L2
/-! ### repr of a tuple, where no repr is under way -/
def shows (d : PyData) : Bool :=
  isDisplay d && d.showable && !d.hasDict && decide (d.depth ≤ 40) && decide (d.shown.length ≤ sizeLine)
structure ShowsD (d : PyData) : Prop where
  disp : isDisplay d = true
  can : d.showable = true
  nod : d.hasDict = false
  deep : d.depth ≤ 40
  len : d.shown.length ≤ sizeLine
section
variable {X : Cx} {W : WX} {e : Expr} {es : List Expr} {g : A} {pos p : Pos}
variable [Tbs] [Zp]
end
/-! ### a def at the caller's own frame -/
def TopOk (P : Program) (w : World) (K : PySem.W.Frag) (mg : Str → Option Value) (base : Heap) (f : Addr) (fd : FuncData) (ps : List Str) (sp : Sp) : Prop :=
  ∀ (s : Shared) (H : Hp) (args : Args) (us : List Value) (vs : List V) (Q : VK) (E : XK),
    Env0 P w K mg base callerA [] s H → BindsTo s fd args (ps.zip us) → Vals vs us → sp vs H Q E →
    codeAny (model P w) callerA (.call (.ref f) args) (CR (L2.CX P w) [] P w H s Q E) s
theorem TopOk.imp {P : Program} {w : World} {K : PySem.W.Frag} {mg : Str → Option Value} {base : Heap} {f : Addr} {fd : FuncData} {ps : List Str} {sp sp' : Sp}
    (T : TopOk P w K mg base f fd ps sp) (h : ∀ vs H Q E, sp' vs H Q E → sp vs H Q E) : TopOk P w K mg base f fd ps sp' :=
  fun s H args us vs Q E e0 hb hv q => T s H args us vs Q E e0 hb hv (h vs H Q E q)
section
variable [Tbs] {P : Program} {w : World} {K : PySem.W.Frag} {mg : Str → Option Value} {base : Heap}
end
end PD
set_option Elab.async false
set_option linter.all false
set_option maxRecDepth 100000
set_option maxHeartbeats 4000000
namespace PD
open PySem PySem.Spec PyProof.Rows L2
/-! ### the end, where the law's own def is read at the caller's frame -/
section
variable {T : List Addr} {free : Bool} {a b : Addr} {o : Obj} {xs : List V}
end
end PD
set_option Elab.async false
set_option linter.all false
set_option maxRecDepth 100000
set_option maxHeartbeats 4000000
namespace PD
open PySem PySem.Spec PyProof.Rows L2
section
variable {X : Cx} {i : Nat} {a : Addr} {cls : Value} {od : Option Addr} {c1 c2 e1 e2 : Expr} {f1 f2 fa fb : Ex} {pos p p2 : Pos}
variable [Tbs] [Zp]
end
end PD
set_option Elab.async false
set_option linter.all false
set_option maxRecDepth 100000
set_option maxHeartbeats 4000000
namespace PD
open PySem PySem.Spec PyProof.Rows L2
/-! ### sum and max of a list of ints -/
section
variable {X : Cx} {W : WX} {e : Expr} {es : List Expr} {g : A} {pos p : Pos}
variable [Tbs] [Zp]
end
end PD
set_option Elab.async false
set_option linter.all false
set_option maxRecDepth 100000
set_option maxHeartbeats 4000000
namespace PD
open PySem PySem.Spec PyProof.Rows L2
/-! ### xs.extend(ys), ys a list or a tuple that is kept -/
section
variable (l b : Addr) (xs ys : Array Value) (n m : Nat) (dd : Option Addr) (sl : Array (Option Value))
end
section
variable {X : Cx}
end
section
variable {X : Cx} {W : WX} {i : Nat} {x : Str} {px apos cpos pos : Pos} {e : Expr} {f : E}
variable [Tbs] [Zp]
end
end PD
set_option Elab.async false
set_option linter.all false
set_option maxRecDepth 100000
set_option maxHeartbeats 4000000
namespace PD
open PySem PySem.Spec PyProof.Rows L2
/-! ### list(zip(a, b)) of two tuples -/
section
variable {prog : Program} {w : World} {A : Around} {E : Value → Shared → Prop} {s : Shared}
/-- the zip and its parts after i turns, S the list that takes its tuples -/
structure LzSt (z TI TO i1 i2 l1 l2 S : Addr) (xs ys : Array Value) (i : Nat) (h : Heap) : Prop where
  ti : IsPair h TI (.ref i1) (.ref i2)
  a1 : h.IsTupleIter i1 l1 i
  a2 : h.IsTupleIter i2 l2 i
  t1 : h.IsTuple l1 xs
  t2 : h.IsTuple l2 ys
  zz : (IsZip h z TI TO .none ∧ ∃ a b, IsPair h TO a b) ∨ ∃ T f oT, IsZipHeld h z TI TO T f ∧ h.get? T = some oT ∧ T ≠ z ∧ T ≠ i1 ∧ T ≠ i2 ∧ T ≠ S
/-- S lies apart from what the zip reads -/
structure LzApart (z TI TO i1 i2 l1 l2 S : Addr) : Prop where
  d : ZipApart z TI TO i1 i2 l1 l2
  sz : z < S
  sTI : TI < S
  sTO : TO < S
  s1 : i1 < S
  s2 : i2 < S
  sl1 : l1 < S
  sl2 : l2 < S
section
variable {z TI TO i1 i2 l1 l2 S : Addr} {xs ys : Array Value} {i : Nat}
theorem LzSt.keep {h h' : Heap} (D : LzApart z TI TO i1 i2 l1 l2 S) (st : LzSt z TI TO i1 i2 l1 l2 S xs ys i h) (k : ∀ b o, b ≠ S → h.get? b = some o → h'.get? b = some o) : LzSt z TI TO i1 i2 l1 l2 S xs ys i h' where
  ti := k _ _ (Nat.ne_of_lt D.sTI) st.ti
  a1 := st.a1.at fun o e => k _ o (Nat.ne_of_lt D.s1) e
  a2 := st.a2.at fun o e => k _ o (Nat.ne_of_lt D.s2) e
  t1 := st.t1.at fun o e => k _ o (Nat.ne_of_lt D.sl1) e
  t2 := st.t2.at fun o e => k _ o (Nat.ne_of_lt D.sl2) e
  zz := by
    rcases st.zz with ⟨hz, a, b, hTO⟩ | ⟨T, f, oT, hz, hT, r1, r2, r3, r4⟩
    · exact .inl ⟨k _ _ (Nat.ne_of_lt D.sz) hz, a, b, k _ _ (Nat.ne_of_lt D.sTO) hTO⟩
    · exact .inr ⟨T, f, oT, k _ _ (Nat.ne_of_lt D.sz) hz, k _ _ r4 hT, r1, r2, r3, r4⟩
end
/-- the tuples made so far, all above S -/
structure LzG (xs ys : Array Value) (S : Addr) (h : Heap) (as : List Addr) : Prop where
  rise : as.Pairwise (· < ·)
  above : ∀ a ∈ as, S < a
  there : ∀ a ∈ as, a < h.objs.size
  pairs : ∀ (j : Nat) a, as[j]? = some a → ∃ x y, xs[j]? = some x ∧ ys[j]? = some y ∧ IsPair h a x y
end
/-! ### the same in the layer -/
section
variable {X : Cx}
variable {e e2 : Expr} {ta : TA} {p pz zpos pos : Pos}
end
section
variable {X : Cx} {W : WX} {a b : Expr} {fa fb : E} {p pz zpos pos : Pos}
variable [Tbs] [Zp]
end
end PD
set_option Elab.async false
set_option linter.all false
set_option maxRecDepth 100000
set_option maxHeartbeats 4000000
namespace PD
open PySem PySem.Spec PyProof.Rows L2
/-! ### max of a list of ints -/
section
variable {X : Cx} {W : WX} {e : Expr} {es : List Expr} {g : A} {pos p : Pos}
variable [Tbs] [Zp]
end
end PD
set_option Elab.async false
set_option linter.all false
set_option maxRecDepth 100000
set_option maxHeartbeats 4000000
namespace PD
open PySem PySem.Spec PyProof.Rows L2
/-! ### calls of defs without arguments -/
section
variable {X : Cx} {W : WX} {k kk n : Nat} {f : Addr} {fd : FuncData} {ps : List Str} {F : List PyData → RO PyData} {x : Str} {p pos : Pos}
variable [Tbs] [Zp]
theorem ce_call0 (G : FnOk X.prog X.w X.K X.mg X.base (L2.CX X.prog X.w) k f fd ps (spD X.K X.mg n F)) (hr : Room k X.A) (tk : Takes X W) (hg : Gl X x) (hm : X.mg x = some (.ref f)) (hk : PySem.W.keepIn X.K (.ref f) = true) (hb : Binds X.K fd ps [])
    (hdb : (x == ("__debug__" : Str)) = false := by decide) :
    CE X W (.Call (.Name x p) [] [] pos) (eCall n F aNil) := fun Z env σ H O Q r q => by
  refine wp_e (t := fun σ H Q => spD X.K X.mg n F [] H Q (WE W σ)) ⟨fun pins s σ H Q I h => ?_⟩ ?_
  · refine wpAny_Call_Name_kw (ld_glob I hg hm ?_ hdb)
    refine PySem.W.callWith_K0 I.kIn hk ?_
    exact run_fnSD (dvs := []) (ds := []) G hr hb .nil (passAt tk σ) I .nil h
  · exact sp_of r .nil q
theorem c_call0 (G : Dfn X.prog X.w X.K X.mg X.base x k n F) (hr : Room kk X.A) (hk : k ≤ kk) (tk : Takes X W) (hg : Gl X x) (hdb : (x == ("__debug__" : Str)) = false := by decide) :
    CE X W (.Call (.Name x p) [] [] pos) (eCall n F aNil) := by
  obtain ⟨f, fd, ps, G, hm, hkp, hb⟩ := G
  exact ce_call0 G (hr.mono hk) tk hg hm hkp hb hdb
end
end PD
set_option Elab.async false
set_option linter.all false
set_option maxRecDepth 100000
set_option maxHeartbeats 4000000
namespace PD
open PySem PySem.Spec PyProof.Rows L2
/-! ### tuple(range(a)), tuple(range(a, b)) -/
section
variable {X : Cx} {W : WX} {a b : Expr} {f g : E} {p p2 pos pos2 : Pos}
variable [Tbs] [Zp]
end
end PD
set_option Elab.async false
set_option linter.all false
set_option maxRecDepth 100000
set_option maxHeartbeats 4000000
namespace PD
open PySem PySem.Spec PyProof.Rows L2
/-! ### an own list gets another name, and the old one is not read any more -/
section
variable {X : Cx} {W : WX} {Z : Zn} {env : Env} {σ : Sg} {H : Hp} {O : List Addr}
variable [Tbs] [Zp]
end
end PD
set_option Elab.async false
set_option linter.all false
set_option maxRecDepth 100000
set_option maxHeartbeats 4000000
namespace PD
open PySem PySem.Spec PyProof.Rows L2
/-! ### zip of three tuples -/
section
variable {X : Cx} {W : WX} {a b c e : Expr} {elts : List Expr} {fa fb fc : E} {pos p tpos : Pos} {kk : Nat} {σ : Sg} {H : Hp} {R : It → Hp → Prop} {p1 p2 p3 : Addr} {vs us ws : List V} {ta : TA}
variable [Tbs] [Zp]
end
section
variable {X : Cx} {W : WX} {a b c e : Expr} {elts : List Expr} {fa fb fc : E} {pos p tpos : Pos} {kk : Nat}
variable [Tbs] [Zp]
end
end PD
set_option Elab.async false
set_option linter.all false
set_option maxRecDepth 100000
set_option maxHeartbeats 4000000
namespace PD
open PySem PySem.Spec PyProof.Rows L2
/-! ### calls within an except suite, of defs that don't raise (nothing is known of the handled exception) -/
section
variable {X : Cx} {i : Nat} {a : Addr} {oe : Obj} {pn : List (Addr × Obj)} {cls : Value} {od : Option Addr} {x : Str} {pos p : Pos} {e : Expr} {es : List Expr} {k n kk : Nat} {F : List PyData → RO PyData} {ga : Str → Flds → Env → RO (List PyData)}
variable [Tbs] [Zp]
theorem CAx.go {β : Type} {g : List PyData → RO β} {P : β → Hp → Prop} {Z : Zn} {env : Env} {σ : Sg} {H : Hp} {O : List Addr} {c : Str} {fl : Flds} {Q : List V → Hp → Prop} (h : CAx X i a cls od es ga) (r : Rep X.K Z env σ H O) (hi : σ[i]? = some (some (.ref a))) (x : ExR X.mg X.K (hid O H) c fl cls od) (q : ROk X WN σ O P H (ga c fl env >>= g))
    (k : ∀ ds vs H1, Ext H H1 → DpAll X.K (hid O H1) vs ds → Rep X.K Z env σ H1 O → ROk X WN σ O P H1 (g ds) → Q vs H1) : wpA X es σ H Q :=
  h Z env σ H O Q c fl r hi x (q.then fun ds H1 _ e1 q1 vs hv => k ds vs H1 e1 hv (r.mono e1) q1)
end
/-! ### a comprehension into a slot, within a def that changes its caller's list -/
section
variable {X : Cx} {W : WX} {tg iter elt : Expr} {ifs : List Expr} {scope : Scope} {own : List (Str × Nat)} {fs : Env → RO (List PyData)} {gg : G} {is : List Nat} {tt : T} {f : E} {pos : Pos}
end
/-! ### x in a tuple or a list -/
section
variable {X : Cx}
variable [Tbs] [Zp]
end
end PD
set_option Elab.async false
set_option linter.all false
set_option maxRecDepth 100000
set_option maxHeartbeats 4000000
namespace PD
open PySem PySem.Spec PyProof.Rows L2
/-! ### instances with fields that nobody changes -/
abbrev Fds := List (Str × PyData)
structure ObC (K : PySem.W.Frag) (c : Str) (C : Addr) : Prop where
  ns : PySem.W.nsIn K mainGlobals c = some (some (.ref C))
  cl : Cls K C
section
variable {X : Cx} {W : WX} {i : Nat} {n c f x : Str} {C : Addr} {p pos p1 p2 : Pos} {e : Expr} {es : List Expr} {Z : Zn} {env : Env} {σ : Sg} {H : Hp} {O : List Addr} {k m kk : Nat}
variable [Tbs] [Zp]
end
/-! ### defs whose first parameter is such an instance -/
section
variable {P : Program} {w : World} {K : PySem.W.Frag} {mg : Str → Option Value} {base : Heap}
variable [Tbs]
end
section
variable {X : Cx} {W : WX} {i : Nat} {v c x : Str} {p pos p1 : Pos} {e : Expr} {es : List Expr} {k n kk : Nat} {F : Fds → List PyData → RO PyData} {ga : A}
variable [Tbs] [Zp]
end
end PD
set_option Elab.async false
set_option linter.all false
set_option maxRecDepth 100000
set_option maxHeartbeats 4000000
namespace PD
open PySem PySem.Spec PyProof.Rows L2
/-! ### an instance is made: an __init__ that stores its four arguments -/
section
variable {X : Cx} {W : WX} {i : Nat} {v c x f1 f2 f3 f4 : Str} {C f : Addr} {fd : FuncData} {ps : List Str} {p pos pos2 pos' : Pos} {e : Expr} {es : List Expr} {k kk : Nat} {ga : A}
variable [Tbs] [Zp]
end
end PD
set_option Elab.async false
set_option linter.all false
set_option maxRecDepth 100000
set_option maxHeartbeats 4000000
namespace PD
open PySem PySem.Spec PyProof.Rows L2
/-! ### shifts, bitwise and -/
section
variable {X : Cx}
variable [Tbs] [Zp]
end
end PD
set_option Elab.async false
set_option linter.all false
set_option maxRecDepth 100000
set_option maxHeartbeats 4000000
namespace PD
open PySem PySem.Spec PyProof.Rows L2
/-! ### own lists lent to a def that reads them and gives data without lists -/
mutual
def noL : PyData → Bool
  | .list _ => false
  | .tuple ds => noLs ds
  | _ => true
def noLs : List PyData → Bool
  | [] => true
  | d :: ds => noL d && noLs ds
end
theorem hid_tup {O O' : List Addr} {H : Hp} {a : Addr} {u : HO} (l : Lv O H) (n : ∀ xs, u ≠ .lst xs) (h : hid O' H a = some u) : hid O H a = some u := by
  have h' := (hid_some h).2
  rw [hid_out (fun z => by
    obtain ⟨xs, e⟩ := l a z
    rw [h'] at e
    cases e
    exact n xs rfl)]
  exact h'
theorem st_move {K : PySem.W.Frag} {O O' : List Addr} {H : Hp} {a : Addr} {xs : List V} (l : Lv O H) (h : SqT K (hid O' H) a xs) : SqT K (hid O H) a xs := by
  rcases h with (h | ⟨o, h⟩) | h
  · exact .inl (.inl (hid_tup l (fun _ z => by cases z) h))
  · exact .inl (.inr ⟨o, hid_tup l (fun _ z => by cases z) h⟩)
  · exact .inr h
mutual
theorem dp_move {K : PySem.W.Frag} {O O' : List Addr} {H : Hp} (l : Lv O H) : ∀ {v : V} {d : PyData}, noL d = true → Dp K (hid O' H) v d → Dp K (hid O H) v d
  | _, _, _, .non => .non
  | _, _, _, .bl b => .bl b
  | _, _, _, .int i => .int i
  | _, _, _, .str x => .str x
  | _, _, n, .lst h a => by simp [noL] at n
  | _, _, n, .tup h a => .tup (st_move l h) (dpa_move l (by simpa [noL] using n) a)
theorem dpa_move {K : PySem.W.Frag} {O O' : List Addr} {H : Hp} (l : Lv O H) : ∀ {vs : List V} {ds : List PyData}, noLs ds = true → DpAll K (hid O' H) vs ds → DpAll K (hid O H) vs ds
  | _, _, _, .nil => .nil
  | _, _, n, .cons h a => by
    simp only [noLs, Bool.and_eq_true] at n
    exact .cons (dp_move l n.1 h) (dpa_move l n.2 a)
end
section
variable {X : Cx} {W : WX} {x : Str} {p pos : Pos} {e : Expr} {es : List Expr} {f : E} {g ga : A} {k n kk : Nat} {F : List PyData → RO PyData}
variable [Tbs] [Zp]
end
end PD
set_option Elab.async false
set_option linter.all false
set_option maxRecDepth 100000
set_option maxHeartbeats 4000000
namespace PD
open PySem PySem.Spec PyProof.Rows L2
/-! ### max, min over arguments with effects -/
section
variable {X : Cx} {W : WX} {x : Str} {p pos : Pos} {e : Expr} {es : List Expr} {ga : A2} {id : String} {bi : List PyData → Option PyData}
variable [Tbs] [Zp]
end
end PD
set_option Elab.async false
set_option linter.all false
set_option maxRecDepth 100000
set_option maxHeartbeats 4000000
namespace PD
open PySem PySem.Spec PyProof.Rows L2
/-! ### a new list handed to a def that changes it -/
theorem Rep.same [Tbs] [Zp] {K : PySem.W.Frag} {Z : Zn} {H H' : Hp} {env : Env} {σ : Sg} {O : List Addr} (r : Rep K Z env σ H O) (E : Ext (hid O H) (hid O H')) (kp : ∀ a ∈ O, H' a = H a) (tb : ∀ P ∈ Tbs.l, GxR.TabG H' P) : Rep K Z env σ H' O := by
  refine ⟨r.ex.trans E, r.sub, fun a ha => by rw [kp a (r.sub a ha)]; exact r.kp a ha, r.len, fun j s e => ?_, r.nd, fun a ha => by rw [kp a ha]; exact r.lv a ha, tb, r.zp⟩
  obtain ⟨v, h1, h2⟩ := r.sl j s e
  refine ⟨v, h1, ?_⟩
  cases s with
  | fz d => exact E.dp h2
  | ob c fs => exact E.ob h2
  | me => exact h2
  | own ds =>
    obtain ⟨a, ws, e1, ha, hc, h3, h4⟩ := h2
    exact ⟨a, ws, e1, ha, hc, by rw [kp a ha]; exact h3, E.dpa h4⟩
section
variable {X : Cx} {W : WX} {x : Str} {p pos : Pos} {e : Expr} {es : List Expr} {fl ga : A} {k n kk : Nat} {F : List PyData → List PyData → RO (PyData × List PyData)}
variable [Tbs] [Zp]
end
end PD
set_option Elab.async false
set_option linter.all false
set_option maxRecDepth 100000
set_option maxHeartbeats 4000000
namespace PD
open PySem PySem.Spec PyProof.Rows L2
/-! ### constants of the module: data of any shape -/
/-- a value that K holds -/
def KD (K : PySem.W.Frag) (u : Value) (d : PyData) : Prop := ∃ v, RelV v u ∧ ∀ H, Dp K H v d
inductive KDs (K : PySem.W.Frag) : List Value → List PyData → Prop
  | nil : KDs K [] []
  | cons {u : Value} {us : List Value} {d : PyData} {ds : List PyData} : KD K u d → KDs K us ds → KDs K (u :: us) (d :: ds)
end PD
set_option Elab.async false
set_option linter.all false
set_option maxRecDepth 100000
set_option maxHeartbeats 4000000
namespace PD
open PySem PySem.Spec PyProof.Rows L2
/-! ### zip of a str and a tuple -/
section
variable {X : Cx} {W : WX} {a b e : Expr} {elts : List Expr} {fa fb : E} {pos p tpos : Pos} {kk : Nat} {σ : Sg} {H : Hp} {R : It → Hp → Prop} {p2 : Addr} {us : List V} {t : Str}
end
section
variable {X : Cx} {W : WX} {a b e : Expr} {elts : List Expr} {fa fb : E} {pos p tpos : Pos} {kk : Nat}
variable [Tbs] [Zp]
end
end PD
set_option Elab.async false
set_option linter.all false
set_option maxRecDepth 100000
set_option maxHeartbeats 4000000
namespace PD
open PySem PySem.Spec PyProof.Rows L2
/-! ### expressions that give an instance, and defs that do -/
/-- what a def that gives an instance promises -/
inductive SOO where
  | rt (fs : Fds)
  | er (e : Env) (c : Str) (fl : Flds)
  | no
abbrev SJ := Env → SOO
section
variable [Tbs]
variable {X : Cx} {W : WX} {c : Str} {e : Expr} {es : List Expr} {st : Stmt} {rest : List Stmt} {g : S} {h : SJ} {f : Env → RO Fds} {pos p p1 : Pos} {n x : Str} {i : Nat}
section
variable {C f0 : Addr} {f1 f2 f3 f4 : Str} {fd : FuncData} {ps : List Str} {k kk m : Nat} {ga : A}
end
section
variable {k kk m : Nat} {ga : A} {F : List PyData → RO Fds}
end
/-! ### statements -/
end
section
variable {P : Program} {w : World} {K : PySem.W.Frag} {mg : Str → Option Value} {base : Heap}
variable [Tbs]
end
section
variable {P : Program} {w : World} {K : PySem.W.Frag} {mg : Str → Option Value} {base : Heap}
variable [Tbs]
end
/-! ### range(a, b, c) with effects -/
section
variable {X : Cx} {tg a b c : Expr} {pos p : Pos} {ga : A2}
variable [Tbs]
end
/-! ### calls with an instance made on the way -/
section
variable {X : Cx} {W : WX} {c x : Str} {p pos : Pos} {o e : Expr} {es : List Expr} {k n kk : Nat} {F : Fds → List PyData → RO PyData} {ga : A} {fj : Env → RO Fds}
variable [Tbs]
end
/-! ### list(range(a)), list(range(a, b)) -/
section
variable {X : Cx} {W : WX} {a b : Expr} {f g : E} {p p2 pos pos2 : Pos}
variable [Tbs]
end
end PD
set_option Elab.async false
set_option linter.all false
set_option maxRecDepth 100000
set_option maxHeartbeats 4000000
namespace PD
open PySem PySem.Spec PyProof.Rows L2
/-! ### x = [.. for .. in ..] with effects -/
section
variable [Tbs] [Zp]
variable {X : Cx} {W : WX} {tg iter elt : Expr} {scope : Scope} {own : List (Str × Nat)} {pos : Pos} {fs : A} {g : G} {is : List Nat} {f : E2}
variable [Tbs] [Zp]
end
end PD
set_option Elab.async false
set_option linter.all false
set_option maxRecDepth 100000
set_option maxHeartbeats 4000000
namespace PD
open PySem PySem.Spec PyProof.Rows L2
/-! ### tests and suites over the exception -/
section
variable {X : Cx} {i : Nat} {a : Addr} {cls : Value} {od : Option Addr} {e c1 e1 e2 b : Expr} {rest : List Expr} {f : E} {fa fb : Ex} {pos p : Pos} {s1 s2 : List Stmt}
variable [Tbs] [Zp]
abbrev Tx := Str → Flds → T
def CTx (X : Cx) (i : Nat) (a : Addr) (cls : Value) (od : Option Addr) (e : Expr) (ft : Tx) : Prop := ∀ Z env σ H O Q c fl, Rep X.K Z env σ H O → σ[i]? = some (some (.ref a)) → ExR X.mg X.K (hid O H) c fl cls od → ROk X WN σ O Q H (ft c fl env) → wpT X e σ H Q
variable {ft fu : Tx}
theorem CTx.go {β : Type} {Z : Zn} {env : Env} {σ : Sg} {H : Hp} {O : List Addr} {g : Bool → RO β} {P : β → Hp → Prop} {Q : Bool → Hp → Prop} {c : Str} {fl : Flds} (h : CTx X i a cls od e ft) (r : Rep X.K Z env σ H O) (hi : σ[i]? = some (some (.ref a))) (x : ExR X.mg X.K (hid O H) c fl cls od) (q : ROk X WN σ O P H (ft c fl env >>= g))
    (k : ∀ d H1, Ext H H1 → Rep X.K Z env σ H1 O → ExR X.mg X.K (hid O H1) c fl cls od → ROk X WN σ O P H1 (g d) → Q d H1) : wpT X e σ H Q :=
  h Z env σ H O Q c fl r hi x (q.then fun d H1 _ e1 q1 => k d H1 e1 (r.mono e1) (x.mono (e1.hid O)) q1)
end
section
variable {X : Cx} {W : WX} {x n : Str} {cV : Value} {i : Nat} {st0 : Stmt} {body sts : List Stmt} {np pos pos' rpos : Pos} {g : S} {mtc : Str → Option Bool} {fx : Ex}
variable [Tbs] [Zp]
end
/-! ### isinstance in a suite, a list of the frame's own copied, an effect set at an index -/
section
variable {X : Cx} {i : Nat} {a : Addr} {cls : Value} {od : Option Addr} {e : Expr} {fa : Ex} {pos p p2 : Pos} {T : String}
variable [Tbs] [Zp]
end
section
variable {X : Cx} {W : WX} {p : Pos} {x : Str} {pos : Pos}
variable [Tbs] [Zp]
end
section
variable {X : Cx} {W : WX} {e : Expr} {f2 : E2} {fb : E} {p pos : Pos}
variable [Tbs] [Zp]
end
end PD
set_option Elab.async false
set_option linter.all false
set_option maxRecDepth 100000
set_option maxHeartbeats 4000000
namespace PD
open PySem PySem.Spec PyProof.Rows L2
/-! ### for .. in a list of instances that is made here -/
inductive ObAll (K : PySem.W.Frag) (H : Hp) (c : Str) : List V → List Fds → Prop where
  | nil : ObAll K H c [] []
  | cons {v : V} {fs : Fds} {vs : List V} {xs : List Fds} : ObR K H v c fs → ObAll K H c vs xs → ObAll K H c (v :: vs) (fs :: xs)
section
variable {K : PySem.W.Frag} {H H' : Hp} {O : List Addr} {c : Str}
theorem ObAll.ext (e : Ext H H') : ∀ {vs : List V} {xs : List Fds}, ObAll K H c vs xs → ObAll K H' c vs xs
  | _, _, .nil => .nil
  | _, _, .cons h t => .cons (e.ob h) (ObAll.ext e t)
theorem ObAll.len : ∀ {vs : List V} {xs : List Fds}, ObAll K H c vs xs → vs.length = xs.length
  | _, _, .nil => rfl
  | _, _, .cons h t => congrArg Nat.succ (ObAll.len t)
theorem ObAll.get : ∀ {vs : List V} {xs : List Fds} {i : Nat} {fs : Fds}, ObAll K H c vs xs → xs[i]? = some fs → ∃ v, vs[i]? = some v ∧ ObR K H v c fs
  | _, _, i, fs, .nil, e => by simp at e
  | _, _, 0, fs, .cons h t, e => by
    cases e
    exact ⟨_, rfl, h⟩
  | _, _, i + 1, fs, .cons h t, e => by
    obtain ⟨w, h1, h2⟩ := ObAll.get (i := i) t (by simpa using e)
    exact ⟨w, by simpa using h1, h2⟩
structure WalkJ (K : PySem.W.Frag) (O : List Addr) (H : Hp) (J : It) (c : Str) (ds : List Fds) : Prop where
  go : ∀ i d O1 H1, ds[i]? = some d → Ext (hid O H) (hid O1 H1) → Lv O1 H1 → J.go i H1 ∧ ∀ x H2, J.yld i H1 x H2 → Ext H1 H2 ∧ ObR K (hid O1 H2) x c d
  stop : ∀ i O1 H1, ds.length = i → Ext (hid O H) (hid O1 H1) → J.stop i H1
end
abbrev AJ := Env → RO (List Fds)
section
variable {X : Cx} {W : WX} {e tg : Expr} {es : List Expr} {c x : Str} {f : Env → RO Fds} {g : AJ} {pos p : Pos} {body : S} {sts : List Stmt}
variable [Tbs]
end
end PD
set_option Elab.async false
set_option linter.all false
set_option maxRecDepth 100000
set_option maxHeartbeats 4000000
namespace PD
open PySem PySem.Spec PyProof.Rows L2
/-! ### an instance of an own class with one int and five lists that its methods change -/
inductive Fi where
  | sc | ro | be | nn | ou
structure TabS where
  sc : List PyData
  ro : List PyData
  be : List PyData
  nn : List PyData
  ou : List PyData
def TabS.get (ts : TabS) : Fi → List PyData
  | .sc => ts.sc
  | .ro => ts.ro
  | .be => ts.be
  | .nn => ts.nn
  | .ou => ts.ou
def TabS.put (ts : TabS) (f : Fi) (xs : List PyData) : TabS := match f with
  | .sc => { ts with sc := xs }
  | .ro => { ts with ro := xs }
  | .be => { ts with be := xs }
  | .nn => { ts with nn := xs }
  | .ou => { ts with ou := xs }
def Fi.nm : Fi → Str
  | .sc => "scales"
  | .ro => "rows"
  | .be => "belows"
  | .nn => "inner"
  | .ou => "outer"
structure Tb where
  o : Addr
  C : Addr
  dx : Addr
  n : Int
  p : Fi → Addr
  inj : ∀ f g, p f = p g → f = g
def Tb.fvs (T : Tb) : List (Str × V) := [("size", .int T.n), ("scales", .ref (T.p .sc)), ("rows", .ref (T.p .ro)), ("belows", .ref (T.p .be)), ("inner", .ref (T.p .nn)), ("outer", .ref (T.p .ou))]
def tabOk (K : PySem.W.Frag) (T : Tb) (ts : TabS) (H : Hp) (Oc : List Addr) : Prop := hid Oc H T.o = some (.ins T.C T.dx T.fvs) ∧ ∀ f, T.p f ∈ Oc ∧ ∃ vs, H (T.p f) = some (.lst vs) ∧ DpAll K (hid Oc H) vs (ts.get f)
theorem tabOk.ext {K : PySem.W.Frag} {T : Tb} {ts : TabS} {H H' : Hp} {Oc Oc' : List Addr} (h : tabOk K T ts H Oc) (k : ∀ a ∈ Oc, a ∈ Oc' ∧ H' a = H a) (e : Ext (hid Oc H) (hid Oc' H')) : tabOk K T ts H' Oc' :=
  ⟨e.at h.1 (fun _ z => by cases z), fun f => by
    obtain ⟨h1, vs, h2, h3⟩ := h.2 f
    obtain ⟨k1, k2⟩ := k _ h1
    exact ⟨k1, vs, by rw [k2]; exact h2, e.dpa h3⟩⟩
@[reducible] def tabZ (K : PySem.W.Frag) (T : Tb) (ts : TabS) : Zp := ⟨some T.o, tabOk K T ts, fun h k e => h.ext k e⟩
/-- the facts of the class -/
structure TabK (K : PySem.W.Frag) (C : Addr) : Prop where
  cl : Cls K C
  na : ∀ f : Fi, NoAttr K C f.nm
  nz : NoAttr K C "size"
def gMe (env : Env) (i : Nat) : RO Unit := match env[i]? with
  | some (some .me) => .ok ()
  | _ => .no
theorem gMe_ok {env : Env} {i : Nat} {u : Unit} (h : gMe env i = .ok u) : env[i]? = some (some .me) := by
  unfold gMe at h
  split at h
  · assumption
  · cases h
theorem gMe_cases (env : Env) (i : Nat) : gMe env i = .ok () ∨ gMe env i = .no := by
  unfold gMe
  split
  · exact .inl rfl
  · exact .inr rfl
def eTix (xs : List PyData) (i : Nat) (fb : E) : E := fun env => gMe env i >>= fun _ => fb env >>= fun y => ofO (dIx (.list xs) y)
def eTln (xs : List PyData) (i : Nat) : E := fun env => gMe env i >>= fun _ => .ok (.int xs.length)
section
variable {X : Cx} {W : WX} {i : Nat} {n x fn : Str} {T : Tb} {ts : TabS} {f : Fi} {p pos pos' p1 p2 : Pos} {b : Expr} {fb : E} {Z : Zn} {env : Env} {σ : Sg} {H : Hp} {O : List Addr}
variable [Tbs]
theorem me_at (r : @Rep _ (tabZ X.K T ts) X.K Z env σ H O) (he : env[i]? = some (some .me)) : σ[i]? = some (some (.ref T.o)) ∧ H T.o = some (.ins T.C T.dx T.fvs) := by
  letI := tabZ X.K T ts
  obtain ⟨v, h1, h2⟩ := r.sl i _ he
  obtain ⟨a0, h4, h5⟩ := h2
  have h3 : v = .ref T.o := by cases h4; exact h5
  rw [h3] at h1
  have z := r.zp.1
  rcases r.ex _ _ z with z | ⟨_, _, q, _⟩
  · exact ⟨h1, (hid_some z).2⟩
  · cases q
theorem tab_now (r : @Rep _ (tabZ X.K T ts) X.K Z env σ H O) : tabOk X.K T ts H O := by
  letI := tabZ X.K T ts
  exact tabOk.ext r.zp (fun a ha => ⟨r.sub a ha, r.kp a ha⟩) r.ex
end
/-! ### methods that change nothing -/
abbrev FT := Int → TabS → List PyData → RO PyData
def startT (m : Nat) (ds : List PyData) : Env := some .me :: startE (m - 1) ds
section
variable {P : Program} {w : World} {K : PySem.W.Frag} {mg : Str → Option Value} {base : Heap}
variable [Tbs]
end
section
variable {X : Cx} {W : WX} {i : Nat} {v m : Str} {p pos apos p1 : Pos} {e : Expr} {es : List Expr} {k n kk : Nat} {F : FT} {ga : A} {T : Tb} {ts : TabS}
variable [Tbs]
end
end PD
set_option Elab.async false
set_option linter.all false
set_option maxRecDepth 100000
set_option maxHeartbeats 4000000
namespace PD
open PySem PySem.Spec PyProof.Rows L2
section
variable {X : Cx} {W : WX} {i : Nat} {v m : Str} {p pos apos p1 : Pos} {e : Expr} {es : List Expr} {k n kk : Nat} {F : FT} {ga : A} {T : Tb} {ts : TabS}
variable [Tbs]
end
/-! ### what changes the lists -/
def TbF (H : Hp) [Tbs] : Prop := ∀ P ∈ Tbs.l, GxR.TabG H P
/-- the frame, where methods have changed the lists since the entry -/
def RepM [Tbs] (K : PySem.W.Frag) (Z : Zn) (T : Tb) (env : Env) (ts : TabS) (σ : Sg) (H : Hp) (O : List Addr) : Prop :=
  ∃ H1, @Rep _ (tabZ K T ts) K ⟨H1, Z.Oc⟩ env σ H O ∧ Ext (hid Z.Oc Z.H0) (hid Z.Oc H1) ∧ (∀ a ∈ Z.Oc, (∀ f, a ≠ T.p f) → H1 a = Z.H0 a) ∧ TbF H1
/-- the end of such a frame -/
structure EndM [Tbs] (K : PySem.W.Frag) (Z : Zn) (T : Tb) (ts : TabS) (H : Hp) : Prop where
  ex : Ext (hid Z.Oc Z.H0) (hid Z.Oc H)
  kp : ∀ a ∈ Z.Oc, (∀ f, a ≠ T.p f) → H a = Z.H0 a
  ok : tabOk K T ts H Z.Oc
  lv : Lv Z.Oc H
  tb : TbF H
inductive SO3 where
  | nx (env : Env) (ts : TabS)
  | rt (d : PyData) (ts : TabS)
  | bk (env : Env) (ts : TabS)
  | ct (env : Env) (ts : TabS)
  | no
abbrev S3 := Env → TabS → SO3
section
variable {X : Cx} {W : WX} {Z : Zn} {T : Tb} {ts ts' : TabS} {env : Env} {σ : Sg} {H H' : Hp} {O : List Addr} {D : Ends} {st : Stmt} {sts rest : List Stmt}
variable [Tbs]
def SOk3 (X : Cx) (Z : Zn) (T : Tb) (D : Ends) : SO3 → Prop
  | .nx env ts => ∀ σ H O, RepM X.K Z T env ts σ H O → D.nx σ H
  | .rt d ts => ∀ v H, EndM X.K Z T ts H → Dp X.K (hid Z.Oc H) v d → D.rt v H
  | .bk env ts => ∀ σ H O, RepM X.K Z T env ts σ H O → D.bk σ H
  | .ct env ts => ∀ σ H O, RepM X.K Z T env ts σ H O → D.ct σ H
  | .no => False
variable {c : Expr} {pos : Pos}
/-- after a change of the lists -/
theorem RepM.step (r : RepM X.K Z T env ts σ H O) (e : Ext (hid O H) (hid O H')) (kp : ∀ a ∈ O, (∀ f, a ≠ T.p f) → H' a = H a) (ok : tabOk X.K T ts' H' O) (lv : Lv O H') (tb : TbF H') : RepM X.K Z T env ts' σ H' O := by
  obtain ⟨H1, r, x, k1, tb1⟩ := r
  have zp : tabOk X.K T ts H1 Z.Oc := @Rep.zp _ (tabZ X.K T ts) X.K ⟨H1, Z.Oc⟩ _ _ _ _ r
  have sub : ∀ a ∈ Z.Oc, a ∈ O := fun a ha => @Rep.sub _ (tabZ X.K T ts) X.K ⟨H1, Z.Oc⟩ _ _ _ _ r a ha
  have rk : ∀ a ∈ Z.Oc, H a = H1 a := fun a ha => @Rep.kp _ (tabZ X.K T ts) X.K ⟨H1, Z.Oc⟩ _ _ _ _ r a ha
  have rx : Ext (hid Z.Oc H1) (hid O H) := @Rep.ex _ (tabZ X.K T ts) X.K ⟨H1, Z.Oc⟩ _ _ _ _ r
  have rsl := @Rep.sl _ (tabZ X.K T ts) X.K ⟨H1, Z.Oc⟩ _ _ _ _ r
  have rnd := @Rep.nd _ (tabZ X.K T ts) X.K ⟨H1, Z.Oc⟩ _ _ _ _ r
  have rlen := @Rep.len _ (tabZ X.K T ts) X.K ⟨H1, Z.Oc⟩ _ _ _ _ r
  let Hz : Hp := fun a => if a ∈ O ∧ a ∉ Z.Oc then none else H' a
  have hz : hid Z.Oc Hz = hid O H' := by
    funext a
    show hid Z.Oc (fun a => if a ∈ O ∧ a ∉ Z.Oc then none else H' a) a = hid O H' a
    unfold hid
    by_cases h1 : a ∈ Z.Oc
    · rw [if_pos h1, if_pos (sub a h1)]
    · rw [if_neg h1]
      dsimp only
      by_cases h2 : a ∈ O
      · rw [if_pos (show a ∈ O ∧ a ∉ Z.Oc from ⟨h2, h1⟩), if_pos h2]
      · rw [if_neg (show ¬ (a ∈ O ∧ a ∉ Z.Oc) from fun z => h2 z.1), if_neg h2]
  have hzo : ∀ a ∈ Z.Oc, Hz a = H' a := fun a ha => if_neg fun z => z.2 ha
  refine ⟨Hz, ?_, ?_, fun a ha hf => ?_, fun P hP => ?_⟩
  · letI := tabZ X.K T ts'
    refine ⟨by show Ext (hid Z.Oc Hz) (hid O H'); rw [hz]; exact Ext.refl _, sub, fun a ha => (hzo a ha).symm, rlen, fun i s es => ?_, rnd, lv, tb, ?_⟩
    · obtain ⟨v, h1, h2⟩ := rsl i s es
      refine ⟨v, h1, ?_⟩
      cases s with
      | fz d => exact e.dp h2
      | ob c fs => exact e.ob h2
      | me => exact h2
      | own ds =>
        obtain ⟨a, vs, e1, ha, hc, h3, h4⟩ := h2
        exact ⟨a, vs, e1, ha, hc, by rw [kp a ha fun f z => hc (by rw [z]; exact (zp.2 f).1)]; exact h3, e.dpa h4⟩
    · show tabOk X.K T ts' Hz Z.Oc
      refine ⟨by rw [hz]; exact ok.1, fun f => ?_⟩
      obtain ⟨_, vs, g1, g2⟩ := ok.2 f
      have hm := (zp.2 f).1
      exact ⟨hm, vs, by rw [hzo _ hm]; exact g1, by rw [hz]; exact g2⟩
  · rw [hz]
    exact x.trans (rx.trans e)
  · rw [hzo a ha, kp a (sub a ha) hf, rk a ha]
    exact k1 a ha hf
  · obtain ⟨ps, g1, g2⟩ := tb P hP
    refine ⟨ps, ?_, g2⟩
    show (if P ∈ O ∧ P ∉ Z.Oc then none else H' P) = _
    rw [if_neg fun z => ?_]
    · exact g1
    · obtain ⟨vs, g3⟩ := lv P z.1
      rw [g1] at g3
      cases g3
end
end PD
set_option Elab.async false
set_option linter.all false
set_option maxRecDepth 100000
set_option maxHeartbeats 4000000
namespace PD
open PySem PySem.Spec PyProof.Rows L2
section
variable {X : Cx} {W : WX} {Z : Zn} {T : Tb} {ts ts' : TabS} {env : Env} {σ : Sg} {H H' : Hp} {O : List Addr} {D : Ends} {st : Stmt} {sts rest : List Stmt}
variable [Tbs]
theorem RepM.mono (e : Ext H H') (r : RepM X.K Z T env ts σ H O) : RepM X.K Z T env ts σ H' O := by
  obtain ⟨H1, r, x, kp, tb⟩ := r
  letI := tabZ X.K T ts
  exact ⟨H1, Rep.mono e r, x, kp, tb⟩
theorem RepM.now (r : RepM X.K Z T env ts σ H O) : tabOk X.K T ts H O := by
  obtain ⟨H1, r, _⟩ := r
  exact tab_now r
theorem RepM.lv (r : RepM X.K Z T env ts σ H O) : Lv O H := by
  obtain ⟨H1, r, _⟩ := r
  exact @Rep.lv _ (tabZ X.K T ts) _ _ _ _ _ _ r
theorem RepM.tb (r : RepM X.K Z T env ts σ H O) : TbF H := by
  obtain ⟨H1, r, _⟩ := r
  exact @Rep.tb _ (tabZ X.K T ts) _ _ _ _ _ _ r
theorem RepM.me (r : RepM X.K Z T env ts σ H O) {i : Nat} (he : env[i]? = some (some .me)) : σ[i]? = some (some (.ref T.o)) ∧ H T.o = some (.ins T.C T.dx T.fvs) := by
  obtain ⟨H1, r, _⟩ := r
  exact me_at r he
variable {i : Nat} {x n m v : Str} {px pa p p1 pos apos cpos : Pos} {b e : Expr} {es : List Expr} {fb fe : TabS → E} {ga : TabS → A}
/-! ### loops -/
theorem znM_hid (r : RepM X.K Z T env ts σ H O) : hid Z.Oc (zn Z H O).H0 = hid O H := by
  obtain ⟨H1, r, _⟩ := r
  have h : hid Z.Oc (zn ⟨H1, Z.Oc⟩ H O).H0 = hid O H := @zn_hid X ⟨H1, Z.Oc⟩ env σ H O _ (tabZ X.K T ts) r
  exact h
theorem RepM.sub (r : RepM X.K Z T env ts σ H O) : ∀ a ∈ Z.Oc, a ∈ O := by
  obtain ⟨H1, r, _⟩ := r
  exact fun a ha => @Rep.sub _ (tabZ X.K T ts) X.K ⟨H1, Z.Oc⟩ _ _ _ _ r a ha
theorem RepM.zone (r : RepM X.K Z T env ts σ H O) : RepM X.K (zn Z H O) T env ts σ H O := by
  have tb := r.tb
  have lv := r.lv
  obtain ⟨H1, r, x, kp, _⟩ := r
  letI := tabZ X.K T ts
  have z := r.zone
  refine ⟨(zn Z H O).H0, z, Ext.refl _, fun _ _ _ => rfl, fun P hP => ?_⟩
  obtain ⟨ps, g1, g2⟩ := tb P hP
  refine ⟨ps, ?_, g2⟩
  show (if P ∈ O ∧ P ∉ Z.Oc then none else H P) = _
  rw [if_neg fun z => ?_]
  · exact g1
  · obtain ⟨vs, g3⟩ := lv P z.1
    rw [g1] at g3
    cases g3
theorem RepM.past (r : RepM X.K Z T env ts σ H O) : Ext (hid Z.Oc Z.H0) (hid O H) ∧ ∀ a ∈ Z.Oc, (∀ f, a ≠ T.p f) → H a = Z.H0 a := by
  obtain ⟨H1, r, x, kp, _⟩ := r
  have rx : Ext (hid Z.Oc H1) (hid O H) := @Rep.ex _ (tabZ X.K T ts) X.K ⟨H1, Z.Oc⟩ _ _ _ _ r
  have rk : ∀ a ∈ Z.Oc, H a = H1 a := fun a ha => @Rep.kp _ (tabZ X.K T ts) X.K ⟨H1, Z.Oc⟩ _ _ _ _ r a ha
  exact ⟨x.trans rx, fun a ha hf => (rk a ha).trans (kp a ha hf)⟩
theorem RepM.unzone {env' : Env} {σ' : Sg} {O' : List Addr} (r0 : RepM X.K Z T env ts σ H O) (r : RepM X.K (zn Z H O) T env' ts' σ' H' O') : RepM X.K Z T env' ts' σ' H' O' := by
  have hz := znM_hid r0
  obtain ⟨x0, k0⟩ := r0.past
  obtain ⟨H1, r, x, kp, tb⟩ := r
  rw [show (zn Z H O).Oc = Z.Oc from rfl, hz] at x
  refine ⟨H1, r, x0.trans x, fun a ha hf => ?_, tb⟩
  rw [kp a ha hf, zn_oc ha]
  exact k0 a ha hf
theorem RepM.frz {env' : Env} {σ' : Sg} {O' : List Addr} (r0 : RepM X.K Z T env ts σ H O) (r : RepM X.K (zn Z H O) T env' ts' σ' H' O') : Ext (hid O H) (hid O' H') := by
  have hz := znM_hid r0
  have h := r.past.1
  rw [show (zn Z H O).Oc = Z.Oc from rfl, hz] at h
  exact h
theorem EndM.unzone (r0 : RepM X.K Z T env ts σ H O) (r : EndM X.K (zn Z H O) T ts' H') : EndM X.K Z T ts' H' := by
  have hz := znM_hid r0
  obtain ⟨x0, k0⟩ := r0.past
  obtain ⟨ex, kp, ok, lv, tb⟩ := r
  rw [show (zn Z H O).Oc = Z.Oc from rfl, hz] at ex
  refine ⟨x0.trans ex, fun a ha hf => ?_, ok, lv, tb⟩
  rw [kp a ha hf, zn_oc ha]
  exact k0 a ha hf
theorem SOk3.zone (r0 : RepM X.K Z T env ts σ H O) : ∀ {r : SO3}, SOk3 X Z T D r → SOk3 X (zn Z H O) T D r
  | .nx _ _, h => fun σ' H' O' r => h σ' H' O' (r0.unzone r)
  | .rt _ _, h => fun v H' e d => h v H' (EndM.unzone r0 e) d
  | .bk _ _, h => fun σ' H' O' r => h σ' H' O' (r0.unzone r)
  | .ct _ _, h => fun σ' H' O' r => h σ' H' O' (r0.unzone r)
  | .no, h => h
end
end PD
set_option Elab.async false
set_option linter.all false
set_option maxRecDepth 100000
set_option maxHeartbeats 4000000
namespace PD
open PySem PySem.Spec PyProof.Rows L2
/-! ### methods that change the lists -/
abbrev FM := Int → TabS → List PyData → RO (PyData × TabS)
section
variable {P : Program} {w : World} {K : PySem.W.Frag} {mg : Str → Option Value} {base : Heap}
variable [Tbs]
theorem RepM.fin {Z : Zn} {T : Tb} {env : Env} {ts : TabS} {σ : Sg} {H : Hp} {O : List Addr} (r : RepM K Z T env ts σ H O) : EndM K Z T ts H := by
  obtain ⟨H1, r, x, kp, tb⟩ := r
  have rx : Ext (hid Z.Oc H1) (hid O H) := @Rep.ex _ (tabZ K T ts) K ⟨H1, Z.Oc⟩ _ _ _ _ r
  have rk : ∀ a ∈ Z.Oc, H a = H1 a := fun a ha => @Rep.kp _ (tabZ K T ts) K ⟨H1, Z.Oc⟩ _ _ _ _ r a ha
  have sub : ∀ a ∈ Z.Oc, a ∈ O := fun a ha => @Rep.sub _ (tabZ K T ts) K ⟨H1, Z.Oc⟩ _ _ _ _ r a ha
  have lv : Lv O H := @Rep.lv _ (tabZ K T ts) K ⟨H1, Z.Oc⟩ _ _ _ _ r
  have zp : tabOk K T ts H1 Z.Oc := @Rep.zp _ (tabZ K T ts) K ⟨H1, Z.Oc⟩ _ _ _ _ r
  have tb : TbF H := @Rep.tb _ (tabZ K T ts) K ⟨H1, Z.Oc⟩ _ _ _ _ r
  have e1 : Ext (hid Z.Oc H1) (hid Z.Oc H) := rx.trans (Ext.hid_sub sub)
  exact ⟨x.trans e1, fun a ha hf => (rk a ha).trans (kp a ha hf), zp.ext (fun a ha => ⟨ha, rk a ha⟩) e1, fun a ha => lv a (sub a ha), tb⟩
end
section
variable {X : Cx} {W : WX} {Z : Zn} {T : Tb} {ts ts' : TabS} {env : Env} {σ : Sg} {H H' : Hp} {O : List Addr} {D : Ends} {i j : Nat} {v m x : Str} {p pos apos p1 pos2 pos' : Pos} {e : Expr} {es : List Expr} {k n kk : Nat} {F : FM} {ga : TabS → A}
variable [Tbs]
/-- a call that changes the lists -/
theorem RepM.setFz (r : RepM X.K Z T env ts σ H O) (i : Nat) {v : V} {d : PyData} (h : Dp X.K (hid O H) v d) : RepM X.K Z T (env.set i (some (.fz d))) ts (σ.set i (some v)) H O := by
  obtain ⟨H1, r, x, kp, tb⟩ := r
  letI := tabZ X.K T ts
  exact ⟨H1, r.setFz i h, x, kp, tb⟩
end
end PD
set_option Elab.async false
set_option linter.all false
set_option maxRecDepth 100000
set_option maxHeartbeats 4000000
namespace PD
open PySem PySem.Spec PyProof.Rows L2
/-! ### how such an instance is made -/
def Tb.pl (T : Tb) : List Addr := [T.p .sc, T.p .ro, T.p .be, T.p .nn, T.p .ou]
abbrev FI := List PyData → RO (Int × TabS)
structure Pre (H : Hp) (a C dx : Addr) (Hk : Hp) (fs : List (Str × V)) (ls : List (Addr × List V)) : Prop where
  at_ : Hk a = some (.ins C dx fs)
  keep : ∀ b o, b ≠ a → H b = some o → Hk b = some o
  new : ∀ x ∈ ls, Hk x.1 = some (.lst x.2) ∧ x.1 ≠ a ∧ H x.1 = none
  nd : (ls.map (·.1)).Nodup
theorem Pre.lst {H : Hp} {a C dx l : Addr} {Hk : Hp} {fs : List (Str × V)} {ls : List (Addr × List V)} {xs : List V} (h : Pre H a C dx Hk fs ls) (hl : Hk l = none) : Pre H a C dx (upd Hk l (.lst xs)) fs (ls ++ [(l, xs)]) := by
  have la : l ≠ a := fun z => by rw [z, h.at_] at hl; cases hl
  refine ⟨by rw [upd_ne (Ne.symm la)]; exact h.at_, fun b o hb e => by rw [upd_ne (ne_of_none (h.keep b o hb e) hl)]; exact h.keep b o hb e, fun x hx => ?_, ?_⟩
  · rcases List.mem_append.mp hx with hx | hx
    · obtain ⟨h1, h2, h3⟩ := h.new x hx
      exact ⟨by rw [upd_ne (ne_of_none h1 hl)]; exact h1, h2, h3⟩
    · simp only [List.mem_singleton] at hx
      subst hx
      refine ⟨upd_same, la, ?_⟩
      cases hh : H l with
      | none => rfl
      | some o => rw [h.keep l o la hh] at hl; cases hl
  · rw [List.map_append, List.nodup_append]
    refine ⟨h.nd, by simp, fun x hx y hy => ?_⟩
    simp only [List.map_cons, List.map_nil, List.mem_singleton] at hy
    subst hy
    obtain ⟨z, hz, rfl⟩ := List.mem_map.mp hx
    obtain ⟨h1, _, _⟩ := h.new z hz
    exact ne_of_none h1 hl
section
variable {K : PySem.W.Frag}
variable [Tbs]
end
end PD
set_option Elab.async false
set_option linter.all false
set_option maxRecDepth 100000
set_option maxHeartbeats 4000000
namespace PD
open PySem PySem.Spec PyProof.Rows L2
section
variable {X : Cx} {W : WX} {i : Nat} {v x : Str} {C : Addr} {p pos pos2 pos' : Pos} {e : Expr} {es : List Expr} {rest : List Stmt} {k kk : Nat} {ga : A} {F : FI} {g : Int → S3}
variable [Tbs]
end
end PD
set_option Elab.async false
set_option linter.all false
set_option maxRecDepth 100000
set_option maxHeartbeats 4000000
namespace PD
open PySem PySem.Spec PyProof.Rows L2
/-! ### x.bit_length(); the end of an __init__ -/
section
variable {X : Cx} {W : WX} {a : Expr} {fa : E} {apos pos : Pos}
variable [Tbs] [Zp]
end
section
variable {P : Program} {w : World} {K : PySem.W.Frag} {mg : Str → Option Value} {base : Heap}
variable [Tbs]
end
end PD
set_option Elab.async false
set_option linter.all false
set_option maxRecDepth 100000
set_option maxHeartbeats 4000000
namespace PD
open PySem PySem.Spec PyProof.Rows L2
/-! ### evaluation of mirrors over an instance with lists -/
section
variable {env : Env} {i : Nat} {s : Option SV} {n : Int} {xs ys : List PyData} {fb fa : E} {ts : TabS} {ga : A} {d e : PyData} {F : FT} {M : FM} {k : Nat}
def cT (r : RO PyData) : RO PyData := match r with
  | .ok d => .ok d
  | _ => .no
/-! s3 -/
variable {f : TabS → S} {g h : S3} {t : TabS → T}
def q3 (r : SO3) (h : S3) : SO3 := match r with
  | .nx e t => h e t
  | r => r
def f3 (r : SO3) (k : S3) : SO3 := match r with
  | .nx e t => k e t
  | .ct e t => k e t
  | .bk e t => .nx e t
  | r => r
end
end PD
set_option Elab.async false
set_option linter.all false
set_option maxRecDepth 100000
set_option maxHeartbeats 4000000
namespace PD
open PySem PySem.Spec PyProof.Rows L2
/-! ### an own list is given back -/
section
variable {X : Cx} {Z : Zn} {env : Env} {σ : Sg} {H : Hp} {O : List Addr}
variable [Tbs] [Zp]
def outH (p : Addr) (H : Hp) : Hp := fun a => if a = p then none else H a
theorem Rep.take {K : PySem.W.Frag} (r : Rep K Z env σ H O) {i : Nat} {p : Addr} {vs : List V} {ds : List PyData} (he : env[i]? = some (some (.own ds))) (h1 : σ[i]? = some (some (.ref p))) (ha : p ∈ O) (hc : p ∉ Z.Oc) (h3 : H p = some (.lst vs)) :
    Rep K Z (env.set i none) σ (outH p H) (O.filter (fun b => decide (b ≠ p))) ∧ hid (O.filter (fun b => decide (b ≠ p))) (outH p H) = hid O H := by
  have eq : hid (O.filter (fun b => decide (b ≠ p))) (outH p H) = hid O H := by
    funext a
    unfold hid outH
    by_cases w : a = p
    · subst w
      rw [if_pos ha, if_neg (fun z => by have := (List.mem_filter.mp z).2; simp at this), if_pos rfl]
    · by_cases y : a ∈ O
      · rw [if_pos y, if_pos (List.mem_filter.mpr ⟨y, decide_eq_true w⟩)]
      · rw [if_neg y, if_neg (fun z => y (List.mem_filter.mp z).1), if_neg w]
  have ne : ∀ a ∈ Z.Oc, a ≠ p := fun a h z => hc (z ▸ h)
  refine ⟨⟨by rw [eq]; exact r.ex, fun a h => List.mem_filter.mpr ⟨r.sub a h, decide_eq_true (ne a h)⟩, fun a h => ?_, by simp [r.len], fun j s e => ?_, fun j k a dj dk e1 e2 s1 s2 => ?_, fun a h => ?_, fun P hP => ?_, r.zp⟩, eq⟩
  · unfold outH
    rw [if_neg (ne a h)]
    exact r.kp a h
  · rcases set_some e with ⟨_, _, e⟩ | ⟨hj, e⟩
    · cases e
    · obtain ⟨v, g1, g2⟩ := r.sl j s e
      refine ⟨v, g1, ?_⟩
      cases s with
      | fz d => show Dp K (hid _ _) v d; rw [eq]; exact g2
      | own d =>
        obtain ⟨a, ws, rfl, k1, k2, k3, k4⟩ := g2
        have w : a ≠ p := fun z => hj (r.nd j i p _ _ e he (by rw [← z]; exact g1) h1)
        refine ⟨a, ws, rfl, List.mem_filter.mpr ⟨k1, decide_eq_true w⟩, k2, ?_, ?_⟩
        · unfold outH; rw [if_neg w]; exact k3
        · rw [eq]; exact k4
      | ob c fs => show ObR K (hid _ _) v c fs; rw [eq]; exact g2
      | me => exact g2
  · rcases set_some e1 with ⟨_, _, e1⟩ | ⟨_, e1⟩
    · cases e1
    · rcases set_some e2 with ⟨_, _, e2⟩ | ⟨_, e2⟩
      · cases e2
      · exact r.nd j k a _ _ e1 e2 s1 s2
  · obtain ⟨h, w⟩ := List.mem_filter.mp h
    obtain ⟨ws, g⟩ := r.lv a h
    refine ⟨ws, ?_⟩
    unfold outH
    rw [if_neg (of_decide_eq_true w)]
    exact g
  · obtain ⟨ps, g1, g2⟩ := r.tb P hP
    refine ⟨ps, ?_, g2⟩
    unfold outH
    rw [if_neg fun z => by rw [z, h3] at g1; cases g1]
    exact g1
end
/-! ### methods that change nothing and give a new list -/
abbrev FNT := Int → TabS → List PyData → RO (List PyData)
section
variable {P : Program} {w : World} {K : PySem.W.Frag} {mg : Str → Option Value} {base : Heap}
variable [Tbs]
end
section
variable {X : Cx} {W : WX} {i : Nat} {v m : Str} {p pos apos p1 : Pos} {e : Expr} {es : List Expr} {k n kk : Nat} {F : FNT} {ga : A} {T : Tb} {ts : TabS}
variable [Tbs]
/-! evaluation -/
end
end PD
set_option Elab.async false
set_option linter.all false
set_option maxRecDepth 100000
set_option maxHeartbeats 4000000
namespace PD
open PySem PySem.Spec PyProof.Rows L2
/-! ### a try whose suite is of statements -/
section
variable {X : Cx} {W : WX} {x : Str} {cV : Value} {body rest : List Stmt} {st0 : Stmt} {np pos pos' : Pos} {g h : S} {mtc : Str → Option Bool}
variable [Tbs] [Zp]
end
end PD
set_option Elab.async false
set_option linter.all false
set_option maxRecDepth 100000
set_option maxHeartbeats 4000000
namespace PD
open PySem PySem.Spec PyProof.Rows L2
/-! ### errors that are values: made, kept in a list, asked for their class and fields -/
abbrev Fs := List (Str × V)
def exv (a C : Addr) (od : Option Addr) : HO := .ext fun h => ∃ oe, h.get? a = some oe ∧ Zc (.ref C) od oe ∧ ∃ vs, oe.data = .fields vs
def ExcH (H : Hp) (a C : Addr) (fs : Fs) : Prop := (fs = [] ∧ H a = some (exv a C none)) ∨ (∃ d, H a = some (exv a C (some d)) ∧ H d = some (.xd fs))
theorem Ext.exc {H H' : Hp} (e : Ext H H') {a C : Addr} {fs : Fs} : ExcH H a C fs → ExcH H' a C fs
  | .inl ⟨h, k⟩ => .inl ⟨h, e.at k (fun _ z => by unfold exv at z; cases z)⟩
  | .inr ⟨d, h, k⟩ => .inr ⟨d, e.at h (fun _ z => by unfold exv at z; cases z), e.at k (fun _ z => by cases z)⟩
section
variable {X : Cx} {pins : List (Addr × Obj)} {σ : List (Option V)} {H : Hp} {s : Shared} {a C : Addr} {fs : Fs}
theorem inst_of {h : Heap} {oe : Obj} {d : Option Addr} {od : Option Obj} (hg : h.get? a = some oe) (hz : Zc (.ref C) d oe) (hf : ∃ vs, oe.data = .fields vs) (hd : (∃ dx o, d = some dx ∧ od = some o ∧ h.get? dx = some o) ∨ (d = none ∧ od = none)) : PySem.W.InstAt h a oe C od := by
  obtain ⟨vs, hv⟩ := hf
  obtain ⟨oc, od', oda, osl⟩ := oe
  obtain ⟨h1, h2⟩ := hz
  dsimp only at h1 h2 hv
  subst h1 h2 hv
  rcases hd with ⟨dx, o, rfl, rfl, h3⟩ | ⟨rfl, rfl⟩
  · exact ⟨hg, rfl, rfl, h3⟩
  · exact ⟨hg, rfl, rfl, trivial⟩
theorem exc_inst (I : Inv X pins σ H s) (h : ExcH H a C fs) : ∃ oe od, PySem.W.InstAt s.heap a oe C od ∧ ∀ f v, fs.lookup f = some v → ∃ o u, od = some o ∧ PySem.W.lookIn f o = some (some u) ∧ RelV v u := by
  rcases h with ⟨h0, h⟩ | ⟨d, h, hd⟩
  · obtain ⟨⟨oe, hg, hz, hf⟩, _⟩ := I.hok a _ h
    refine ⟨oe, none, inst_of hg hz hf (.inr ⟨rfl, rfl⟩), fun f v hl => ?_⟩
    rw [h0] at hl
    cases hl
  · obtain ⟨⟨oe, hg, hz, hf⟩, _⟩ := I.hok a _ h
    have hx : ObjOk X.prog X.w H s.heap d (.xd fs) := I.hok d _ hd
    obtain ⟨mA, hns, hr⟩ := hx
    obtain ⟨o, ho, hl⟩ := lookIn_ns hns
    refine ⟨oe, some o, inst_of hg hz hf (.inl ⟨d, o, rfl, rfl, ho⟩), fun f v hv => ?_⟩
    have hr' := hr f
    rw [hv] at hr'
    obtain ⟨u, h1, h2⟩ := RelO.some_of hr'
    exact ⟨o, u, rfl, by rw [hl, h1], h2⟩
def rIsH (K : PySem.W.Frag) : List V → Hp → VK → Prop := fun xs H Q => ∃ (a D : Addr) (fs : Fs) (c : V) (cv : Value) (b : Bool), ExcH H a D fs ∧ ExcC K D ∧ xs = [.ref a, c] ∧ (∀ u, RelV c u → u = cv) ∧ PySem.W.kitOne K (.ref D) cv = some b ∧ Q (.bl b) H
theorem call_isH : CallR X (.builtin "isinstance") (rIsH X.K) := by
  intro pins s σ H xs us Q I r h
  obtain ⟨a, D, fs, c, cv, b, hx, T, rfl, hcv, e, q⟩ := h
  cases r with
  | cons rx rr =>
    cases rr with
    | cons rt rr =>
      cases rr
      cases rx
      have ec := hcv _ rt
      subst ec
      obtain ⟨oe, od, J, _⟩ := exc_inst I hx
      exact PySem.W.kia_one (PySem.W.kitx_excO T.hg T.hk T.hs T.hd T.ha T.hn T.ht T.hm) I.kIn ⟨_, J⟩ e (fun z => nomatch z) fun tk => ⟨.bl b, H, I.kept (t' := tk) fun _ _ z => z, rfl, q⟩
def tXfH (K : PySem.W.Frag) (f : Str) (te : TE) : TE := fun σ H Q => te σ H fun x H1 => ∃ (a D : Addr) (fs : Fs) (v : V), x = .ref a ∧ ExcH H1 a D fs ∧ XfC K D ∧ PySem.W.findIn K (.ref D) f = some none ∧ fs.lookup f = some v ∧ Q v H1
theorem pe_xfH {e : Expr} {te : TE} {pos : Pos} {f : Str} (h : PE X e te) (hb : attributeBase e f X.env (eval e X.env) = eval e X.env := by rfl) : PE X (.Attribute e f pos) (tXfH X.K f te) := ⟨fun pins s σ H Q I q => by
  refine attr_of hb (thn (h.run pins s σ H _ I q) fun u s1 hh => ?_)
  obtain ⟨x, H1, I1, r, a, D, fs, v, rfl, he, T, hn, hl, q1⟩ := hh
  have eu : u = .ref a := r
  subst eu
  obtain ⟨oe, od, J, hf⟩ := exc_inst I1 he
  obtain ⟨o, u', rfl, hlk, hr⟩ := hf f v hl
  refine PySem.HandSPX.exc_get I1.kIn J T.ga T.gg T.exC (PySem.W.findObj_own T.hdC hn rfl hlk) (handed_of hr) ?_
  exact ⟨v, H1, I1.tok _, hr, q1⟩⟩
def tRest (t : L2.St → Hp → XK → Prop) : TE := fun σ H Q => t σ H fun cls d H' => ∃ C, cls = .ref C ∧ ∀ a, H' a = none → Q (.ref a) (upd H' a (exv a C d))
theorem pe_mk {e : Expr} {t : L2.St → Hp → XK → Prop} (h : PMk X e t) : PE X e (tRest t) := ⟨fun pins s σ H Q I q => by
  refine thn (h pins s σ H _ I q) fun u s1 hh => ?_
  obtain ⟨a, oe, vs, sI, H', cls, d, rfl, I1, gr, na, ho, hz, hd, _, hH, eos, hg, _, C, rfl, q1⟩ := hh
  have ok' : HOk X.prog X.w (upd H' a (exv a C d)) s1.heap := fun b o hb => by
    by_cases e : b = a
    · subst e
      rw [upd_same] at hb
      cases hb
      exact ⟨⟨oe, ho, hz, vs, hd⟩, ⟨oe, ho⟩, fun h1 h2 ⟨o, z1, z2⟩ k => ⟨o, k o z1, z2⟩⟩
    · rw [upd_ne e] at hb
      exact (I1.hok b o hb).stay (fun c u _ z => gr c u z) (fun c z => by rw [upd_ne (fun y => by rw [y, hH] at z; cases z)]; exact z) (fun c xs z => by rw [upd_ne (fun y => by rw [y, hH] at z; cases z)]; exact z)
  have ne : ∀ {b : Addr} {o : HO}, H' b = some o → upd H' a (exv a C d) b = some o := fun {b o} z => by rw [upd_ne (fun y => by rw [y, hH] at z; cases z)]; exact z
  have I2 := I1.step (g' := s1.gens) (t' := s1.toks) (d' := s1.drawn) (ch := []) (H' := upd H' a (exv a C d)) (h' := s1.heap) (fun b z => by cases z) (fun b o _ _ _ z _ => gr b o z)
    (fun b o _ _ _ z _ => ⟨o.slots, gr b o z⟩) (fun b o _ z k => by rw [upd_ne (fun y => by rw [y, na] at z; cases z)]; exact k) (fun b o _ z => ⟨o, gr b o z⟩) (fun b xs z => ne z) (fun b o u z => ne z) (fun b ps z => ⟨#[], by rw [Array.append_empty]; exact ne z⟩) (fun m z => z.keeps gr) ok' hg
  have es : ({ heap := s1.heap, gens := s1.gens, drawn := s1.drawn, toks := s1.toks, os := sI.os } : Shared) = s1 := by
    rw [← eos]
  rw [es] at I2
  exact ⟨.ref a, upd H' a (exv a C d), I2, rfl, q1 a hH⟩⟩
end
end PD
set_option Elab.async false
set_option linter.all false
set_option maxRecDepth 100000
set_option maxHeartbeats 4000000
namespace PD
open PySem PySem.Spec PyProof.Rows L2
structure XO where
  a : Addr
  C : Addr
  fs : Fs
inductive AR {α β : Type} (R : α → β → Prop) : List α → List β → Prop where
  | nil : AR R [] []
  | cons {x : α} {y : β} {xs : List α} {ys : List β} : R x y → AR R xs ys → AR R (x :: xs) (y :: ys)
section
variable {α β γ : Type} {R : α → β → Prop}
theorem AR.len : ∀ {xs : List α} {ys : List β}, AR R xs ys → xs.length = ys.length
  | _, _, .nil => rfl
  | _, _, .cons _ t => congrArg Nat.succ t.len
theorem AR.get : ∀ {xs : List α} {ys : List β}, AR R xs ys → ∀ {i : Nat} {y : β}, ys[i]? = some y → ∃ x, xs[i]? = some x ∧ x ∈ xs ∧ R x y
  | _, _, .nil, i, y, e => by simp at e
  | _, _, .cons h t, 0, y, e => by
    cases e
    exact ⟨_, rfl, List.mem_cons_self, h⟩
  | _, _, .cons h t, i + 1, y, e => by
    obtain ⟨x, h1, h2, h3⟩ := t.get (i := i) (by simpa using e)
    exact ⟨x, by simpa using h1, List.mem_cons_of_mem _ h2, h3⟩
theorem AR.at {xs : List α} {ys : List β} (h : AR R xs ys) (g : α → γ) {i : Int} {y : β} (e : atI ys i = some y) : ∃ x, x ∈ xs ∧ atI (xs.map g) i = some (g x) ∧ R x y := by
  unfold atI at e ⊢
  rw [List.length_map, h.len]
  cases hj : ixN ys.length i with
  | none => rw [hj] at e; cases e
  | some j =>
    rw [hj] at e
    have e : ys[j]? = some y := e
    obtain ⟨x, h1, h2, h3⟩ := h.get e
    exact ⟨x, h2, by simp [h1], h3⟩
theorem AR.map {xs : List α} {ys : List β} {S : α → β → Prop} (k : ∀ x y, R x y → S x y) : ∀ {xs : List α} {ys : List β}, AR R xs ys → AR S xs ys
  | _, _, .nil => .nil
  | _, _, .cons h t => .cons (k _ _ h) (AR.map (xs := []) (ys := []) k t)
end
/-! ### making them -/
def MkX (X : Cx) (e : Expr) (C : Addr) (fs : Fs) : Prop := ∀ σ H Q, (∀ a H', Ext H H' → ExcH H' a C fs → Q (.ref a) H') → wpE X e σ H Q
def MkXs (X : Cx) (es : List Expr) (cs : List (Addr × Fs)) : Prop := ∀ σ H (Q : List V → Hp → Prop), (∀ (xs : List XO) H', Ext H H' → AR (fun (x : XO) (c : Addr × Fs) => x.C = c.1 ∧ x.fs = c.2 ∧ ExcH H' x.a x.C x.fs) xs cs → Q (xs.map fun x => .ref x.a) H') → wpA X es σ H Q
section
variable {X : Cx} {W : WX} {e e1 e2 : Expr} {es : List Expr} {C : Addr} {fs : Fs} {cs : List (Addr × Fs)} {x f1 f2 : Str} {p pos pos' pos2 : Pos} {k kk : Nat}
variable [Tbs] [Zp]
theorem mks_nil : MkXs X [] [] := fun σ H Q h => wp_a pa_nil (h [] H (Ext.refl _) .nil)
theorem mks_cons (h : MkX X e C fs) (t : MkXs X es cs) (hs : starEach (e :: es) X.env = (false, eval e X.env) :: starEach es X.env := by rfl) : MkXs X (e :: es) ((C, fs) :: cs) := fun σ H Q q => by
  refine wp_a (pa_cons pe_wp pa_wp hs) ?_
  refine h σ H _ fun a H1 e1 x1 => ?_
  refine t σ H1 _ fun xs H2 e2 x2 => ?_
  exact q (⟨a, C, fs⟩ :: xs) H2 (e1.trans e2) (.cons ⟨rfl, rfl, e2.exc x1⟩ x2)
theorem mk_own0 {bmB : List Value} {B newId initId : String} (F : ExcBaseFacts B newId initId bmB) (q : PySem.W.excIn X.K C bmB newId = true) (gC : X.mg x = some (.ref C)) (kC : PySem.W.keepIn X.K (.ref C) = true) (r : Raises X (.ref C)) (hg : Gl X x) (hdb : (x == ("__debug__" : Str)) = false := by decide) :
    MkX X (.Call (.Name x p) [] [] pos) C [] := fun σ H Q h => by
  refine wp_e (pe_mk (pmk_own0 F q gC kC r hg hdb)) ?_
  exact ⟨C, rfl, fun a ha => h a _ (Ext.new ha) (.inl ⟨rfl, upd_same⟩)⟩
theorem mk_err1 {a1 : Addr} {w1 : V} (G : ErrC X.prog X.w X.K X.mg X.base x k (fun C => spErr1 X.K C f1)) (hm0 : X.mg x = some (.ref a1)) (hr : Room kk X.A) (hk : k + 1 ≤ kk) (tk : Takes X W) (hg : Gl X x) (t1 : PE X e1 (tC w1)) (g1 : Fld w1) (hdb : (x == ("__debug__" : Str)) = false := by decide)
    (he : starEach [e1] X.env = (false, eval e1 X.env) :: starEach [] X.env := by rfl) (hpl : (backTo pos (starEach [] X.env)).any (·.1) = false := by rfl) :
    MkX X (.Call (.Name x p) [e1] [] pos) a1 [(f1, w1)] := fun σ H1 Q h => by
  obtain ⟨C, fI, fd, ps, T, iC, tI, F1, hb, hm⟩ := G
  have eC : C = a1 := by rw [hm0] at hm; exact (Value.ref.inj (Option.some.inj hm)).symm
  subst eC
  refine wp_e (pe_mk (pmk_oex T iC tI F1 (hr.mono hk) hb .nil (L2.passes_call tk fun _ _ _ _ h => h.elim) hg hm (pa_cons t1 pa_nil he) hdb he hpl)) ?_
  refine ⟨by show 1 ≤ 1000; omega, fun a na => ?_⟩
  refine ⟨a, w1, rfl, upd_same, g1, fun d hd dne => ?_⟩
  have hd1 : H1 d = none := by rw [upd_ne dne] at hd; exact hd
  refine ⟨rfl, d, _, upd_same, by rw [upd_ne dne, upd_same], hd1, ?_⟩
  have eH : upd (del (upd (upd (upd H1 a (exo a C none)) d (exd d [(f1, w1)])) a (exo a C (some d))) a) d (.xd [(f1, w1)]) = upd H1 d (.xd [(f1, w1)]) := by
    funext b
    by_cases hb : b = d
    · rw [hb, upd_same, upd_same]
    · rw [upd_ne hb, upd_ne hb]
      by_cases hba : b = a
      · rw [hba, del_same, na]
      · rw [del_ne hba, upd_ne hba, upd_ne hb, upd_ne hba]
  rw [eH]
  refine ⟨C, rfl, fun a' ha' => ?_⟩
  have e2 : Ext H1 (upd H1 d (.xd [(f1, w1)])) := Ext.new hd1
  have nd : d ≠ a' := fun z => by rw [← z, upd_same] at ha'; cases ha'
  exact h a' _ (e2.trans (Ext.new ha')) (.inr ⟨d, upd_same, by rw [upd_ne nd, upd_same]⟩)
theorem mk_err2 {a1 : Addr} {w1 w2 : V} (G : ErrC X.prog X.w X.K X.mg X.base x k (fun C => spErr2 X.K C f1 f2)) (hm0 : X.mg x = some (.ref a1)) (hr : Room kk X.A) (hk : k + 1 ≤ kk) (tk : Takes X W) (hg : Gl X x) (t1 : PE X e1 (tC w1)) (t2 : PE X e2 (tC w2)) (g1 : Fld w1) (g2 : Fld w2) (hdb : (x == ("__debug__" : Str)) = false := by decide)
    (he : starEach [e1, e2] X.env = (false, eval e1 X.env) :: starEach [e2] X.env := by rfl) (he2 : starEach [e2] X.env = (false, eval e2 X.env) :: starEach [] X.env := by rfl) (hpl : (backTo pos (starEach [e2] X.env)).any (·.1) = false := by rfl) :
    MkX X (.Call (.Name x p) [e1, e2] [] pos) a1 [(f2, w2), (f1, w1)] := fun σ H1 Q h => by
  obtain ⟨C, fI, fd, ps, T, iC, tI, F1, hb, hm⟩ := G
  have eC : C = a1 := by rw [hm0] at hm; exact (Value.ref.inj (Option.some.inj hm)).symm
  subst eC
  refine wp_e (pe_mk (pmk_oex T iC tI F1 (hr.mono hk) hb .nil (L2.passes_call tk fun _ _ _ _ h => h.elim) hg hm (pa_cons t1 (pa_cons t2 pa_nil he2) he) hdb he hpl)) ?_
  refine ⟨by show 2 ≤ 1000; omega, fun a na => ?_⟩
  refine ⟨a, w1, w2, rfl, upd_same, g1, g2, fun d hd dne => ?_⟩
  have hd1 : H1 d = none := by rw [upd_ne dne] at hd; exact hd
  refine ⟨rfl, d, _, by rw [upd_ne (Ne.symm dne), upd_same], upd_same, hd1, ?_⟩
  have eH : upd (del (upd (upd (upd (upd H1 a (exo a C none)) d (exd d [(f1, w1)])) a (exo a C (some d))) d (exd d [(f2, w2), (f1, w1)])) a) d (.xd [(f2, w2), (f1, w1)]) = upd H1 d (.xd [(f2, w2), (f1, w1)]) := by
    funext b
    by_cases hb : b = d
    · rw [hb, upd_same, upd_same]
    · rw [upd_ne hb, upd_ne hb]
      by_cases hba : b = a
      · rw [hba, del_same, na]
      · rw [del_ne hba, upd_ne hb, upd_ne hba, upd_ne hb, upd_ne hba]
  rw [eH]
  refine ⟨C, rfl, fun a' ha' => ?_⟩
  have e2 : Ext H1 (upd H1 d (.xd [(f2, w2), (f1, w1)])) := Ext.new hd1
  have nd : d ≠ a' := fun z => by rw [← z, upd_same] at ha'; cases ha'
  exact h a' _ (e2.trans (Ext.new ha')) (.inr ⟨d, upd_same, by rw [upd_ne nd, upd_same]⟩)
end
/-! ### where they stand -/
def listE (p : Addr) (xs : List XO) (H : Hp) : Prop := H p = some (.lst (xs.map fun x => .ref x.a)) ∧ ∀ x ∈ xs, ExcH H x.a x.C x.fs
theorem listE.ext {p : Addr} {xs : List XO} {H H' : Hp} (h : listE p xs H) (e : Ext H H') : listE p xs H' := ⟨e.lst h.1, fun x hx => e.exc (h.2 x hx)⟩
@[reducible] def oneZ (a C : Addr) (fs : Fs) : Zp := ⟨some a, fun H Oc => ExcH (hid Oc H) a C fs, fun h _ e => e.exc h⟩
@[reducible] def excZ (p : Addr) (xs : List XO) : Zp := ⟨some p, fun H Oc => listE p xs (hid Oc H), fun h _ e => h.ext e⟩
/-- the list is made and stored -/
theorem wp_errs [Tbs] [Zp] {X : Cx} {v : Str} {es : List Expr} {cs : List (Addr × Fs)} {i : Nat} {epos pos' pos2 : Pos} {σ : Sg} {H : Hp} {D : Ends} (h : MkXs X es cs) (hl : cs.length ≤ sizeLine) (hN : X.N.Nodup) (hi : X.N[i]? = some v) (hx : Loc X.env.scope v)
    (k : ∀ p xs H', Ext H H' → H p = none → H' p = some (.lst (xs.map fun x => .ref x.a)) → AR (fun (x : XO) (c : Addr × Fs) => x.C = c.1 ∧ x.fs = c.2 ∧ ExcH H' x.a x.C x.fs) xs cs → D.nx (σ.set i (some (.ref p))) H')
    (hs : swapsWith (.List es epos) (some (.Name v pos')) pos2.line X.env = pure false := by rfl) (hf : X.fn v = true ∨ X.env.scope.names.lookup v = some .local := by first | exact .inl rfl | exact .inr rfl | assumption) :
    wpS X (.Assign [.Name v pos'] (.List es epos) pos2) D σ H := by
  refine wp_s (ps_set hN hi hx pe_wp hs hf) ?_
  refine wp_e (pe_lst pa_wp) ?_
  refine h σ H _ fun xs H1 e1 x1 => ⟨by rw [List.length_map, x1.len]; exact hl, fun p hp => ?_⟩
  have e2 : Ext H1 (upd H1 p (.lst (xs.map fun x => .ref x.a))) := Ext.new hp
  have hp0 : H p = none := by
    cases z : H p with
    | none => rfl
    | some o =>
      rcases e1 p o z with z | ⟨_, _, _, z, _⟩
      · rw [hp] at z; cases z
      · rw [hp] at z; cases z
  exact k p xs _ (e1.trans e2) hp0 upd_same (AR.map (xs := xs) (ys := cs) (fun x c ⟨z1, z2, z3⟩ => ⟨z1, z2, e2.exc z3⟩) x1)
theorem ExcH.hide {Oc : List Addr} {H : Hp} {a C : Addr} {fs : Fs} (l : Lv Oc H) (h : ExcH H a C fs) : ExcH (hid Oc H) a C fs := by
  have nO : ∀ {b : Addr} {o : HO}, H b = some o → (∀ xs, o ≠ .lst xs) → hid Oc H b = some o := fun {b o} h n => by
    rw [hid_out (fun z => by
      obtain ⟨xs, e⟩ := l b z
      rw [h] at e
      cases e
      exact n xs rfl)]
    exact h
  rcases h with ⟨h0, h⟩ | ⟨d, h, hd⟩
  · exact .inl ⟨h0, nO h (fun _ z => by unfold exv at z; cases z)⟩
  · exact .inr ⟨d, nO h (fun _ z => by unfold exv at z; cases z), nO hd (fun _ z => by cases z)⟩
/-- a frame that holds nothing but one marked thing -/
theorem rep_me [Tbs] {z : Zp} {K : PySem.W.Frag} {H' : Hp} {Oc : List Addr} {env : Env} {σ : Sg} {i : Nat} {p : Addr} (hz : z.at_ = some p) (ho : z.ok H' Oc) (l : Lv Oc H') (tb : ∀ P ∈ Tbs.l, GxR.TabG H' P) (hl : env.length = σ.length) (hi : i < σ.length) (hn : ∀ (j : Nat) (s : SV), env[j]? ≠ some (some s)) :
    @Rep _ z K ⟨H', Oc⟩ (env.set i (some .me)) (σ.set i (some (.ref p))) H' Oc := by
  letI := z
  refine ⟨Ext.refl _, fun _ h => h, fun _ _ => rfl, by simp [hl], fun j s e => ?_, fun j k a dj dk e1 e2 s1 s2 => ?_, l, tb, ho⟩
  · rcases set_some e with ⟨rfl, hj, e⟩ | ⟨hj, e⟩
    · cases e
      exact ⟨.ref p, List.getElem?_set_self hi, p, hz, rfl⟩
    · exact absurd e (hn j s)
  · rcases set_some e1 with ⟨rfl, hj, e⟩ | ⟨hj, e⟩
    · cases e
    · exact absurd e (hn j _)
end PD
set_option Elab.async false
set_option linter.all false
set_option maxRecDepth 100000
set_option maxHeartbeats 4000000
namespace PD
open PySem PySem.Spec PyProof.Rows L2
section
variable {X : Cx} {W : WX} {i : Nat} {n x f : Str} {p pos pos' p1 p2 : Pos} {b e2 : Expr} {fb : E} {Z : Zn} {env : Env} {σ : Sg} {H : Hp} {O : List Addr} {a C q : Addr} {fs : Fs} {xs : List XO}
variable [Tbs]
/-! ### one error in a name -/
theorem one_at (r : @Rep _ (oneZ a C fs) X.K Z env σ H O) (he : env[i]? = some (some .me)) : σ[i]? = some (some (.ref a)) ∧ ExcH H a C fs := by
  letI := oneZ a C fs
  obtain ⟨v, h1, h2⟩ := r.sl i _ he
  obtain ⟨a0, h4, h5⟩ := h2
  have h3 : v = .ref a := by cases h4; exact h5
  rw [h3] at h1
  exact ⟨h1, Ext.unhid.exc (r.ex.exc r.zp)⟩
def eIs1 (t : Bool) (i : Nat) : E := fun env => gMe env i >>= fun _ => .ok (.bool t)
theorem ce_is1 {D : Addr} {t : Bool} (T : ExcC X.K C) (hk : PySem.W.kitOne X.K (.ref C) (.ref D) = some t) (hg : Gl X "isinstance") (hm : X.mg "isinstance" = none) (hgx : Gl X x) (hmx : X.mg x = some (.ref D))
    (hN : X.N[i]? = some n := by rfl) (hv : Vis X.env.scope n := by first | exact Or.inl rfl | exact Or.inr (Or.inl rfl) | exact Or.inr (Or.inr rfl)) (hd : (n == ("__debug__" : Str)) = false := by decide) (hcd : (n == ("__classdict__" : Str)) = false := by decide) (hdx : (x == ("__debug__" : Str)) = false := by decide)
    (he : starEach [.Name n p1, .Name x p2] X.env = (false, eval (.Name n p1) X.env) :: starEach [.Name x p2] X.env := by rfl) (he2 : starEach [.Name x p2] X.env = (false, eval (.Name x p2) X.env) :: starEach [] X.env := by rfl)
    (hpl : (backTo pos (starEach [.Name x p2] X.env)).any (·.1) = false := by rfl) :
    @CE _ (oneZ a C fs) X W (.Call (.Name "isinstance" p) [.Name n p1, .Name x p2] [] pos) (eIs1 t i) := by
  letI := oneZ a C fs
  intro Z env σ H O Q r q
  unfold eIs1 at q
  rcases gMe_cases env i with h | h
  · rw [h] at q
    obtain ⟨s1, s2⟩ := one_at r (gMe_ok h)
    have hb : PE X (.Name x p2) (tC (.ref D)) := pe_glob hgx hmx rfl hdx
    refine wp_e (pe_callB call_isH hg hm (by decide +kernel) (pa_cons (pe_var hN hv hd hcd) (pa_cons hb pa_nil he2) he) (by decide) (by decide) he hpl) ?_
    exact ⟨_, s1, a, C, fs, .ref D, .ref D, t, s2, T, rfl, fun u hu => hu, hk, ROk.here (show ROk X W σ O (VQ X.K O Q) H (.ok (.bool t)) from q) _ (.bl _)⟩
  · rw [h] at q
    exact q.elim
/-! ### a list of errors in a name -/
theorem exc_at (r : @Rep _ (excZ q xs) X.K Z env σ H O) (he : env[i]? = some (some .me)) : σ[i]? = some (some (.ref q)) ∧ listE q xs H := by
  letI := excZ q xs
  obtain ⟨v, h1, h2⟩ := r.sl i _ he
  obtain ⟨a0, h4, h5⟩ := h2
  have h3 : v = .ref q := by cases h4; exact h5
  rw [h3] at h1
  exact ⟨h1, (listE.ext r.zp r.ex).ext Ext.unhid⟩
theorem ce_eln (hg : Gl X "len") (hm : X.mg "len" = none) (hN : X.N[i]? = some n := by rfl) (hv : Vis X.env.scope n := by first | exact Or.inl rfl | exact Or.inr (Or.inl rfl) | exact Or.inr (Or.inr rfl)) (hd : (n == ("__debug__" : Str)) = false := by decide) (hcd : (n == ("__classdict__" : Str)) = false := by decide)
    {ys : List PyData} (hl : xs.length = ys.length) (he : starEach [.Name n p1] X.env = (false, eval (.Name n p1) X.env) :: starEach [] X.env := by rfl) (hpl : (backTo pos (starEach [] X.env)).any (·.1) = false := by rfl) :
    @CE _ (excZ q xs) X W (.Call (.Name "len" p) [.Name n p1] [] pos) (eTln ys i) := by
  letI := excZ q xs
  intro Z env σ H O Q r q
  unfold eTln at q
  rcases gMe_cases env i with h | h
  · rw [h] at q
    obtain ⟨s1, s2, s3⟩ := exc_at r (gMe_ok h)
    refine wp_e (pe_callB call_len_seq hg hm PySem.boot_len (pa_cons (pe_var hN hv hd hcd) pa_nil he) (by decide) (by decide) he hpl) ?_
    refine ⟨_, s1, _, _, rfl, .inl (SqL.of s2), ?_⟩
    rw [List.length_map, hl]
    exact ROk.here (show ROk X W σ O (VQ X.K O Q) H (.ok (.int ys.length)) from q) _ (.int _)
  · rw [h] at q
    exact q.elim
/-- made[k], what stands there -/
theorem exc_ix {R : XO → PyData → Prop} {ys : List PyData} {Q : VK} {QQ : VK} (hb : @CE _ (excZ q xs) X W b fb) (A : AR R xs ys) (r : @Rep _ (excZ q xs) X.K Z env σ H O) (hN : X.N[i]? = some n) (hv : Vis X.env.scope n) (hd : (n == ("__debug__" : Str)) = false) (hcd : (n == ("__classdict__" : Str)) = false) (hs : PlainIx b)
    (h : gMe env i = .ok ()) (qq : ROk X W σ O (VQ X.K O QQ) H (fb env >>= fun y => ofO (dIx (.list ys) y)))
    (k : ∀ e d H1, e ∈ xs → R e d → ExcH H1 e.a e.C e.fs → @Rep _ (excZ q xs) X.K Z env σ H1 O → ROk X W σ O (VQ X.K O QQ) H1 (.ok d) → Q (.ref e.a) H1) : wpE X (.Subscript (.Name n p1) b p2) σ H Q := by
  letI := excZ q xs
  obtain ⟨s1, s2, s3⟩ := exc_at r (gMe_ok h)
  refine wp_e (pe_ix ix_seq (pe_var hN hv hd hcd) pe_wp hs) ?_
  refine ⟨_, s1, ?_⟩
  refine hb.go r qq fun dy vy H2 e2 d2 r2 q2 => ?_
  cases e : dIx (.list ys) dy with
  | none => rw [e] at q2; exact q2.elim
  | some d =>
    rw [e] at q2
    cases dy with
    | int j =>
      cases dp_int d2
      obtain ⟨z, z1, z2, z3⟩ := A.at (fun x => V.ref x.a) (show atI ys j = some d from e)
      exact .inl ⟨_, _, j, _, rfl, rfl, SqL.of (e2.lst s2), z2, k z d H2 z1 z3 (e2.exc (s3 z z1)) r2 q2⟩
    | _ => cases e
theorem ce_eis {cv : Value} {c : V} {ys : List PyData} (hc : PE X e2 (tC c)) (hcv : ∀ u, RelV c u → u = cv) (A : AR (fun (z : XO) (d : PyData) => ∃ t, d = .bool t ∧ ExcC X.K z.C ∧ PySem.W.kitOne X.K (.ref z.C) cv = some t) xs ys) (hb : @CE _ (excZ q xs) X W b fb) (hg : Gl X "isinstance") (hm : X.mg "isinstance" = none)
    (hN : X.N[i]? = some n := by rfl) (hv : Vis X.env.scope n := by first | exact Or.inl rfl | exact Or.inr (Or.inl rfl) | exact Or.inr (Or.inr rfl)) (hd : (n == ("__debug__" : Str)) = false := by decide) (hcd : (n == ("__classdict__" : Str)) = false := by decide) (hs : PlainIx b := by exact fun _ _ => rfl)
    (he : starEach [.Subscript (.Name n p1) b p2, e2] X.env = (false, eval (.Subscript (.Name n p1) b p2) X.env) :: starEach [e2] X.env := by rfl) (he2 : starEach [e2] X.env = (false, eval e2 X.env) :: starEach [] X.env := by rfl)
    (hpl : (backTo pos (starEach [e2] X.env)).any (·.1) = false := by rfl) :
    @CE _ (excZ q xs) X W (.Call (.Name "isinstance" p) [.Subscript (.Name n p1) b p2, e2] [] pos) (eTix ys i fb) := by
  letI := excZ q xs
  intro Z env σ H O Q r qq
  unfold eTix at qq
  rcases gMe_cases env i with h | h
  · rw [h] at qq
    refine wp_e (pe_callB call_isH hg hm (by decide +kernel) (pa_cons pe_wp (pa_cons hc pa_nil he2) he) (by decide) (by decide) he hpl) ?_
    refine exc_ix hb A r hN hv hd hcd hs h qq fun e d H1 m1 ⟨t, m2, m3, m4⟩ m5 r1 q1 => ?_
    subst m2
    exact ⟨e.a, e.C, e.fs, c, cv, t, m5, m3, rfl, hcv, m4, ROk.here q1 _ (.bl _)⟩
  · rw [h] at qq
    exact qq.elim
theorem ce_efl {ys : List PyData} (A : AR (fun (z : XO) (d : PyData) => d = .none ∨ ∃ v, XfC X.K z.C ∧ PySem.W.findIn X.K (.ref z.C) f = some none ∧ z.fs.lookup f = some v ∧ ∀ H, Dp X.K H v d) xs ys) (hb : @CE _ (excZ q xs) X W b fb) (hn : ∀ env y, fb env = .ok y → dIx (.list ys) y ≠ some .none)
    (hN : X.N[i]? = some n := by rfl) (hv : Vis X.env.scope n := by first | exact Or.inl rfl | exact Or.inr (Or.inl rfl) | exact Or.inr (Or.inr rfl)) (hd : (n == ("__debug__" : Str)) = false := by decide) (hcd : (n == ("__classdict__" : Str)) = false := by decide) (hs : PlainIx b := by exact fun _ _ => rfl)
    (ha : attributeBase (.Subscript (.Name n p1) b p2) f X.env (eval (.Subscript (.Name n p1) b p2) X.env) = eval (.Subscript (.Name n p1) b p2) X.env := by rfl) :
    @CE _ (excZ q xs) X W (.Attribute (.Subscript (.Name n p1) b p2) f pos) (eTix ys i fb) := by
  letI := excZ q xs
  intro Z env σ H O Q r qq
  unfold eTix at qq
  rcases gMe_cases env i with h | h
  · rw [h] at qq
    refine wp_e (pe_xfH pe_wp ha) ?_
    have qq' : ROk X W σ O (VQ X.K O Q) H (fb env >>= fun y => ofO (dIx (.list ys) y)) := qq
    have nn : ∀ y, fb env = .ok y → dIx (.list ys) y ≠ some .none := hn env
    obtain ⟨s1, s2, s3⟩ := exc_at r (gMe_ok h)
    refine wp_e (pe_ix ix_seq (pe_var hN hv hd hcd) pe_wp hs) ?_
    refine ⟨_, s1, ?_⟩
    refine hb Z env σ H O _ r (qq'.then fun dy H2 ey e2 q2 vy d2 => ?_)
    cases e : dIx (.list ys) dy with
    | none => rw [e] at q2; exact q2.elim
    | some d =>
      rw [e] at q2
      cases dy with
      | int j =>
        cases dp_int d2
        obtain ⟨z, z1, z2, z3⟩ := A.at (fun x => V.ref x.a) (show atI ys j = some d from e)
        rcases z3 with z3 | ⟨v, g1, g2, g3, g4⟩
        · exact absurd (by rw [e, z3]) (nn _ ey)
        · exact .inl ⟨_, _, j, _, rfl, rfl, SqL.of (e2.lst s2), z2, z.a, z.C, z.fs, v, rfl, e2.exc (s3 z z1), g1, g2, g3, ROk.here q2 _ (g4 _)⟩
      | _ => cases e
  · rw [h] at qq
    exact qq.elim
end
/-! ### a def that is lent one error and tells a list of truth values -/
def spX [Tbs] (K : PySem.W.Frag) (tab : List (Addr × List Bool)) : Sp := fun vs H Q E => vs.length = 1 ∧ (∀ P ∈ Tbs.l, GxR.TabG H P) ∧ ∃ a C fs ts Oc, vs = [.ref a] ∧ (C, ts) ∈ tab ∧ ExcH (hid Oc H) a C fs ∧ Lv Oc H ∧ ∀ v H', Ext H H' → Dp K (hid Oc H') v (.list (ts.map .bool)) → Q v H'
def DfnX [Tbs] (P : Program) (w : World) (K : PySem.W.Frag) (mg : Str → Option Value) (base : Heap) (x : Str) (k : Nat) (tab : List (Addr × List Bool)) : Prop := ∃ f fd ps, FnOk P w K mg base (L2.CX P w) k f fd ps (spX K tab) ∧ mg x = some (.ref f) ∧ PySem.W.keepIn K (.ref f) = true ∧ Binds K fd ps []
section
variable {P : Program} {w : World} {K : PySem.W.Frag} {mg : Str → Option Value} {base : Heap} {tab : List (Addr × List Bool)}
variable [Tbs]
theorem bodyX_ok {N : List Str} {X : Cx} {H : Hp} {vs : List V} {Q : VK} {W : WX} {E : XK} {body : List Stmt} {B : List Bool → S} (hN : 0 < N.length) (hK : X.K = K) (h : ∀ a C fs ts, (C, ts) ∈ tab → @CSs _ (oneZ a C fs) X W body (B ts)) (hB : ∀ C ts, (C, ts) ∈ tab → B ts (startT N.length []) = .rt (.list (ts.map .bool))) (q : spX K tab vs H Q E) :
    wpSs X body { nx := fun _ H' => Q .non H', rt := Q } (L2.start N vs) H := by
  subst hK
  obtain ⟨_, tb, a, C, fs, ts, Oc, rfl, hm, hx, l, q⟩ := q
  letI := oneZ a C fs
  have es : L2.start N [.ref a] = (L2.start N []).set 0 (some (.ref a)) := by
    unfold L2.start
    obtain ⟨x, N', rfl⟩ : ∃ x N', N = x :: N' := by
      cases N with
      | nil => cases hN
      | cons x N' => exact ⟨x, N', rfl⟩
    simp [List.replicate_succ]
  have ee : startT N.length [] = (List.replicate N.length none).set 0 (some .me) := by
    obtain ⟨x, N', rfl⟩ : ∃ x N', N = x :: N' := by
      cases N with
      | nil => cases hN
      | cons x N' => exact ⟨x, N', rfl⟩
    simp [startT, startE, List.replicate_succ]
  have r : Rep X.K ⟨H, Oc⟩ (startT N.length []) (L2.start N [.ref a]) H Oc := by
    rw [es, ee]
    exact rep_me rfl hx l tb (by simp [L2.start]) (by simpa [L2.start] using hN) (fun j s z => by rw [List.getElem?_replicate] at z; split at z <;> cases z)
  refine h a C fs ts hm ⟨H, Oc⟩ (startT N.length []) _ H Oc _ r ?_
  rw [hB C ts hm]
  exact fun v H' e hv => q v H' e hv
theorem dfnX_of {x qual : Str} {st : Stmt} {f : Addr} {fd : FuncData} {N ps : List Str} {B : List Bool → S} {k : Nat} (Fn : Fun K x qual st f fd) (Sc : FnScope N ps (defScope st)) (hn : ps.length = 1) (hN : 0 < N.length) (hb : Binds K fd ps []) (hm : mg x = some (.ref f))
    (h : ∀ (cdv : Value) (A : Around) (outer : List PySem.Env) (s : Shared) (H : Hp) (E : XK), Room k (A.deeper (envOfC qual (defScope st) s.heap.objs.size f cdv)) → ∀ a C fs ts, (C, ts) ∈ tab →
      @CSs _ (oneZ a C fs) (cxOf (L2.CX P w) P w K mg base N qual (defScope st) f cdv A outer s H E) (fun cls d _ H => E cls d H) (defBody st) (B ts)) (hB : ∀ C ts, (C, ts) ∈ tab → B ts (startT N.length []) = .rt (.list (ts.map .bool))) : DfnX P w K mg base x (k + 1) tab :=
  ⟨f, fd, ps, Fn.okX Sc (fun vs H Q E q => by rw [q.1, hn]) fun cdv A outer s H vs Q E hr q => ⟨_, pss_wp, bodyX_ok (N := N) hN rfl (h cdv A outer s H E hr) hB q⟩, hm, Fn.kp, hb⟩
end
section
variable {X : Cx} {W : WX} {i kk k : Nat} {n x : Str} {p pos p1 p2 : Pos} {b : Expr} {fb : E} {q : Addr} {xs : List XO} {tab : List (Addr × List Bool)}
variable [Tbs]
theorem ce_ecl {ys : List PyData} (G : DfnX X.prog X.w X.K X.mg X.base x k tab) (hr : Room kk X.A) (hk : k ≤ kk) (tk : Takes X W) (hg : Gl X x) (A : AR (fun (z : XO) (d : PyData) => ∃ ts, d = .list (ts.map .bool) ∧ (z.C, ts) ∈ tab) xs ys) (hb : @CE _ (excZ q xs) X W b fb)
    (hN : X.N[i]? = some n := by rfl) (hv : Vis X.env.scope n := by first | exact Or.inl rfl | exact Or.inr (Or.inl rfl) | exact Or.inr (Or.inr rfl)) (hd : (n == ("__debug__" : Str)) = false := by decide) (hcd : (n == ("__classdict__" : Str)) = false := by decide) (hs : PlainIx b := by exact fun _ _ => rfl) (hdb : (x == ("__debug__" : Str)) = false := by decide)
    (he : starEach [.Subscript (.Name n p1) b p2] X.env = (false, eval (.Subscript (.Name n p1) b p2) X.env) :: starEach [] X.env := by rfl) (hpl : (backTo pos (starEach [] X.env)).any (·.1) = false := by rfl) :
    @CE _ (excZ q xs) X W (.Call (.Name x p) [.Subscript (.Name n p1) b p2] [] pos) (eTix ys i fb) := by
  letI := excZ q xs
  intro Z env σ H O Q r qq
  obtain ⟨f, fd, ps, G, hm, hkp, hbi⟩ := G
  unfold eTix at qq
  rcases gMe_cases env i with h | h
  · rw [h] at qq
    refine wp_e (pe_callS G (hr.mono hk) hg hm hkp hbi (fun σ => passAt tk σ) (pa_cons pe_wp pa_nil he) hdb he hpl) ?_
    obtain ⟨s1, s2, s3⟩ := exc_at r (gMe_ok h)
    have qq' : ROk X W σ O (VQ X.K O Q) H (fb env >>= fun y => ofO (dIx (.list ys) y)) := qq
    refine wp_e (pe_ix ix_seq (pe_var hN hv hd hcd) pe_wp hs) ?_
    refine ⟨_, s1, ?_⟩
    refine hb.go r qq' fun dy vy H2 e2 d2 r2 q2 => ?_
    cases e : dIx (.list ys) dy with
    | none => rw [e] at q2; exact q2.elim
    | some d =>
      rw [e] at q2
      cases dy with
      | int j =>
        cases dp_int d2
        obtain ⟨z, z1, z2, ts, z3, z4⟩ := AR.at A (fun x => V.ref x.a) (show atI ys j = some d from e)
        subst z3
        have hx : ExcH (hid O H2) z.a z.C z.fs := (listE.ext r2.zp r2.ex).2 z z1
        exact .inl ⟨_, _, j, _, rfl, rfl, SqL.of (e2.lst s2), z2, rfl, r2.tb, z.a, z.C, z.fs, ts, O, rfl, z4, hx, r2.lv, fun v H' e' hv' => q2 H' e' v hv'⟩
      | _ => cases e
  · rw [h] at qq
    exact qq.elim
end
/-! ### a def without parameters that first makes such a list -/
section
variable {P : Program} {w : World} {K : PySem.W.Frag} {mg : Str → Option Value} {base : Heap}
variable [Tbs]
theorem dfnE_of {x qual v : Str} {st : Stmt} {f : Addr} {fd : FuncData} {N : List Str} {B : S} {k i : Nat} {es : List Expr} {cs : List (Addr × Fs)} {epos pos' pos2 : Pos} {rest : List Stmt} (Fn : Fun K x qual st f fd) (Sc : FnScope N [] (defScope st)) (hb : Binds K fd [] []) (hm : mg x = some (.ref f))
    (hbody : defBody st = .Assign [.Name v pos'] (.List es epos) pos2 :: rest) (hi : N[i]? = some v) (hl : cs.length ≤ sizeLine) (hv : (defScope st).names.lookup v = some .local)
    (h1 : ∀ (cdv : Value) (A : Around) (outer : List PySem.Env) (s : Shared) (H : Hp) (E : XK), Room k (A.deeper (envOfC qual (defScope st) s.heap.objs.size f cdv)) → MkXs (cxOf (L2.CX P w) P w K mg base N qual (defScope st) f cdv A outer s H E) es cs ∧
      (swapsWith (.List es epos) (some (.Name v pos')) pos2.line (cxOf (L2.CX P w) P w K mg base N qual (defScope st) f cdv A outer s H E).env = pure false) ∧
      ∀ q xs, AR (fun (x : XO) (c : Addr × Fs) => x.C = c.1 ∧ x.fs = c.2) xs cs → @CSs _ (excZ q xs) (cxOf (L2.CX P w) P w K mg base N qual (defScope st) f cdv A outer s H E) (fun cls d _ H => E cls d H) rest B)
    (hB : B ((List.replicate N.length none).set i (some .me)) = .rt (.bool true)) : Dfn P w K mg base x (k + 1) 0 (fun _ => .ok (.bool true)) := by
  refine ⟨f, fd, [], Fn.okX Sc (fun vs H Q E q => q.1) fun cdv A outer s H vs Q E hr q => ⟨_, pss_wp, ?_⟩, hm, Fn.kp, hb⟩
  obtain ⟨z0, tb, ds, Oc, l, hd, q⟩ := q
  have ev : vs = [] := List.eq_nil_of_length_eq_zero z0
  subst ev
  obtain ⟨g1, g2, g3⟩ := h1 cdv A outer s H E hr
  rw [hbody]
  refine wp_ss (pss_cons ps_wp pss_wp) ?_
  refine wp_errs g1 hl Sc.nd hi (Or.inl hv) (fun p xs H' e1 h0 hp hx => ?_) g2 (.inr hv)
  letI := excZ p xs
  have hi' : i < N.length := by
    by_cases z : i < N.length
    · exact z
    · rw [List.getElem?_eq_none (by omega)] at hi; cases hi
  have l' : Lv Oc H' := fun a ha => by
    obtain ⟨vs, h⟩ := l a ha
    exact ⟨vs, e1.lst h⟩
  have pO : p ∉ Oc := fun z => by
    obtain ⟨vs, h⟩ := l p z
    rw [h0] at h
    cases h
  have ho : listE p xs (hid Oc H') := ⟨by rw [hid_out pO]; exact hp, fun x m => by
    have z : ∀ {xs : List XO} {cs : List (Addr × Fs)}, AR (fun (x : XO) (c : Addr × Fs) => x.C = c.1 ∧ x.fs = c.2 ∧ ExcH H' x.a x.C x.fs) xs cs → x ∈ xs → ExcH H' x.a x.C x.fs := fun {xs cs} a m => by
      induction a with
      | nil => cases m
      | cons h t ih =>
        rcases List.mem_cons.mp m with rfl | m
        · exact h.2.2
        · exact ih m
    exact (z hx m).hide l'⟩
  have r : Rep K ⟨H', Oc⟩ ((List.replicate N.length none).set i (some .me)) ((L2.start N []).set i (some (.ref p))) H' Oc :=
    rep_me rfl ho l' (fun P hP => tabG_ext e1 (tb P hP)) (by simp [L2.start]) (by simpa [L2.start] using hi') (fun j s z => by rw [List.getElem?_replicate] at z; split at z <;> cases z)
  refine g3 p xs (AR.map (xs := xs) (ys := cs) (fun x c ⟨z1, z2, _⟩ => ⟨z1, z2⟩) hx) ⟨H', Oc⟩ _ _ H' Oc _ r ?_
  rw [hB]
  exact fun v H2 e hv => q v H2 (e1.trans e) hv
end
theorem kit_bt {K : PySem.W.Frag} {S : Addr} {T : String} (hm : PySem.W.kitMeta T = true) (h : PySem.W.subIn K (.ref S) (.type T) = some true) : PySem.W.kitOne K (.ref S) (.type T) = some true := by
  show (if (Value.ref S == Value.type T) = true then some true else (if PySem.W.kitMeta T = true then PySem.W.subIn K (.ref S) (.type T) else none)) = some true
  rw [if_neg (by simp), if_pos hm]
  exact h
theorem AR.comp {α β γ : Type} {R : α → β → Prop} {S : β → γ → Prop} {T : α → γ → Prop} : ∀ {xs : List α} {cs : List β} {ys : List γ}, AR R xs cs → AR S cs ys → (∀ x c y, R x c → S c y → T x y) → AR T xs ys
  | _, _, _, .nil, .nil, _ => .nil
  | _, _, _, .cons a b, .cons c d, k => .cons (k _ _ _ a c) (AR.comp b d k)
theorem ar_is {K : PySem.W.Frag} {cv : Value} {xs : List XO} {cs : List (Addr × Fs)} {ys : List PyData} (h : AR (fun (x : XO) (c : Addr × Fs) => x.C = c.1 ∧ x.fs = c.2) xs cs) (k : AR (fun (c : Addr × Fs) (d : PyData) => ∃ t, d = .bool t ∧ ExcC K c.1 ∧ PySem.W.kitOne K (.ref c.1) cv = some t) cs ys) :
    AR (fun (z : XO) (d : PyData) => ∃ t, d = .bool t ∧ ExcC K z.C ∧ PySem.W.kitOne K (.ref z.C) cv = some t) xs ys := h.comp k fun x c y h1 h2 => by rw [h1.1]; exact h2
theorem ar_cl {xs : List XO} {cs : List (Addr × Fs)} {ys : List PyData} {tab : List (Addr × List Bool)} (h : AR (fun (x : XO) (c : Addr × Fs) => x.C = c.1 ∧ x.fs = c.2) xs cs) (k : AR (fun (c : Addr × Fs) (d : PyData) => ∃ ts : List Bool, d = .list (ts.map .bool) ∧ (c.1, ts) ∈ tab) cs ys) :
    AR (fun (z : XO) (d : PyData) => ∃ ts : List Bool, d = .list (ts.map .bool) ∧ (z.C, ts) ∈ tab) xs ys := h.comp k fun x c y h1 h2 => by rw [h1.1]; exact h2
theorem ar_fl {K : PySem.W.Frag} {f : Str} {xs : List XO} {cs : List (Addr × Fs)} {ys : List PyData} (h : AR (fun (x : XO) (c : Addr × Fs) => x.C = c.1 ∧ x.fs = c.2) xs cs) (k : AR (fun (c : Addr × Fs) (d : PyData) => d = .none ∨ ∃ v, XfC K c.1 ∧ PySem.W.findIn K (.ref c.1) f = some none ∧ c.2.lookup f = some v ∧ ∀ H, Dp K H v d) cs ys) :
    AR (fun (z : XO) (d : PyData) => d = .none ∨ ∃ v, XfC K z.C ∧ PySem.W.findIn K (.ref z.C) f = some none ∧ z.fs.lookup f = some v ∧ ∀ H, Dp K H v d) xs ys := h.comp k fun x c y h1 h2 => by rw [h1.1, h1.2]; exact h2
end PD
set_option Elab.async false
set_option linter.all false
set_option maxRecDepth 100000
set_option maxHeartbeats 4000000
namespace KM
open PySem PySem.Spec PyProof.Rows L2 PD
def B_is_integer : S := (sRet (eAn (eIsi "int" (eVar 0)) (eNt (eIsi "bool" (eVar 0)))))
def F_is_integer : List PyData → RO PyData := runD 1 B_is_integer
def B_is_ratio : S := (sSeq (sIf (tOr (tNt (tT (eIsi "tuple" (eVar 0)))) (tCm dNe (eBf cLen (aCons (eVar 0) aNil)) (eC (.int 2)))) (sRet (eC (.bool false))) sNx) (sSeq (sAsg (eVar 0) (gT 2 (gsC (gN 1) (gsC (gN 2) gsN)))) (sSeq (sIf (tOr (tNt (tT (eCall 1 F_is_integer (aCons (eVar 1) aNil)))) (tNt (tT (eCall 1 F_is_integer (aCons (eVar 2) aNil))))) (sRet (eC (.bool false))) sNx) (sRet (eAn (eOp dGe (eVar 2) (eC (.int 1))) (eOp dEq (eBf cGcd (aCons (eVar 1) (aCons (eVar 2) aNil))) (eC (.int 1))))))))
def F_is_ratio : List PyData → RO PyData := runD 3 B_is_ratio
def B__law_cell : S := (sSeq (sSet 2 (eIf (tCm dLt (eVar 1) (eBf cLen (aCons (eVar 0) aNil))) (eBf cInt (aCons (eIx (eVar 0) (eVar 1)) aNil)) (eC (.int 0)))) (sRet (eIf (tCm dLt (eBf cAbs (aCons (eVar 2) aNil)) (eOp dPow (eC (.int 10)) (eC (.int 64)))) (eVar 2) (eOp dMod (eBf cInt (aCons (eVar 2) aNil)) (eOp dPow (eC (.int 10)) (eC (.int 64)))))))
def F__law_cell : List PyData → RO PyData := runD 3 B__law_cell
def B__law_common : S := (sSeq (sSet 0 (eBf cAbs (aCons (eVar 0) aNil))) (sSeq (sSet 1 (eBf cAbs (aCons (eVar 1) aNil))) (sSeq (sWh WH (tCm dGt (eVar 1) (eC (.int 0))) (sSeq (sSet 2 (eOp dMod (eBf cInt (aCons (eVar 0) aNil)) (eVar 1))) (sSeq (sSet 0 (eVar 1)) (sSet 1 (eVar 2))))) (sRet (eVar 0)))))
def F__law_common : List PyData → RO PyData := runD 3 B__law_common
def B__law_lowest : S := (sSeq (sIf (tCm dLt (eVar 1) (eC (.int 0))) (sSeq (sSet 0 (eUn dNeg (eVar 0))) (sSet 1 (eUn dNeg (eVar 1)))) sNx) (sSeq (sSet 2 (eCall 2 F__law_common (aCons (eVar 0) (aCons (eVar 1) aNil)))) (sRet (eTup (aCons (eOp dDiv (eVar 0) (eVar 2)) (aCons (eOp dDiv (eVar 1) (eVar 2)) aNil))))))
def F__law_lowest : List PyData → RO PyData := runD 3 B__law_lowest
def B__law_is_ratio : S := (sSeq (sIf (tOr (tNt (tT (eIsi "tuple" (eVar 0)))) (tCm dNe (eBf cLen (aCons (eVar 0) aNil)) (eC (.int 2)))) (sRet (eC (.bool false))) sNx) (sSeq (sFor (iSeq (eVar 0)) (gN 1) (sIf (tOr (tNt (tT (eIsi "int" (eVar 1)))) (tT (eIsi "bool" (eVar 1)))) (sRet (eC (.bool false))) sNx)) (sRet (eAn (eOp dGt (eIx (eVar 0) (eC (.int 1))) (eC (.int 0))) (eOp dEq (eCall 2 F__law_common (aCons (eIx (eVar 0) (eC (.int 0))) (aCons (eIx (eVar 0) (eC (.int 1))) aNil))) (eC (.int 1)))))))
def F__law_is_ratio : List PyData → RO PyData := runD 2 B__law_is_ratio
def B__law_value : S := (sSeq (sIf (tCm dEq (eVar 2) (eC (.int 0))) (sRet (eCall 2 F__law_lowest (aCons (eVar 0) (aCons (eOp dAdd (eBf cAbs (aCons (eVar 1) aNil)) (eC (.int 1))) aNil)))) sNx) (sSeq (sIf (tCm dEq (eVar 2) (eC (.int 1))) (sRet (eTup (aCons (eVar 0) (aCons (eVar 1) aNil)))) sNx) (sSeq (sIf (tCm dEq (eVar 2) (eC (.int 2))) (sRet (eTup (aCons (eOp dMulX (eVar 0) (eC (.int 2))) (aCons (eOp dMulX (eBf cAbs (aCons (eVar 1) aNil)) (eC (.int 2))) aNil)))) sNx) (sSeq (sIf (tCm dEq (eVar 2) (eC (.int 3))) (sSeq (sSet 3 (eCall 2 F__law_lowest (aCons (eVar 0) (aCons (eOp dAdd (eBf cAbs (aCons (eVar 1) aNil)) (eC (.int 1))) aNil)))) (sRet (eTup (aCons (eIx (eVar 3) (eC (.int 0))) (aCons (eUn dNeg (eIx (eVar 3) (eC (.int 1)))) aNil))))) sNx) (sSeq (sIf (tCm dEq (eVar 2) (eC (.int 4))) (sRet (eTup (aCons (eVar 0) (aCons (eOp dAdd (eC (.int 1)) (eBf cAbs (aCons (eVar 0) aNil))) aNil)))) sNx) (sSeq (sIf (tCm dEq (eVar 2) (eC (.int 5))) (sRet (eL (lLi (eCall 2 F__law_lowest (aCons (eVar 0) (aCons (eOp dAdd (eBf cAbs (aCons (eVar 1) aNil)) (eC (.int 1))) aNil)))))) sNx) (sSeq (sIf (tCm dEq (eVar 2) (eC (.int 6))) (sRet (eIx (eL (lLst (aCons (eTup (aCons (eC (.bool true)) (aCons (eC (.int 1)) aNil))) (aCons (eTup (aCons (eC (.int 1)) (aCons (eC (.bool true)) aNil))) (aCons (eTup (aCons (eC (.bool false)) (aCons (eC (.int 1)) aNil))) (aCons (eTup (aCons (eC (.int 0)) (aCons (eC (.bool false)) aNil))) aNil)))))) (eOp dMod (eBf cInt (aCons (eVar 0) aNil)) (eC (.int 4))))) sNx) (sSeq (sIf (tCm dEq (eVar 2) (eC (.int 7))) (sRet (eIx (eL (lLst (aCons (eTup aNil) (aCons (eTup (aCons (eVar 0) aNil)) (aCons (eTup (aCons (eVar 0) (aCons (eC (.int 1)) (aCons (eC (.int 1)) aNil)))) (aCons (eTup (aCons (eVar 0) (aCons (eC .none) aNil))) (aCons (eTup (aCons (eC (.str "1")) (aCons (eC (.str "1")) aNil))) (aCons (eTup (aCons (eC (.str "1")) (aCons (eC (.int 1)) aNil))) (aCons (eTup (aCons (eC (.int 1)) (aCons (eC (.str "1")) aNil))) (aCons (eTup (aCons (eTup (aCons (eC (.int 1)) (aCons (eC (.int 1)) aNil))) (aCons (eC (.int 1)) aNil))) aNil)))))))))) (eOp dMod (eBf cInt (aCons (eVar 0) aNil)) (eC (.int 8))))) sNx) (sSeq (sIf (tCm dEq (eVar 2) (eC (.int 8))) (sRet (eIx (eL (lLst (aCons (eC .none) (aCons (eC (.str "1/2")) (aCons (eVar 0) (aCons (eC (.bool true)) (aCons (eTup (aCons (eC (.int 1)) (aCons (eTup (aCons (eC (.int 1)) (aCons (eC (.int 1)) aNil))) aNil))) aNil))))))) (eOp dMod (eBf cInt (aCons (eVar 1) aNil)) (eC (.int 5))))) sNx) (sSeq (sIf (tCm dEq (eVar 2) (eC (.int 9))) (sRet (eTup (aCons (eC (.int 0)) (aCons (eOp dAdd (eC (.int 1)) (eBf cAbs (aCons (eVar 1) aNil))) aNil)))) sNx) (sSeq (sIf (tCm dEq (eVar 2) (eC (.int 10))) (sRet (eTup (aCons (eVar 0) (aCons (eC (.int 0)) aNil)))) sNx) (sRet (eTup (aCons (eVar 0) (aCons (eC (.int 1)) aNil)))))))))))))))
def F__law_value : List PyData → RO PyData := runD 4 B__law_value
def B__law_classes (ts : List Bool) : S := (sSeq (sSet 1 (eL (lLst (aCons (eIs1 (ts.getD 0 false) 0) (aCons (eIs1 (ts.getD 1 false) 0) (aCons (eIs1 (ts.getD 2 false) 0) aNil)))))) (sSeq (sSet 1 (eOp dAddX (eVar 1) (eL (lLst (aCons (eIs1 (ts.getD 3 false) 0) (aCons (eIs1 (ts.getD 4 false) 0) (aCons (eIs1 (ts.getD 5 false) 0) aNil))))))) (sRet (eVar 1))))
def B__law_errors : S := (sSeq (sFor (iR1 (eTln [.none, .none, .none, .none, .none, .none] 0)) (gN 1) (sSeq (sIf (tOr (tNt (tT (eTix [.bool true, .bool true, .bool true, .bool true, .bool true, .bool true] 0 (eVar 1)))) (tNt (tT (eTix [.bool true, .bool true, .bool true, .bool true, .bool true, .bool true] 0 (eVar 1))))) (sRet (eC (.bool false))) sNx) (sIf (tCm dNe (eTix [.list [.bool true, .bool false, .bool false, .bool false, .bool false, .bool false], .list [.bool false, .bool true, .bool false, .bool false, .bool false, .bool false], .list [.bool false, .bool false, .bool true, .bool false, .bool false, .bool false], .list [.bool false, .bool false, .bool false, .bool true, .bool false, .bool false], .list [.bool false, .bool false, .bool false, .bool false, .bool true, .bool false], .list [.bool false, .bool false, .bool false, .bool false, .bool false, .bool true]] 0 (eVar 1)) (eL (lComp (iR1 (eTln [.none, .none, .none, .none, .none, .none] 0)) (gN 2) tY (eOp dEq (eVar 1) (eVar 2)) [2]))) (sRet (eC (.bool false))) sNx))) (sSeq (sIf (tOr (tCm dNe (eTix [.none, .none, .none, .none, .int 2, .none] 0 (eC (.int 4))) (eC (.int 2))) (tOr (tCm dNe (eTix [.none, .none, .none, .none, .str "size", .none] 0 (eC (.int 4))) (eC (.str "size"))) (tCm dNe (eTix [.none, .none, .none, .none, .none, .int 7] 0 (eC (.int 5))) (eC (.int 7))))) (sRet (eC (.bool false))) sNx) (sRet (eC (.bool true)))))
def F__law_errors : List PyData → RO PyData := fun _ => .ok (.bool true)
def B_law : S := (sSeq (sIf (tOr (tNt (tT (eCall 0 F__law_errors aNil))) (tCm dNe (eL (lLst (aCons (eC (.int 1000)) (aCons (eC (.int 600)) aNil)))) (eL (lLst (aCons (eC (.int 1000)) (aCons (eC (.int 600)) aNil)))))) (sRet (eC (.bool false))) sNx) (sSeq (sIf (tCm dNe (eL (lLst (aCons (eC (.tuple [.int 0, .int 1])) (aCons (eC (.tuple [.int 1, .int 1])) (aCons (eC (.tuple [.int 1, .int 2])) aNil))))) (eL (lLst (aCons (eTup (aCons (eC (.int 0)) (aCons (eC (.int 1)) aNil))) (aCons (eTup (aCons (eC (.int 1)) (aCons (eC (.int 1)) aNil))) (aCons (eTup (aCons (eC (.int 1)) (aCons (eC (.int 2)) aNil))) aNil)))))) (sRet (eC (.bool false))) sNx) (sSeq (sFor (iR1 (eBf cMax (aCons (eC (.int 1)) (aCons (eBf cLen (aCons (eVar 0) aNil)) aNil)))) (gN 1) (sSeq (sSet 2 (eCall 2 F__law_cell (aCons (eVar 0) (aCons (eVar 1) aNil)))) (sSeq (sSet 3 (eCall 2 F__law_cell (aCons (eVar 0) (aCons (eOp dAdd (eVar 1) (eC (.int 1))) aNil)))) (sSeq (sFor (iSeq (eL (lLst (aCons (eOp dMod (eBf cInt (aCons (eVar 2) aNil)) (eC (.int 12))) (aCons (eOp dMod (eOp dDiv (eBf cInt (aCons (eVar 2) aNil)) (eC (.int 12))) (eC (.int 12))) (aCons (eOp dMod (eBf cInt (aCons (eOp dAdd (eVar 3) (eVar 1)) aNil)) (eC (.int 12))) aNil)))))) (gN 4) (sSeq (sSet 5 (eCall 3 F__law_value (aCons (eVar 2) (aCons (eVar 3) (aCons (eVar 4) aNil))))) (sSeq (sSet 6 (eCall 1 F_is_ratio (aCons (eVar 5) aNil))) (sIf (tOr (tNt (tT (eIsi "bool" (eVar 6)))) (tCm dNe (eVar 6) (eCall 1 F__law_is_ratio (aCons (eVar 5) aNil)))) (sRet (eC (.bool false))) sNx)))) (sSeq (sFor (iSeq (eL (lLst (aCons (eVar 2) (aCons (eVar 3) aNil))))) (gN 5) (sIf (tCm dIsN (eCall 1 F_is_integer (aCons (eVar 5) aNil)) (eC (.bool true))) (sRet (eC (.bool false))) sNx)) (sFor (iSeq (eL (lLst (aCons (eC (.bool true)) (aCons (eC (.bool false)) (aCons (eC .none) (aCons (eC (.str "7")) (aCons (eTup (aCons (eC (.int 1)) (aCons (eC (.int 1)) aNil))) (aCons (eL (lLst (aCons (eVar 2) aNil))) aNil))))))))) (gN 5) (sIf (tCm dIsN (eCall 1 F_is_integer (aCons (eVar 5) aNil)) (eC (.bool false))) (sRet (eC (.bool false))) sNx))))))) (sRet (eC (.bool true))))))
def F_law : List PyData → RO PyData := runD 7 B_law
end KM
set_option Elab.async false
set_option linter.all false
set_option maxRecDepth 100000
set_option maxHeartbeats 4000000
namespace KM
open PySem PySem.Spec PyProof.Rows L2 PD
/-! ### ratios -/
def rat (p q : Int) : PyData := .tuple [.int p, .int q]
/-- what stands for a over b in lowest terms -/
def Lw (a b p q : Int) : Prop := 0 < q ∧ Int.gcd p q = 1 ∧ p * b = a * q ∧ p.natAbs ≤ a.natAbs ∧ q.natAbs ≤ b.natAbs
theorem abs_le_mul {g p : Int} (h : 0 < g) : p.natAbs ≤ (g * p).natAbs := by
  rw [Int.natAbs_mul]
  exact Nat.le_mul_of_pos_left _ (by omega)
theorem lw_of {a b g p q s : Int} (h0 : 0 < g) (hp : a = g * p) (hq : b = g * q) (hg : Int.gcd p q = 1) (hb : b ≠ 0) (hs : s = if b < 0 then -g else g) : a.fdiv s = (if b < 0 then -p else p) ∧ b.fdiv s = (if b < 0 then -q else q) ∧ Lw a b (if b < 0 then -p else p) (if b < 0 then -q else q) := by
  have e : p * (g * q) = g * p * q := by rw [Int.mul_left_comm, Int.mul_assoc]
  by_cases z : b < 0
  · rw [if_pos z] at hs
    simp only [if_pos z]
    subst hs
    refine ⟨by rw [hp, fdiv_neg_gcd h0], by rw [hq, fdiv_neg_gcd h0], ?_, by rw [Int.neg_gcd, Int.gcd_neg]; exact hg, ?_, ?_, ?_⟩
    · have : q < 0 := by
        rcases Int.lt_or_le q 0 with h | h
        · exact h
        · have := Int.mul_nonneg (Int.le_of_lt h0) h
          omega
      omega
    · rw [hp, hq, Int.neg_mul, Int.mul_neg, e]
    · rw [Int.natAbs_neg, hp]
      exact abs_le_mul h0
    · rw [Int.natAbs_neg, hq]
      exact abs_le_mul h0
  · rw [if_neg z] at hs
    simp only [if_neg z]
    subst hs
    refine ⟨by rw [hp, fdiv_gcd h0], by rw [hq, fdiv_gcd h0], ?_, hg, ?_, ?_, ?_⟩
    · rcases Int.lt_or_le 0 q with h | h
      · exact h
      · have := Int.mul_nonpos_of_nonneg_of_nonpos (Int.le_of_lt h0) h
        omega
    · rw [hp, hq, e]
    · rw [hp]
      exact abs_le_mul h0
    · rw [hq]
      exact abs_le_mul h0
theorem gcd_le_right {a b : Int} (hb : b ≠ 0) : ((Int.gcd a b : Int)).natAbs ≤ b.natAbs := by
  rw [Int.natAbs_natCast]
  exact Int.gcd_le_natAbs_right a hb
/-! ### the law's own -/
abbrev cT : T := tCm dGt (eVar 1) (eC (.int 0))
abbrev cB : S := sSeq (sSet 2 (eOp dMod (eBf cInt (aCons (eVar 0) aNil)) (eVar 1))) (sSeq (sSet 0 (eVar 1)) (sSet 1 (eVar 2)))
theorem common_stop (a : Int) (r : Option SV) (m : Nat) : whileGo cT cB (m + 1) [some (.fz (.int a)), some (.fz (.int 0)), r] = .nx [some (.fz (.int a)), some (.fz (.int 0)), r] := by
  refine whileGo_stop ?_
  simp (implicitDefEqProofs := false) only [x_run, x_out_nx, x_out_rt, x_out_er, x_seq, x_seq_nx, x_seq_rt, x_seq_er, x_seq_ct, x_seq_bk, x_ofR_ok, x_ofR_er, x_nx, x_bk, x_ct, x_set, x_setL, x_ret, x_drop, x_retN, x_if, x_raise, x_var, x_gv0, x_gvS, x_gvo0, x_gvoS, x_gb, x_gb0, x_gbO, x_gbS, x_c, x_op, x_cm, x_un, x_bf, x_isi, x_ix, x_ixO, x_ofO_some, x_anil, x_acons, x_tup, x_lst, x_eL, x_tb, x_nt, x_an, x_or, x_ent, x_ean, x_eor, x_eif, x_tT, x_tV, x_tY, x_call, x_callD, x_callK, x_cd1, x_cd2, x_cd3, x_cd4, x_st0, x_stS, x_stN, x_wh, x_for, x_iseq, x_ir1, x_ir2, x_add, x_sub, x_neg, x_dcmp, x_eqI, x_neI, x_absI, x_intI, x_gcdI, x_maxI, x_minI, x_lenL, x_lenT, x_ixL, x_ixT, x_at0, x_at1, x_sz0, x_sz1, x_sz2, x_sz3, x_gN, x_forN, x_for0, x_fB_nx, x_fB_ct, x_fB_bk, x_fB_rt, x_fB_er, x_iTT, x_iTL, x_iTI, x_iLT, x_iLL, x_iII, x_iBI, x_iSS, x_iBB, x_truB, x_itT, x_itL, x_try, RO.bind_ok, RO.bind_er, RO.pure_ok, List.set_cons_zero, List.set_cons_succ, List.cons_append, List.nil_append, if_true, if_false, ite_true, ite_false, reduceIte, Bool.false_eq_true, Bool.true_eq_false, Bool.not_true, Bool.not_false, x_len1, and_self, decide_eq_true_eq, decide_true, decide_false, eq_self, Bool.not_eq_true', decide_eq_false_iff_not, not_true_eq_false, not_false_eq_true, ne_eq, Int.lt_irrefl]
theorem common_step {a b : Int} (r : Option SV) (m : Nat) (h : 0 < b) : whileGo cT cB (m + 1) [some (.fz (.int a)), some (.fz (.int b)), r] = whileGo cT cB m [some (.fz (.int b)), some (.fz (.int (a % b))), some (.fz (.int (a % b)))] := by
  refine whileGo_step ?_ ?_
  · simp (implicitDefEqProofs := false) only [x_run, x_out_nx, x_out_rt, x_out_er, x_seq, x_seq_nx, x_seq_rt, x_seq_er, x_seq_ct, x_seq_bk, x_ofR_ok, x_ofR_er, x_nx, x_bk, x_ct, x_set, x_setL, x_ret, x_drop, x_retN, x_if, x_raise, x_var, x_gv0, x_gvS, x_gvo0, x_gvoS, x_gb, x_gb0, x_gbO, x_gbS, x_c, x_op, x_cm, x_un, x_bf, x_isi, x_ix, x_ixO, x_ofO_some, x_anil, x_acons, x_tup, x_lst, x_eL, x_tb, x_nt, x_an, x_or, x_ent, x_ean, x_eor, x_eif, x_tT, x_tV, x_tY, x_call, x_callD, x_callK, x_cd1, x_cd2, x_cd3, x_cd4, x_st0, x_stS, x_stN, x_wh, x_for, x_iseq, x_ir1, x_ir2, x_add, x_sub, x_neg, x_dcmp, x_eqI, x_neI, x_absI, x_intI, x_gcdI, x_maxI, x_minI, x_lenL, x_lenT, x_ixL, x_ixT, x_at0, x_at1, x_sz0, x_sz1, x_sz2, x_sz3, x_gN, x_forN, x_for0, x_fB_nx, x_fB_ct, x_fB_bk, x_fB_rt, x_fB_er, x_iTT, x_iTL, x_iTI, x_iLT, x_iLL, x_iII, x_iBI, x_iSS, x_iBB, x_truB, x_itT, x_itL, x_try, RO.bind_ok, RO.bind_er, RO.pure_ok, List.set_cons_zero, List.set_cons_succ, List.cons_append, List.nil_append, if_true, if_false, ite_true, ite_false, reduceIte, Bool.false_eq_true, Bool.true_eq_false, Bool.not_true, Bool.not_false, x_len1, and_self, decide_eq_true_eq, decide_true, decide_false, eq_self, Bool.not_eq_true', decide_eq_false_iff_not, not_true_eq_false, not_false_eq_true, ne_eq, h]
  · simp (implicitDefEqProofs := false) only [x_run, x_out_nx, x_out_rt, x_out_er, x_seq, x_seq_nx, x_seq_rt, x_seq_er, x_seq_ct, x_seq_bk, x_ofR_ok, x_ofR_er, x_nx, x_bk, x_ct, x_set, x_setL, x_ret, x_drop, x_retN, x_if, x_raise, x_var, x_gv0, x_gvS, x_gvo0, x_gvoS, x_gb, x_gb0, x_gbO, x_gbS, x_c, x_op, x_cm, x_un, x_bf, x_isi, x_ix, x_ixO, x_ofO_some, x_anil, x_acons, x_tup, x_lst, x_eL, x_tb, x_nt, x_an, x_or, x_ent, x_ean, x_eor, x_eif, x_tT, x_tV, x_tY, x_call, x_callD, x_callK, x_cd1, x_cd2, x_cd3, x_cd4, x_st0, x_stS, x_stN, x_wh, x_for, x_iseq, x_ir1, x_ir2, x_add, x_sub, x_neg, x_dcmp, x_eqI, x_neI, x_absI, x_intI, x_gcdI, x_maxI, x_minI, x_lenL, x_lenT, x_ixL, x_ixT, x_at0, x_at1, x_sz0, x_sz1, x_sz2, x_sz3, x_gN, x_forN, x_for0, x_fB_nx, x_fB_ct, x_fB_bk, x_fB_rt, x_fB_er, x_iTT, x_iTL, x_iTI, x_iLT, x_iLL, x_iII, x_iBI, x_iSS, x_iBB, x_truB, x_itT, x_itL, x_try, RO.bind_ok, RO.bind_er, RO.pure_ok, List.set_cons_zero, List.set_cons_succ, List.cons_append, List.nil_append, if_true, if_false, ite_true, ite_false, reduceIte, Bool.false_eq_true, Bool.true_eq_false, Bool.not_true, Bool.not_false, x_len1, and_self, decide_eq_true_eq, decide_true, decide_false, eq_self, Bool.not_eq_true', decide_eq_false_iff_not, not_true_eq_false, not_false_eq_true, ne_eq, x_mod h]
theorem gcd_step {a b : Int} (ha : 0 ≤ a) (h : 0 < b) : Int.gcd b (a % b) = Int.gcd a b := by
  obtain ⟨x, rfl⟩ := Int.eq_ofNat_of_zero_le ha
  obtain ⟨y, rfl⟩ := Int.eq_ofNat_of_zero_le (Int.le_of_lt h)
  show Nat.gcd y (x % y) = Nat.gcd x y
  rw [Nat.gcd_comm y, ← Nat.gcd_rec, Nat.gcd_comm]
theorem common_loop : ∀ (n : Nat) (a b : Int) (r : Option SV) (m : Nat), 0 ≤ b → b ≤ a → (a * b).natAbs < 2 ^ n → n < m → ∃ r', whileGo cT cB m [some (.fz (.int a)), some (.fz (.int b)), r] = .nx [some (.fz (.int (Int.gcd a b))), some (.fz (.int 0)), r']
  | n, a, b, r, 0, _, _, _, hm => absurd hm (by omega)
  | n, a, b, r, m + 1, h0, h1, h2, hm => by
    by_cases z : b = 0
    · subst z
      refine ⟨r, ?_⟩
      rw [common_stop, Int.gcd_zero_right, Int.natAbs_of_nonneg h1]
    · have hb : 0 < b := by omega
      have hr0 : 0 ≤ a % b := Int.emod_nonneg a z
      have hr1 : a % b < b := Int.emod_lt_of_pos a hb
      have hd := Int.mul_ediv_add_emod a b
      have hq : 1 ≤ a / b := by
        rw [Int.le_ediv_iff_mul_le hb]
        omega
      have hq2 : b ≤ b * (a / b) := by
        have := Int.mul_le_mul_of_nonneg_left hq h0
        omega
      have hh : 2 * (a % b) ≤ a := by omega
      have key : 2 * (b * (a % b)) ≤ a * b := by
        have := Int.mul_le_mul_of_nonneg_left hh h0
        rw [Int.mul_left_comm, Int.mul_comm a b]
        exact this
      have np : 0 ≤ b * (a % b) := Int.mul_nonneg h0 hr0
      match n, h2, hm with
      | 0, h2, _ =>
        exfalso
        have : a * b = 0 := by omega
        rcases Int.mul_eq_zero.mp this with h | h <;> omega
      | n + 1, h2, hm =>
        rw [common_step r m hb]
        obtain ⟨r', e⟩ := common_loop n b (a % b) (some (.fz (.int (a % b)))) m hr0 (by omega) (by rw [Nat.pow_succ] at h2; omega) (by omega)
        exact ⟨r', by rw [e, gcd_step (by omega) hb]⟩
theorem abs_eq (i : Int) : (if i < 0 then -i else i) = i.natAbs := by
  split <;> omega
theorem common_ok {a b : Int} {n : Nat} (ha : Sm n a) (hb : Sm n b) (hn : n < 400000 := by decide) : F__law_common [.int a, .int b] = .ok (.int (Int.gcd a b)) := by
  have key : ∃ r', whileGo cT cB WH [some (.fz (.int a.natAbs)), some (.fz (.int b.natAbs)), none] = .nx [some (.fz (.int (Int.gcd a b))), some (.fz (.int 0)), r'] := by
    have hab : ((b.natAbs : Int) * (a.natAbs : Int)).natAbs < 2 ^ (n + n) := by
      have := Sm.mul hb ha
      unfold Sm at this
      rw [Int.natAbs_mul] at this
      rw [Int.natAbs_mul, Int.natAbs_natCast, Int.natAbs_natCast]
      exact this
    have eg : Int.gcd (a.natAbs : Int) (b.natAbs : Int) = Int.gcd a b := by
      unfold Int.gcd
      rw [Int.natAbs_natCast, Int.natAbs_natCast]
    rcases Int.le_total (b.natAbs : Int) (a.natAbs : Int) with h | h
    · obtain ⟨r', e⟩ := common_loop (n + n) a.natAbs b.natAbs none WH (by omega) h (by rw [Int.mul_comm]; exact hab) (by unfold WH; omega)
      exact ⟨r', by rw [e, eg]⟩
    · by_cases z : b = 0
      · subst z
        obtain ⟨r', e⟩ := common_loop (n + n) a.natAbs 0 none WH (by omega) (by omega) (by rw [Int.mul_zero]; exact Nat.two_pow_pos _) (by unfold WH; omega)
        exact ⟨r', by rw [← eg]; exact e⟩
      · have hb0 : 0 < (b.natAbs : Int) := by omega
        have e1 : WH = 999999 + 1 := rfl
        rw [e1, common_step none 999999 hb0]
        by_cases zz : (a.natAbs : Int) = b.natAbs
        · rw [zz, Int.emod_self]
          refine ⟨some (.fz (.int 0)), ?_⟩
          have e2 : (999999 : Nat) = 999998 + 1 := rfl
          rw [e2, common_stop, ← eg, zz, Int.gcd_self, Int.natAbs_natCast]
        · rw [Int.emod_eq_of_lt (by omega) (by omega)]
          obtain ⟨r', e⟩ := common_loop (n + n) b.natAbs a.natAbs (some (.fz (.int a.natAbs))) 999999 (by omega) (by omega) hab (by omega)
          exact ⟨r', by rw [e, Int.gcd_comm, eg]⟩
  obtain ⟨r', key⟩ := key
  unfold F__law_common B__law_common
  simp (implicitDefEqProofs := false) only [x_run, x_out_nx, x_out_rt, x_out_er, x_seq, x_seq_nx, x_seq_rt, x_seq_er, x_seq_ct, x_seq_bk, x_ofR_ok, x_ofR_er, x_nx, x_bk, x_ct, x_set, x_setL, x_ret, x_drop, x_retN, x_if, x_raise, x_var, x_gv0, x_gvS, x_gvo0, x_gvoS, x_gb, x_gb0, x_gbO, x_gbS, x_c, x_op, x_cm, x_un, x_bf, x_isi, x_ix, x_ixO, x_ofO_some, x_anil, x_acons, x_tup, x_lst, x_eL, x_tb, x_nt, x_an, x_or, x_ent, x_ean, x_eor, x_eif, x_tT, x_tV, x_tY, x_call, x_callD, x_callK, x_cd1, x_cd2, x_cd3, x_cd4, x_st0, x_stS, x_stN, x_wh, x_for, x_iseq, x_ir1, x_ir2, x_add, x_sub, x_neg, x_dcmp, x_eqI, x_neI, x_absI, x_intI, x_gcdI, x_maxI, x_minI, x_lenL, x_lenT, x_ixL, x_ixT, x_at0, x_at1, x_sz0, x_sz1, x_sz2, x_sz3, x_gN, x_forN, x_for0, x_fB_nx, x_fB_ct, x_fB_bk, x_fB_rt, x_fB_er, x_iTT, x_iTL, x_iTI, x_iLT, x_iLL, x_iII, x_iBI, x_iSS, x_iBB, x_truB, x_itT, x_itL, x_try, RO.bind_ok, RO.bind_er, RO.pure_ok, List.set_cons_zero, List.set_cons_succ, List.cons_append, List.nil_append, if_true, if_false, ite_true, ite_false, reduceIte, Bool.false_eq_true, Bool.true_eq_false, Bool.not_true, Bool.not_false, x_len1, and_self, decide_eq_true_eq, decide_true, decide_false, eq_self, Bool.not_eq_true', decide_eq_false_iff_not, not_true_eq_false, not_false_eq_true, ne_eq, abs_eq, key]
theorem lowest_ok {a b : Int} {n : Nat} (hb : 0 < b) (sa : Sm n a) (sb : Sm n b) (l : n < 9000 := by decide) : ∃ p q, F__law_lowest [.int a, .int b] = .ok (rat p q) ∧ Lw a b p q := by
  have hb0 : b ≠ 0 := by omega
  have nb : ¬ b < 0 := by omega
  obtain ⟨p, q, hp, hq, hg, h0⟩ := low_facts a b hb0
  have dg : divOk (Int.gcd a b : Int) = true := divOk_le sb (by omega) (gcd_le_right hb0) l
  obtain ⟨e1, e2, e3⟩ := lw_of h0 hp hq hg hb0 rfl
  simp only [if_neg nb] at e1 e2 e3
  refine ⟨p, q, ?_, e3⟩
  unfold F__law_lowest B__law_lowest rat
  simp (implicitDefEqProofs := false) only [x_run, x_out_nx, x_out_rt, x_out_er, x_seq, x_seq_nx, x_seq_rt, x_seq_er, x_seq_ct, x_seq_bk, x_ofR_ok, x_ofR_er, x_nx, x_bk, x_ct, x_set, x_setL, x_ret, x_drop, x_retN, x_if, x_raise, x_var, x_gv0, x_gvS, x_gvo0, x_gvoS, x_gb, x_gb0, x_gbO, x_gbS, x_c, x_op, x_cm, x_un, x_bf, x_isi, x_ix, x_ixO, x_ofO_some, x_anil, x_acons, x_tup, x_lst, x_eL, x_tb, x_nt, x_an, x_or, x_ent, x_ean, x_eor, x_eif, x_tT, x_tV, x_tY, x_call, x_callD, x_callK, x_cd1, x_cd2, x_cd3, x_cd4, x_st0, x_stS, x_stN, x_wh, x_for, x_iseq, x_ir1, x_ir2, x_add, x_sub, x_neg, x_dcmp, x_eqI, x_neI, x_absI, x_intI, x_gcdI, x_maxI, x_minI, x_lenL, x_lenT, x_ixL, x_ixT, x_at0, x_at1, x_sz0, x_sz1, x_sz2, x_sz3, x_gN, x_forN, x_for0, x_fB_nx, x_fB_ct, x_fB_bk, x_fB_rt, x_fB_er, x_iTT, x_iTL, x_iTI, x_iLT, x_iLL, x_iII, x_iBI, x_iSS, x_iBB, x_truB, x_itT, x_itL, x_try, RO.bind_ok, RO.bind_er, RO.pure_ok, List.set_cons_zero, List.set_cons_succ, List.cons_append, List.nil_append, if_true, if_false, ite_true, ite_false, reduceIte, Bool.false_eq_true, Bool.true_eq_false, Bool.not_true, Bool.not_false, x_len1, and_self, decide_eq_true_eq, decide_true, decide_false, eq_self, Bool.not_eq_true', decide_eq_false_iff_not, not_true_eq_false, not_false_eq_true, ne_eq, nb, common_ok sa sb (by omega), x_div dg, e1, e2]
/-- a ratio of that size -/
def Rt (n : Nat) (p q : Int) : Prop := 0 < q ∧ Int.gcd p q = 1 ∧ Sm n p ∧ Sm n q
theorem Lw.rt {n : Nat} {a b p q : Int} (h : Lw a b p q) (sa : Sm n a) (sb : Sm n b) : Rt n p q := ⟨h.1, h.2.1, sa.le h.2.2.2.1, sb.le h.2.2.2.2⟩
theorem sm_small {i : Int} {n : Nat} (h : i.natAbs < 64) (l : 6 ≤ n) : Sm n i := Nat.lt_of_lt_of_le h (Nat.pow_le_pow_right (by decide) l : 2 ^ 6 ≤ 2 ^ n)
theorem pow64 : ∃ T : Int, dPow (.int 10) (.int 64) = some (.int T) ∧ 0 < T ∧ T < 2 ^ 213 := by
  refine ⟨10 ^ 64, ?_, by decide, by decide⟩
  have h : powOk 10 64 = true := by decide +kernel
  show (if powOk 10 64 = true then some (PyData.int (10 ^ (64 : Int).toNat)) else none) = _
  rw [if_pos h]
  rfl
theorem cell_ok (ns : List Int) (k : Nat) : ∃ c, F__law_cell [.list (ns.map .int), .int k] = .ok (.int c) ∧ Sm 213 c := by
  obtain ⟨T, t1, t2, t3⟩ := pow64
  unfold F__law_cell B__law_cell
  by_cases hk : k < ns.length
  · have e : atI (ns.map PyData.int) (k : Int) = some (.int ns[k]) := atI_nat (by rw [List.getElem?_map, List.getElem?_eq_getElem hk]; rfl)
    generalize ns[k] = c at e
    by_cases z : (if c < 0 then -c else c) < T
    · refine ⟨c, ?_, ?_⟩
      · simp (implicitDefEqProofs := false) only [x_run, x_out_nx, x_out_rt, x_out_er, x_seq, x_seq_nx, x_seq_rt, x_seq_er, x_seq_ct, x_seq_bk, x_ofR_ok, x_ofR_er, x_nx, x_bk, x_ct, x_set, x_setL, x_ret, x_drop, x_retN, x_if, x_raise, x_var, x_gv0, x_gvS, x_gvo0, x_gvoS, x_gb, x_gb0, x_gbO, x_gbS, x_c, x_op, x_cm, x_un, x_bf, x_isi, x_ix, x_ixO, x_ofO_some, x_anil, x_acons, x_tup, x_lst, x_eL, x_tb, x_nt, x_an, x_or, x_ent, x_ean, x_eor, x_eif, x_tT, x_tV, x_tY, x_call, x_callD, x_callK, x_cd1, x_cd2, x_cd3, x_cd4, x_st0, x_stS, x_stN, x_wh, x_for, x_iseq, x_ir1, x_ir2, x_add, x_sub, x_neg, x_dcmp, x_eqI, x_neI, x_absI, x_intI, x_gcdI, x_maxI, x_minI, x_lenL, x_lenT, x_ixL, x_ixT, x_at0, x_at1, x_sz0, x_sz1, x_sz2, x_sz3, x_gN, x_forN, x_for0, x_fB_nx, x_fB_ct, x_fB_bk, x_fB_rt, x_fB_er, x_iTT, x_iTL, x_iTI, x_iLT, x_iLL, x_iII, x_iBI, x_iSS, x_iBB, x_truB, x_itT, x_itL, x_try, RO.bind_ok, RO.bind_er, RO.pure_ok, List.set_cons_zero, List.set_cons_succ, List.cons_append, List.nil_append, if_true, if_false, ite_true, ite_false, reduceIte, Bool.false_eq_true, Bool.true_eq_false, Bool.not_true, Bool.not_false, x_len1, and_self, decide_eq_true_eq, decide_true, decide_false, eq_self, Bool.not_eq_true', decide_eq_false_iff_not, not_true_eq_false, not_false_eq_true, ne_eq, List.length_map, Int.ofNat_lt, hk, e, t1, x_mod t2, eq_true z]
      · unfold Sm
        rw [abs_eq] at z
        have : ((2 : Int) ^ 213) = ((2 ^ 213 : Nat) : Int) := rfl
        omega
    · refine ⟨c % T, ?_, ?_⟩
      · simp (implicitDefEqProofs := false) only [x_run, x_out_nx, x_out_rt, x_out_er, x_seq, x_seq_nx, x_seq_rt, x_seq_er, x_seq_ct, x_seq_bk, x_ofR_ok, x_ofR_er, x_nx, x_bk, x_ct, x_set, x_setL, x_ret, x_drop, x_retN, x_if, x_raise, x_var, x_gv0, x_gvS, x_gvo0, x_gvoS, x_gb, x_gb0, x_gbO, x_gbS, x_c, x_op, x_cm, x_un, x_bf, x_isi, x_ix, x_ixO, x_ofO_some, x_anil, x_acons, x_tup, x_lst, x_eL, x_tb, x_nt, x_an, x_or, x_ent, x_ean, x_eor, x_eif, x_tT, x_tV, x_tY, x_call, x_callD, x_callK, x_cd1, x_cd2, x_cd3, x_cd4, x_st0, x_stS, x_stN, x_wh, x_for, x_iseq, x_ir1, x_ir2, x_add, x_sub, x_neg, x_dcmp, x_eqI, x_neI, x_absI, x_intI, x_gcdI, x_maxI, x_minI, x_lenL, x_lenT, x_ixL, x_ixT, x_at0, x_at1, x_sz0, x_sz1, x_sz2, x_sz3, x_gN, x_forN, x_for0, x_fB_nx, x_fB_ct, x_fB_bk, x_fB_rt, x_fB_er, x_iTT, x_iTL, x_iTI, x_iLT, x_iLL, x_iII, x_iBI, x_iSS, x_iBB, x_truB, x_itT, x_itL, x_try, RO.bind_ok, RO.bind_er, RO.pure_ok, List.set_cons_zero, List.set_cons_succ, List.cons_append, List.nil_append, if_true, if_false, ite_true, ite_false, reduceIte, Bool.false_eq_true, Bool.true_eq_false, Bool.not_true, Bool.not_false, x_len1, and_self, decide_eq_true_eq, decide_true, decide_false, eq_self, Bool.not_eq_true', decide_eq_false_iff_not, not_true_eq_false, not_false_eq_true, ne_eq, List.length_map, Int.ofNat_lt, hk, e, t1, x_mod t2, eq_false z]
      · have h1 := Int.emod_nonneg c (show T ≠ 0 by omega)
        have h2 := Int.emod_lt_of_pos c t2
        unfold Sm
        have : ((2 : Int) ^ 213) = ((2 ^ 213 : Nat) : Int) := rfl
        omega
  · refine ⟨0, ?_, sm_small (by decide) (by decide)⟩
    simp (implicitDefEqProofs := false) only [x_run, x_out_nx, x_out_rt, x_out_er, x_seq, x_seq_nx, x_seq_rt, x_seq_er, x_seq_ct, x_seq_bk, x_ofR_ok, x_ofR_er, x_nx, x_bk, x_ct, x_set, x_setL, x_ret, x_drop, x_retN, x_if, x_raise, x_var, x_gv0, x_gvS, x_gvo0, x_gvoS, x_gb, x_gb0, x_gbO, x_gbS, x_c, x_op, x_cm, x_un, x_bf, x_isi, x_ix, x_ixO, x_ofO_some, x_anil, x_acons, x_tup, x_lst, x_eL, x_tb, x_nt, x_an, x_or, x_ent, x_ean, x_eor, x_eif, x_tT, x_tV, x_tY, x_call, x_callD, x_callK, x_cd1, x_cd2, x_cd3, x_cd4, x_st0, x_stS, x_stN, x_wh, x_for, x_iseq, x_ir1, x_ir2, x_add, x_sub, x_neg, x_dcmp, x_eqI, x_neI, x_absI, x_intI, x_gcdI, x_maxI, x_minI, x_lenL, x_lenT, x_ixL, x_ixT, x_at0, x_at1, x_sz0, x_sz1, x_sz2, x_sz3, x_gN, x_forN, x_for0, x_fB_nx, x_fB_ct, x_fB_bk, x_fB_rt, x_fB_er, x_iTT, x_iTL, x_iTI, x_iLT, x_iLL, x_iII, x_iBI, x_iSS, x_iBB, x_truB, x_itT, x_itL, x_try, RO.bind_ok, RO.bind_er, RO.pure_ok, List.set_cons_zero, List.set_cons_succ, List.cons_append, List.nil_append, if_true, if_false, ite_true, ite_false, reduceIte, Bool.false_eq_true, Bool.true_eq_false, Bool.not_true, Bool.not_false, x_len1, and_self, decide_eq_true_eq, decide_true, decide_false, eq_self, Bool.not_eq_true', decide_eq_false_iff_not, not_true_eq_false, not_false_eq_true, ne_eq, List.length_map, Int.ofNat_lt, hk, t1, x_mod t2, Int.lt_irrefl, t2]
theorem rng1_okI {j : Int} (h : 0 ≤ j) (l : j ≤ 1000) : rng1 (.int j) = .ok (rngItems 0 j.toNat) := by
  obtain ⟨n, rfl⟩ := Int.eq_ofNat_of_zero_le h
  exact rng1_ok (by omega)
theorem rng_mem {n : Nat} {d : PyData} (h : d ∈ rngItems 0 n) : ∃ k : Nat, d = .int k := by
  unfold rngItems at h
  obtain ⟨k, _, rfl⟩ := List.mem_map.mp h
  exact ⟨k, by rw [Int.zero_add]⟩
end KM
set_option Elab.async false
set_option linter.all false
set_option maxRecDepth 100000
set_option maxHeartbeats 4000000
namespace KM
open PySem PySem.Spec PyProof.Rows L2 PD
/-! ### the values that the law draws, by their shape -/
inductive Fine : Nat → PyData → Prop
  | int {n : Nat} (i : Int) (h : Sm 215 i) : Fine n (.int i)
  | bool {n : Nat} (b : Bool) : Fine n (.bool b)
  | non {n : Nat} : Fine n .none
  | str {n : Nat} (s : Str) (h : PyData.strOk s = true) : Fine n (.str s)
  | list {n : Nat} (xs : List PyData) (h : xs.length ≤ 100) (k : ∀ x ∈ xs, Fine n x) : Fine (n + 1) (.list xs)
  | tup {n : Nat} (xs : List PyData) (h : xs.length ≤ 100) (k : ∀ x ∈ xs, Fine n x) : Fine (n + 1) (.tuple xs)
theorem canAll : ∀ xs : List PyData, (∀ x ∈ xs, PyData.canLay0 x = true) → PyData.canLayAll0 xs = true
  | [], _ => by simp [PyData.canLayAll0]
  | x :: xs, h => by
    simp [PyData.canLayAll0]
    exact ⟨h x (.head _), canAll xs fun y hy => h y (.tail _ hy)⟩
theorem depAll {n : Nat} : ∀ xs : List PyData, (∀ x ∈ xs, PyData.depth x ≤ n) → PyData.depthAll xs ≤ n
  | [], _ => by simp [PyData.depthAll]
  | x :: xs, h => by
    simp [PyData.depthAll]
    exact Nat.max_le.mpr ⟨h x (.head _), depAll xs fun y hy => h y (.tail _ hy)⟩
theorem Fine.lay {n : Nat} {d : PyData} (h : Fine n d) : PyData.canLay0 d = true ∧ PyData.depth d ≤ n := by
  induction h with
  | int i h => simp [PyData.canLay0, PyData.depth]
  | bool b => simp [PyData.canLay0, PyData.depth]
  | non => simp [PyData.canLay0, PyData.depth]
  | str s h => simp [PyData.canLay0, PyData.depth, h]
  | list xs h k ih =>
    have h1 := canAll xs fun x hx => (ih x hx).1
    have h2 := depAll xs fun x hx => (ih x hx).2
    simp [PyData.canLay0, PyData.depth, h1]
    omega
  | tup xs h k ih =>
    have h1 := canAll xs fun x hx => (ih x hx).1
    have h2 := depAll xs fun x hx => (ih x hx).2
    simp [PyData.canLay0, PyData.depth, h1]
    omega
theorem Fine.shaped {n : Nat} {d : PyData} (h : Fine n d) (l : n ≤ 64) : SeqAt.shaped d = true := by
  unfold SeqAt.shaped
  rw [h.lay.1, decide_eq_true (Nat.le_trans h.lay.2 l)]
  rfl
theorem Fine.up {n : Nat} {d : PyData} (h : Fine n d) : ∀ {m : Nat}, n ≤ m → Fine m d := by
  induction h with
  | int i h => exact fun _ => .int i h
  | bool b => exact fun _ => .bool b
  | non => exact fun _ => .non
  | str s h => exact fun _ => .str s h
  | list xs h k ih =>
    intro m l
    cases m with
    | zero => omega
    | succ m => exact .list xs h fun x hx => ih x hx (by omega)
  | tup xs h k ih =>
    intro m l
    cases m with
    | zero => omega
    | succ m => exact .tup xs h fun x hx => ih x hx (by omega)
/-! ### kinds -/
theorem j1 {i : Int} : isiO "int" (.int i) = some (.bool true) := rfl
theorem j2 {i : Int} : isiO "bool" (.int i) = some (.bool false) := rfl
theorem j10 {s : List PyData} : isiO "tuple" (.tuple s) = some (.bool true) := rfl
theorem Fine.tupk {n : Nat} {d : PyData} (h : Fine n d) : isiO "tuple" d = some (.bool false) ∨ ∃ m xs, n = m + 1 ∧ d = .tuple xs ∧ xs.length ≤ 100 ∧ ∀ x ∈ xs, Fine m x := by
  cases h with
  | int i h => exact .inl rfl
  | bool b => exact .inl rfl
  | non => exact .inl rfl
  | str s h => exact .inl rfl
  | list xs h k => exact .inl rfl
  | tup xs h k => exact .inr ⟨_, xs, rfl, rfl, h, k⟩
/-- an int that is no bool; a bool; no int -/
theorem Fine.intk {n : Nat} {d : PyData} (h : Fine n d) : (∃ i, d = .int i ∧ Sm 215 i) ∨ (isiO "int" d = some (.bool true) ∧ isiO "bool" d = some (.bool true)) ∨ isiO "int" d = some (.bool false) := by
  cases h with
  | int i h => exact .inl ⟨i, rfl, h⟩
  | bool b => exact .inr (.inl ⟨rfl, rfl⟩)
  | non => exact .inr (.inr rfl)
  | str s h => exact .inr (.inr rfl)
  | list xs h k => exact .inr (.inr rfl)
  | tup xs h k => exact .inr (.inr rfl)
theorem gcdOk_sm {a b : Int} : cGcd [.int a, .int b] = some (.int (Int.gcd a b)) := x_gcdI
theorem len_T {xs : List PyData} : cLen [.tuple xs] = some (.int (xs.length : Int)) := rfl
theorem iter_T {xs : List PyData} : dIter (.tuple xs) = .ok xs := rfl
theorem isInt_i {i : Int} : F_is_integer [.int i] = .ok (.bool true) := by unfold F_is_integer B_is_integer; simp (implicitDefEqProofs := false) only [x_run, x_out_nx, x_out_rt, x_out_er, x_seq, x_seq_nx, x_seq_rt, x_seq_er, x_seq_ct, x_seq_bk, x_ofR_ok, x_ofR_er, x_nx, x_bk, x_ct, x_set, x_setL, x_ret, x_drop, x_retN, x_if, x_raise, x_var, x_gv0, x_gvS, x_gvo0, x_gvoS, x_gb, x_gb0, x_gbO, x_gbS, x_c, x_op, x_cm, x_un, x_bf, x_isi, x_ix, x_ixO, x_ofO_some, x_anil, x_acons, x_tup, x_lst, x_eL, x_tb, x_nt, x_an, x_or, x_ent, x_ean, x_eor, x_eif, x_tT, x_tV, x_tY, x_call, x_callD, x_callK, x_cd1, x_cd2, x_cd3, x_cd4, x_st0, x_stS, x_stN, x_wh, x_for, x_iseq, x_ir1, x_ir2, x_add, x_sub, x_neg, x_dcmp, x_eqI, x_neI, x_absI, x_intI, x_gcdI, x_maxI, x_minI, x_lenL, x_lenT, x_ixL, x_ixT, x_at0, x_at1, x_sz0, x_sz1, x_sz2, x_sz3, x_gN, x_forN, x_for0, x_fB_nx, x_fB_ct, x_fB_bk, x_fB_rt, x_fB_er, x_iTT, x_iTL, x_iTI, x_iLT, x_iLL, x_iII, x_iBI, x_iSS, x_iBB, x_truB, x_itT, x_itL, x_try, RO.bind_ok, RO.bind_er, RO.pure_ok, List.set_cons_zero, List.set_cons_succ, List.cons_append, List.nil_append, if_true, if_false, ite_true, ite_false, reduceIte, Bool.false_eq_true, Bool.true_eq_false, Bool.not_true, Bool.not_false, x_len1, and_self, decide_eq_true_eq, decide_true, decide_false, eq_self, Bool.not_eq_true', decide_eq_false_iff_not, not_true_eq_false, not_false_eq_true, ne_eq, x_eqB, x_neB, x_intB, x_iIB, x_gT2, x_lLi, x_eTu, x_eTuO, x_eLeO, x_dSeqL, x_dSeqT, x_oN, x_oS, x_tI, x_sl, x_cutL, x_cutT, x_comp, x_app, x_asg, x_aug, wipeE, List.length_map, j1, j2]
theorem isInt_b {d : PyData} (h : isiO "int" d = some (.bool true) ∧ isiO "bool" d = some (.bool true)) : F_is_integer [d] = .ok (.bool false) := by unfold F_is_integer B_is_integer; simp (implicitDefEqProofs := false) only [x_run, x_out_nx, x_out_rt, x_out_er, x_seq, x_seq_nx, x_seq_rt, x_seq_er, x_seq_ct, x_seq_bk, x_ofR_ok, x_ofR_er, x_nx, x_bk, x_ct, x_set, x_setL, x_ret, x_drop, x_retN, x_if, x_raise, x_var, x_gv0, x_gvS, x_gvo0, x_gvoS, x_gb, x_gb0, x_gbO, x_gbS, x_c, x_op, x_cm, x_un, x_bf, x_isi, x_ix, x_ixO, x_ofO_some, x_anil, x_acons, x_tup, x_lst, x_eL, x_tb, x_nt, x_an, x_or, x_ent, x_ean, x_eor, x_eif, x_tT, x_tV, x_tY, x_call, x_callD, x_callK, x_cd1, x_cd2, x_cd3, x_cd4, x_st0, x_stS, x_stN, x_wh, x_for, x_iseq, x_ir1, x_ir2, x_add, x_sub, x_neg, x_dcmp, x_eqI, x_neI, x_absI, x_intI, x_gcdI, x_maxI, x_minI, x_lenL, x_lenT, x_ixL, x_ixT, x_at0, x_at1, x_sz0, x_sz1, x_sz2, x_sz3, x_gN, x_forN, x_for0, x_fB_nx, x_fB_ct, x_fB_bk, x_fB_rt, x_fB_er, x_iTT, x_iTL, x_iTI, x_iLT, x_iLL, x_iII, x_iBI, x_iSS, x_iBB, x_truB, x_itT, x_itL, x_try, RO.bind_ok, RO.bind_er, RO.pure_ok, List.set_cons_zero, List.set_cons_succ, List.cons_append, List.nil_append, if_true, if_false, ite_true, ite_false, reduceIte, Bool.false_eq_true, Bool.true_eq_false, Bool.not_true, Bool.not_false, x_len1, and_self, decide_eq_true_eq, decide_true, decide_false, eq_self, Bool.not_eq_true', decide_eq_false_iff_not, not_true_eq_false, not_false_eq_true, ne_eq, x_eqB, x_neB, x_intB, x_iIB, x_gT2, x_lLi, x_eTu, x_eTuO, x_eLeO, x_dSeqL, x_dSeqT, x_oN, x_oS, x_tI, x_sl, x_cutL, x_cutT, x_comp, x_app, x_asg, x_aug, wipeE, List.length_map, h.1, h.2]
theorem isInt_n {d : PyData} (h : isiO "int" d = some (.bool false)) : F_is_integer [d] = .ok (.bool false) := by unfold F_is_integer B_is_integer; simp (implicitDefEqProofs := false) only [x_run, x_out_nx, x_out_rt, x_out_er, x_seq, x_seq_nx, x_seq_rt, x_seq_er, x_seq_ct, x_seq_bk, x_ofR_ok, x_ofR_er, x_nx, x_bk, x_ct, x_set, x_setL, x_ret, x_drop, x_retN, x_if, x_raise, x_var, x_gv0, x_gvS, x_gvo0, x_gvoS, x_gb, x_gb0, x_gbO, x_gbS, x_c, x_op, x_cm, x_un, x_bf, x_isi, x_ix, x_ixO, x_ofO_some, x_anil, x_acons, x_tup, x_lst, x_eL, x_tb, x_nt, x_an, x_or, x_ent, x_ean, x_eor, x_eif, x_tT, x_tV, x_tY, x_call, x_callD, x_callK, x_cd1, x_cd2, x_cd3, x_cd4, x_st0, x_stS, x_stN, x_wh, x_for, x_iseq, x_ir1, x_ir2, x_add, x_sub, x_neg, x_dcmp, x_eqI, x_neI, x_absI, x_intI, x_gcdI, x_maxI, x_minI, x_lenL, x_lenT, x_ixL, x_ixT, x_at0, x_at1, x_sz0, x_sz1, x_sz2, x_sz3, x_gN, x_forN, x_for0, x_fB_nx, x_fB_ct, x_fB_bk, x_fB_rt, x_fB_er, x_iTT, x_iTL, x_iTI, x_iLT, x_iLL, x_iII, x_iBI, x_iSS, x_iBB, x_truB, x_itT, x_itL, x_try, RO.bind_ok, RO.bind_er, RO.pure_ok, List.set_cons_zero, List.set_cons_succ, List.cons_append, List.nil_append, if_true, if_false, ite_true, ite_false, reduceIte, Bool.false_eq_true, Bool.true_eq_false, Bool.not_true, Bool.not_false, x_len1, and_self, decide_eq_true_eq, decide_true, decide_false, eq_self, Bool.not_eq_true', decide_eq_false_iff_not, not_true_eq_false, not_false_eq_true, ne_eq, x_eqB, x_neB, x_intB, x_iIB, x_gT2, x_lLi, x_eTu, x_eTuO, x_eLeO, x_dSeqL, x_dSeqT, x_oN, x_oS, x_tI, x_sl, x_cutL, x_cutT, x_comp, x_app, x_asg, x_aug, wipeE, List.length_map, h]
def Same1 (F G : List PyData → RO PyData) (xs : List PyData) : Prop := ∃ b, F xs = .ok (.bool b) ∧ G xs = .ok (.bool b)
theorem ratio_pair {n : Nat} {x y : PyData} (hx : Fine n x) (hy : Fine n y) : Same1 F_is_ratio F__law_is_ratio [.tuple [x, y]] := by
  have e2 : ((2 : Int) = 2) = True := eq_true rfl
  have lT : cLen [.tuple [x, y]] = some (.int 2) := rfl
  rcases hx.intk with ⟨a, rfl, sa⟩ | ha | ha
  · rcases hy.intk with ⟨b, rfl, sb⟩ | hb | hb
    · have c := common_ok sa sb
      by_cases z : b ≥ 1
      · have z' : b > 0 := by omega
        refine ⟨decide ((Int.gcd a b : Int) = 1), ?_, ?_⟩
        · unfold F_is_ratio B_is_ratio
          simp (implicitDefEqProofs := false) only [x_run, x_out_nx, x_out_rt, x_out_er, x_seq, x_seq_nx, x_seq_rt, x_seq_er, x_seq_ct, x_seq_bk, x_ofR_ok, x_ofR_er, x_nx, x_bk, x_ct, x_set, x_setL, x_ret, x_drop, x_retN, x_if, x_raise, x_var, x_gv0, x_gvS, x_gvo0, x_gvoS, x_gb, x_gb0, x_gbO, x_gbS, x_c, x_op, x_cm, x_un, x_bf, x_isi, x_ix, x_ixO, x_ofO_some, x_anil, x_acons, x_tup, x_lst, x_eL, x_tb, x_nt, x_an, x_or, x_ent, x_ean, x_eor, x_eif, x_tT, x_tV, x_tY, x_call, x_callD, x_callK, x_cd1, x_cd2, x_cd3, x_cd4, x_st0, x_stS, x_stN, x_wh, x_for, x_iseq, x_ir1, x_ir2, x_add, x_sub, x_neg, x_dcmp, x_eqI, x_neI, x_absI, x_intI, x_gcdI, x_maxI, x_minI, x_lenL, x_lenT, x_ixL, x_ixT, x_at0, x_at1, x_sz0, x_sz1, x_sz2, x_sz3, x_gN, x_forN, x_for0, x_fB_nx, x_fB_ct, x_fB_bk, x_fB_rt, x_fB_er, x_iTT, x_iTL, x_iTI, x_iLT, x_iLL, x_iII, x_iBI, x_iSS, x_iBB, x_truB, x_itT, x_itL, x_try, RO.bind_ok, RO.bind_er, RO.pure_ok, List.set_cons_zero, List.set_cons_succ, List.cons_append, List.nil_append, if_true, if_false, ite_true, ite_false, reduceIte, Bool.false_eq_true, Bool.true_eq_false, Bool.not_true, Bool.not_false, x_len1, and_self, decide_eq_true_eq, decide_true, decide_false, eq_self, Bool.not_eq_true', decide_eq_false_iff_not, not_true_eq_false, not_false_eq_true, ne_eq, x_eqB, x_neB, x_intB, x_iIB, x_gT2, x_lLi, x_eTu, x_eTuO, x_eLeO, x_dSeqL, x_dSeqT, x_oN, x_oS, x_tI, x_sl, x_cutL, x_cutT, x_comp, x_app, x_asg, x_aug, wipeE, List.length_map, j10, lT, isInt_i, gcdOk_sm, eq_true z]
        · unfold F__law_is_ratio B__law_is_ratio
          simp (implicitDefEqProofs := false) only [x_run, x_out_nx, x_out_rt, x_out_er, x_seq, x_seq_nx, x_seq_rt, x_seq_er, x_seq_ct, x_seq_bk, x_ofR_ok, x_ofR_er, x_nx, x_bk, x_ct, x_set, x_setL, x_ret, x_drop, x_retN, x_if, x_raise, x_var, x_gv0, x_gvS, x_gvo0, x_gvoS, x_gb, x_gb0, x_gbO, x_gbS, x_c, x_op, x_cm, x_un, x_bf, x_isi, x_ix, x_ixO, x_ofO_some, x_anil, x_acons, x_tup, x_lst, x_eL, x_tb, x_nt, x_an, x_or, x_ent, x_ean, x_eor, x_eif, x_tT, x_tV, x_tY, x_call, x_callD, x_callK, x_cd1, x_cd2, x_cd3, x_cd4, x_st0, x_stS, x_stN, x_wh, x_for, x_iseq, x_ir1, x_ir2, x_add, x_sub, x_neg, x_dcmp, x_eqI, x_neI, x_absI, x_intI, x_gcdI, x_maxI, x_minI, x_lenL, x_lenT, x_ixL, x_ixT, x_at0, x_at1, x_sz0, x_sz1, x_sz2, x_sz3, x_gN, x_forN, x_for0, x_fB_nx, x_fB_ct, x_fB_bk, x_fB_rt, x_fB_er, x_iTT, x_iTL, x_iTI, x_iLT, x_iLL, x_iII, x_iBI, x_iSS, x_iBB, x_truB, x_itT, x_itL, x_try, RO.bind_ok, RO.bind_er, RO.pure_ok, List.set_cons_zero, List.set_cons_succ, List.cons_append, List.nil_append, if_true, if_false, ite_true, ite_false, reduceIte, Bool.false_eq_true, Bool.true_eq_false, Bool.not_true, Bool.not_false, x_len1, and_self, decide_eq_true_eq, decide_true, decide_false, eq_self, Bool.not_eq_true', decide_eq_false_iff_not, not_true_eq_false, not_false_eq_true, ne_eq, x_eqB, x_neB, x_intB, x_iIB, x_gT2, x_lLi, x_eTu, x_eTuO, x_eLeO, x_dSeqL, x_dSeqT, x_oN, x_oS, x_tI, x_sl, x_cutL, x_cutT, x_comp, x_app, x_asg, x_aug, wipeE, List.length_map, j10, lT, j1, j2, iter_T, c, eq_true z']
      · have z' : ¬ b > 0 := by omega
        refine ⟨false, ?_, ?_⟩
        · unfold F_is_ratio B_is_ratio
          simp (implicitDefEqProofs := false) only [x_run, x_out_nx, x_out_rt, x_out_er, x_seq, x_seq_nx, x_seq_rt, x_seq_er, x_seq_ct, x_seq_bk, x_ofR_ok, x_ofR_er, x_nx, x_bk, x_ct, x_set, x_setL, x_ret, x_drop, x_retN, x_if, x_raise, x_var, x_gv0, x_gvS, x_gvo0, x_gvoS, x_gb, x_gb0, x_gbO, x_gbS, x_c, x_op, x_cm, x_un, x_bf, x_isi, x_ix, x_ixO, x_ofO_some, x_anil, x_acons, x_tup, x_lst, x_eL, x_tb, x_nt, x_an, x_or, x_ent, x_ean, x_eor, x_eif, x_tT, x_tV, x_tY, x_call, x_callD, x_callK, x_cd1, x_cd2, x_cd3, x_cd4, x_st0, x_stS, x_stN, x_wh, x_for, x_iseq, x_ir1, x_ir2, x_add, x_sub, x_neg, x_dcmp, x_eqI, x_neI, x_absI, x_intI, x_gcdI, x_maxI, x_minI, x_lenL, x_lenT, x_ixL, x_ixT, x_at0, x_at1, x_sz0, x_sz1, x_sz2, x_sz3, x_gN, x_forN, x_for0, x_fB_nx, x_fB_ct, x_fB_bk, x_fB_rt, x_fB_er, x_iTT, x_iTL, x_iTI, x_iLT, x_iLL, x_iII, x_iBI, x_iSS, x_iBB, x_truB, x_itT, x_itL, x_try, RO.bind_ok, RO.bind_er, RO.pure_ok, List.set_cons_zero, List.set_cons_succ, List.cons_append, List.nil_append, if_true, if_false, ite_true, ite_false, reduceIte, Bool.false_eq_true, Bool.true_eq_false, Bool.not_true, Bool.not_false, x_len1, and_self, decide_eq_true_eq, decide_true, decide_false, eq_self, Bool.not_eq_true', decide_eq_false_iff_not, not_true_eq_false, not_false_eq_true, ne_eq, x_eqB, x_neB, x_intB, x_iIB, x_gT2, x_lLi, x_eTu, x_eTuO, x_eLeO, x_dSeqL, x_dSeqT, x_oN, x_oS, x_tI, x_sl, x_cutL, x_cutT, x_comp, x_app, x_asg, x_aug, wipeE, List.length_map, j10, lT, isInt_i, gcdOk_sm, eq_false z]
        · unfold F__law_is_ratio B__law_is_ratio
          simp (implicitDefEqProofs := false) only [x_run, x_out_nx, x_out_rt, x_out_er, x_seq, x_seq_nx, x_seq_rt, x_seq_er, x_seq_ct, x_seq_bk, x_ofR_ok, x_ofR_er, x_nx, x_bk, x_ct, x_set, x_setL, x_ret, x_drop, x_retN, x_if, x_raise, x_var, x_gv0, x_gvS, x_gvo0, x_gvoS, x_gb, x_gb0, x_gbO, x_gbS, x_c, x_op, x_cm, x_un, x_bf, x_isi, x_ix, x_ixO, x_ofO_some, x_anil, x_acons, x_tup, x_lst, x_eL, x_tb, x_nt, x_an, x_or, x_ent, x_ean, x_eor, x_eif, x_tT, x_tV, x_tY, x_call, x_callD, x_callK, x_cd1, x_cd2, x_cd3, x_cd4, x_st0, x_stS, x_stN, x_wh, x_for, x_iseq, x_ir1, x_ir2, x_add, x_sub, x_neg, x_dcmp, x_eqI, x_neI, x_absI, x_intI, x_gcdI, x_maxI, x_minI, x_lenL, x_lenT, x_ixL, x_ixT, x_at0, x_at1, x_sz0, x_sz1, x_sz2, x_sz3, x_gN, x_forN, x_for0, x_fB_nx, x_fB_ct, x_fB_bk, x_fB_rt, x_fB_er, x_iTT, x_iTL, x_iTI, x_iLT, x_iLL, x_iII, x_iBI, x_iSS, x_iBB, x_truB, x_itT, x_itL, x_try, RO.bind_ok, RO.bind_er, RO.pure_ok, List.set_cons_zero, List.set_cons_succ, List.cons_append, List.nil_append, if_true, if_false, ite_true, ite_false, reduceIte, Bool.false_eq_true, Bool.true_eq_false, Bool.not_true, Bool.not_false, x_len1, and_self, decide_eq_true_eq, decide_true, decide_false, eq_self, Bool.not_eq_true', decide_eq_false_iff_not, not_true_eq_false, not_false_eq_true, ne_eq, x_eqB, x_neB, x_intB, x_iIB, x_gT2, x_lLi, x_eTu, x_eTuO, x_eLeO, x_dSeqL, x_dSeqT, x_oN, x_oS, x_tI, x_sl, x_cutL, x_cutT, x_comp, x_app, x_asg, x_aug, wipeE, List.length_map, j10, lT, j1, j2, iter_T, c, eq_false z']
    · refine ⟨false, ?_, ?_⟩
      · unfold F_is_ratio B_is_ratio
        simp (implicitDefEqProofs := false) only [x_run, x_out_nx, x_out_rt, x_out_er, x_seq, x_seq_nx, x_seq_rt, x_seq_er, x_seq_ct, x_seq_bk, x_ofR_ok, x_ofR_er, x_nx, x_bk, x_ct, x_set, x_setL, x_ret, x_drop, x_retN, x_if, x_raise, x_var, x_gv0, x_gvS, x_gvo0, x_gvoS, x_gb, x_gb0, x_gbO, x_gbS, x_c, x_op, x_cm, x_un, x_bf, x_isi, x_ix, x_ixO, x_ofO_some, x_anil, x_acons, x_tup, x_lst, x_eL, x_tb, x_nt, x_an, x_or, x_ent, x_ean, x_eor, x_eif, x_tT, x_tV, x_tY, x_call, x_callD, x_callK, x_cd1, x_cd2, x_cd3, x_cd4, x_st0, x_stS, x_stN, x_wh, x_for, x_iseq, x_ir1, x_ir2, x_add, x_sub, x_neg, x_dcmp, x_eqI, x_neI, x_absI, x_intI, x_gcdI, x_maxI, x_minI, x_lenL, x_lenT, x_ixL, x_ixT, x_at0, x_at1, x_sz0, x_sz1, x_sz2, x_sz3, x_gN, x_forN, x_for0, x_fB_nx, x_fB_ct, x_fB_bk, x_fB_rt, x_fB_er, x_iTT, x_iTL, x_iTI, x_iLT, x_iLL, x_iII, x_iBI, x_iSS, x_iBB, x_truB, x_itT, x_itL, x_try, RO.bind_ok, RO.bind_er, RO.pure_ok, List.set_cons_zero, List.set_cons_succ, List.cons_append, List.nil_append, if_true, if_false, ite_true, ite_false, reduceIte, Bool.false_eq_true, Bool.true_eq_false, Bool.not_true, Bool.not_false, x_len1, and_self, decide_eq_true_eq, decide_true, decide_false, eq_self, Bool.not_eq_true', decide_eq_false_iff_not, not_true_eq_false, not_false_eq_true, ne_eq, x_eqB, x_neB, x_intB, x_iIB, x_gT2, x_lLi, x_eTu, x_eTuO, x_eLeO, x_dSeqL, x_dSeqT, x_oN, x_oS, x_tI, x_sl, x_cutL, x_cutT, x_comp, x_app, x_asg, x_aug, wipeE, List.length_map, j10, lT, isInt_i, isInt_b hb]
      · unfold F__law_is_ratio B__law_is_ratio
        simp (implicitDefEqProofs := false) only [x_run, x_out_nx, x_out_rt, x_out_er, x_seq, x_seq_nx, x_seq_rt, x_seq_er, x_seq_ct, x_seq_bk, x_ofR_ok, x_ofR_er, x_nx, x_bk, x_ct, x_set, x_setL, x_ret, x_drop, x_retN, x_if, x_raise, x_var, x_gv0, x_gvS, x_gvo0, x_gvoS, x_gb, x_gb0, x_gbO, x_gbS, x_c, x_op, x_cm, x_un, x_bf, x_isi, x_ix, x_ixO, x_ofO_some, x_anil, x_acons, x_tup, x_lst, x_eL, x_tb, x_nt, x_an, x_or, x_ent, x_ean, x_eor, x_eif, x_tT, x_tV, x_tY, x_call, x_callD, x_callK, x_cd1, x_cd2, x_cd3, x_cd4, x_st0, x_stS, x_stN, x_wh, x_for, x_iseq, x_ir1, x_ir2, x_add, x_sub, x_neg, x_dcmp, x_eqI, x_neI, x_absI, x_intI, x_gcdI, x_maxI, x_minI, x_lenL, x_lenT, x_ixL, x_ixT, x_at0, x_at1, x_sz0, x_sz1, x_sz2, x_sz3, x_gN, x_forN, x_for0, x_fB_nx, x_fB_ct, x_fB_bk, x_fB_rt, x_fB_er, x_iTT, x_iTL, x_iTI, x_iLT, x_iLL, x_iII, x_iBI, x_iSS, x_iBB, x_truB, x_itT, x_itL, x_try, RO.bind_ok, RO.bind_er, RO.pure_ok, List.set_cons_zero, List.set_cons_succ, List.cons_append, List.nil_append, if_true, if_false, ite_true, ite_false, reduceIte, Bool.false_eq_true, Bool.true_eq_false, Bool.not_true, Bool.not_false, x_len1, and_self, decide_eq_true_eq, decide_true, decide_false, eq_self, Bool.not_eq_true', decide_eq_false_iff_not, not_true_eq_false, not_false_eq_true, ne_eq, x_eqB, x_neB, x_intB, x_iIB, x_gT2, x_lLi, x_eTu, x_eTuO, x_eLeO, x_dSeqL, x_dSeqT, x_oN, x_oS, x_tI, x_sl, x_cutL, x_cutT, x_comp, x_app, x_asg, x_aug, wipeE, List.length_map, j10, lT, j1, j2, iter_T, hb.1, hb.2]
    · refine ⟨false, ?_, ?_⟩
      · unfold F_is_ratio B_is_ratio
        simp (implicitDefEqProofs := false) only [x_run, x_out_nx, x_out_rt, x_out_er, x_seq, x_seq_nx, x_seq_rt, x_seq_er, x_seq_ct, x_seq_bk, x_ofR_ok, x_ofR_er, x_nx, x_bk, x_ct, x_set, x_setL, x_ret, x_drop, x_retN, x_if, x_raise, x_var, x_gv0, x_gvS, x_gvo0, x_gvoS, x_gb, x_gb0, x_gbO, x_gbS, x_c, x_op, x_cm, x_un, x_bf, x_isi, x_ix, x_ixO, x_ofO_some, x_anil, x_acons, x_tup, x_lst, x_eL, x_tb, x_nt, x_an, x_or, x_ent, x_ean, x_eor, x_eif, x_tT, x_tV, x_tY, x_call, x_callD, x_callK, x_cd1, x_cd2, x_cd3, x_cd4, x_st0, x_stS, x_stN, x_wh, x_for, x_iseq, x_ir1, x_ir2, x_add, x_sub, x_neg, x_dcmp, x_eqI, x_neI, x_absI, x_intI, x_gcdI, x_maxI, x_minI, x_lenL, x_lenT, x_ixL, x_ixT, x_at0, x_at1, x_sz0, x_sz1, x_sz2, x_sz3, x_gN, x_forN, x_for0, x_fB_nx, x_fB_ct, x_fB_bk, x_fB_rt, x_fB_er, x_iTT, x_iTL, x_iTI, x_iLT, x_iLL, x_iII, x_iBI, x_iSS, x_iBB, x_truB, x_itT, x_itL, x_try, RO.bind_ok, RO.bind_er, RO.pure_ok, List.set_cons_zero, List.set_cons_succ, List.cons_append, List.nil_append, if_true, if_false, ite_true, ite_false, reduceIte, Bool.false_eq_true, Bool.true_eq_false, Bool.not_true, Bool.not_false, x_len1, and_self, decide_eq_true_eq, decide_true, decide_false, eq_self, Bool.not_eq_true', decide_eq_false_iff_not, not_true_eq_false, not_false_eq_true, ne_eq, x_eqB, x_neB, x_intB, x_iIB, x_gT2, x_lLi, x_eTu, x_eTuO, x_eLeO, x_dSeqL, x_dSeqT, x_oN, x_oS, x_tI, x_sl, x_cutL, x_cutT, x_comp, x_app, x_asg, x_aug, wipeE, List.length_map, j10, lT, isInt_i, isInt_n hb]
      · unfold F__law_is_ratio B__law_is_ratio
        simp (implicitDefEqProofs := false) only [x_run, x_out_nx, x_out_rt, x_out_er, x_seq, x_seq_nx, x_seq_rt, x_seq_er, x_seq_ct, x_seq_bk, x_ofR_ok, x_ofR_er, x_nx, x_bk, x_ct, x_set, x_setL, x_ret, x_drop, x_retN, x_if, x_raise, x_var, x_gv0, x_gvS, x_gvo0, x_gvoS, x_gb, x_gb0, x_gbO, x_gbS, x_c, x_op, x_cm, x_un, x_bf, x_isi, x_ix, x_ixO, x_ofO_some, x_anil, x_acons, x_tup, x_lst, x_eL, x_tb, x_nt, x_an, x_or, x_ent, x_ean, x_eor, x_eif, x_tT, x_tV, x_tY, x_call, x_callD, x_callK, x_cd1, x_cd2, x_cd3, x_cd4, x_st0, x_stS, x_stN, x_wh, x_for, x_iseq, x_ir1, x_ir2, x_add, x_sub, x_neg, x_dcmp, x_eqI, x_neI, x_absI, x_intI, x_gcdI, x_maxI, x_minI, x_lenL, x_lenT, x_ixL, x_ixT, x_at0, x_at1, x_sz0, x_sz1, x_sz2, x_sz3, x_gN, x_forN, x_for0, x_fB_nx, x_fB_ct, x_fB_bk, x_fB_rt, x_fB_er, x_iTT, x_iTL, x_iTI, x_iLT, x_iLL, x_iII, x_iBI, x_iSS, x_iBB, x_truB, x_itT, x_itL, x_try, RO.bind_ok, RO.bind_er, RO.pure_ok, List.set_cons_zero, List.set_cons_succ, List.cons_append, List.nil_append, if_true, if_false, ite_true, ite_false, reduceIte, Bool.false_eq_true, Bool.true_eq_false, Bool.not_true, Bool.not_false, x_len1, and_self, decide_eq_true_eq, decide_true, decide_false, eq_self, Bool.not_eq_true', decide_eq_false_iff_not, not_true_eq_false, not_false_eq_true, ne_eq, x_eqB, x_neB, x_intB, x_iIB, x_gT2, x_lLi, x_eTu, x_eTuO, x_eLeO, x_dSeqL, x_dSeqT, x_oN, x_oS, x_tI, x_sl, x_cutL, x_cutT, x_comp, x_app, x_asg, x_aug, wipeE, List.length_map, j10, lT, j1, j2, iter_T, hb]
  · refine ⟨false, ?_, ?_⟩
    · unfold F_is_ratio B_is_ratio
      simp (implicitDefEqProofs := false) only [x_run, x_out_nx, x_out_rt, x_out_er, x_seq, x_seq_nx, x_seq_rt, x_seq_er, x_seq_ct, x_seq_bk, x_ofR_ok, x_ofR_er, x_nx, x_bk, x_ct, x_set, x_setL, x_ret, x_drop, x_retN, x_if, x_raise, x_var, x_gv0, x_gvS, x_gvo0, x_gvoS, x_gb, x_gb0, x_gbO, x_gbS, x_c, x_op, x_cm, x_un, x_bf, x_isi, x_ix, x_ixO, x_ofO_some, x_anil, x_acons, x_tup, x_lst, x_eL, x_tb, x_nt, x_an, x_or, x_ent, x_ean, x_eor, x_eif, x_tT, x_tV, x_tY, x_call, x_callD, x_callK, x_cd1, x_cd2, x_cd3, x_cd4, x_st0, x_stS, x_stN, x_wh, x_for, x_iseq, x_ir1, x_ir2, x_add, x_sub, x_neg, x_dcmp, x_eqI, x_neI, x_absI, x_intI, x_gcdI, x_maxI, x_minI, x_lenL, x_lenT, x_ixL, x_ixT, x_at0, x_at1, x_sz0, x_sz1, x_sz2, x_sz3, x_gN, x_forN, x_for0, x_fB_nx, x_fB_ct, x_fB_bk, x_fB_rt, x_fB_er, x_iTT, x_iTL, x_iTI, x_iLT, x_iLL, x_iII, x_iBI, x_iSS, x_iBB, x_truB, x_itT, x_itL, x_try, RO.bind_ok, RO.bind_er, RO.pure_ok, List.set_cons_zero, List.set_cons_succ, List.cons_append, List.nil_append, if_true, if_false, ite_true, ite_false, reduceIte, Bool.false_eq_true, Bool.true_eq_false, Bool.not_true, Bool.not_false, x_len1, and_self, decide_eq_true_eq, decide_true, decide_false, eq_self, Bool.not_eq_true', decide_eq_false_iff_not, not_true_eq_false, not_false_eq_true, ne_eq, x_eqB, x_neB, x_intB, x_iIB, x_gT2, x_lLi, x_eTu, x_eTuO, x_eLeO, x_dSeqL, x_dSeqT, x_oN, x_oS, x_tI, x_sl, x_cutL, x_cutT, x_comp, x_app, x_asg, x_aug, wipeE, List.length_map, j10, lT, isInt_b ha]
    · unfold F__law_is_ratio B__law_is_ratio
      simp (implicitDefEqProofs := false) only [x_run, x_out_nx, x_out_rt, x_out_er, x_seq, x_seq_nx, x_seq_rt, x_seq_er, x_seq_ct, x_seq_bk, x_ofR_ok, x_ofR_er, x_nx, x_bk, x_ct, x_set, x_setL, x_ret, x_drop, x_retN, x_if, x_raise, x_var, x_gv0, x_gvS, x_gvo0, x_gvoS, x_gb, x_gb0, x_gbO, x_gbS, x_c, x_op, x_cm, x_un, x_bf, x_isi, x_ix, x_ixO, x_ofO_some, x_anil, x_acons, x_tup, x_lst, x_eL, x_tb, x_nt, x_an, x_or, x_ent, x_ean, x_eor, x_eif, x_tT, x_tV, x_tY, x_call, x_callD, x_callK, x_cd1, x_cd2, x_cd3, x_cd4, x_st0, x_stS, x_stN, x_wh, x_for, x_iseq, x_ir1, x_ir2, x_add, x_sub, x_neg, x_dcmp, x_eqI, x_neI, x_absI, x_intI, x_gcdI, x_maxI, x_minI, x_lenL, x_lenT, x_ixL, x_ixT, x_at0, x_at1, x_sz0, x_sz1, x_sz2, x_sz3, x_gN, x_forN, x_for0, x_fB_nx, x_fB_ct, x_fB_bk, x_fB_rt, x_fB_er, x_iTT, x_iTL, x_iTI, x_iLT, x_iLL, x_iII, x_iBI, x_iSS, x_iBB, x_truB, x_itT, x_itL, x_try, RO.bind_ok, RO.bind_er, RO.pure_ok, List.set_cons_zero, List.set_cons_succ, List.cons_append, List.nil_append, if_true, if_false, ite_true, ite_false, reduceIte, Bool.false_eq_true, Bool.true_eq_false, Bool.not_true, Bool.not_false, x_len1, and_self, decide_eq_true_eq, decide_true, decide_false, eq_self, Bool.not_eq_true', decide_eq_false_iff_not, not_true_eq_false, not_false_eq_true, ne_eq, x_eqB, x_neB, x_intB, x_iIB, x_gT2, x_lLi, x_eTu, x_eTuO, x_eLeO, x_dSeqL, x_dSeqT, x_oN, x_oS, x_tI, x_sl, x_cutL, x_cutT, x_comp, x_app, x_asg, x_aug, wipeE, List.length_map, j10, lT, iter_T, ha.1, ha.2]
  · refine ⟨false, ?_, ?_⟩
    · unfold F_is_ratio B_is_ratio
      simp (implicitDefEqProofs := false) only [x_run, x_out_nx, x_out_rt, x_out_er, x_seq, x_seq_nx, x_seq_rt, x_seq_er, x_seq_ct, x_seq_bk, x_ofR_ok, x_ofR_er, x_nx, x_bk, x_ct, x_set, x_setL, x_ret, x_drop, x_retN, x_if, x_raise, x_var, x_gv0, x_gvS, x_gvo0, x_gvoS, x_gb, x_gb0, x_gbO, x_gbS, x_c, x_op, x_cm, x_un, x_bf, x_isi, x_ix, x_ixO, x_ofO_some, x_anil, x_acons, x_tup, x_lst, x_eL, x_tb, x_nt, x_an, x_or, x_ent, x_ean, x_eor, x_eif, x_tT, x_tV, x_tY, x_call, x_callD, x_callK, x_cd1, x_cd2, x_cd3, x_cd4, x_st0, x_stS, x_stN, x_wh, x_for, x_iseq, x_ir1, x_ir2, x_add, x_sub, x_neg, x_dcmp, x_eqI, x_neI, x_absI, x_intI, x_gcdI, x_maxI, x_minI, x_lenL, x_lenT, x_ixL, x_ixT, x_at0, x_at1, x_sz0, x_sz1, x_sz2, x_sz3, x_gN, x_forN, x_for0, x_fB_nx, x_fB_ct, x_fB_bk, x_fB_rt, x_fB_er, x_iTT, x_iTL, x_iTI, x_iLT, x_iLL, x_iII, x_iBI, x_iSS, x_iBB, x_truB, x_itT, x_itL, x_try, RO.bind_ok, RO.bind_er, RO.pure_ok, List.set_cons_zero, List.set_cons_succ, List.cons_append, List.nil_append, if_true, if_false, ite_true, ite_false, reduceIte, Bool.false_eq_true, Bool.true_eq_false, Bool.not_true, Bool.not_false, x_len1, and_self, decide_eq_true_eq, decide_true, decide_false, eq_self, Bool.not_eq_true', decide_eq_false_iff_not, not_true_eq_false, not_false_eq_true, ne_eq, x_eqB, x_neB, x_intB, x_iIB, x_gT2, x_lLi, x_eTu, x_eTuO, x_eLeO, x_dSeqL, x_dSeqT, x_oN, x_oS, x_tI, x_sl, x_cutL, x_cutT, x_comp, x_app, x_asg, x_aug, wipeE, List.length_map, j10, lT, isInt_n ha]
    · unfold F__law_is_ratio B__law_is_ratio
      simp (implicitDefEqProofs := false) only [x_run, x_out_nx, x_out_rt, x_out_er, x_seq, x_seq_nx, x_seq_rt, x_seq_er, x_seq_ct, x_seq_bk, x_ofR_ok, x_ofR_er, x_nx, x_bk, x_ct, x_set, x_setL, x_ret, x_drop, x_retN, x_if, x_raise, x_var, x_gv0, x_gvS, x_gvo0, x_gvoS, x_gb, x_gb0, x_gbO, x_gbS, x_c, x_op, x_cm, x_un, x_bf, x_isi, x_ix, x_ixO, x_ofO_some, x_anil, x_acons, x_tup, x_lst, x_eL, x_tb, x_nt, x_an, x_or, x_ent, x_ean, x_eor, x_eif, x_tT, x_tV, x_tY, x_call, x_callD, x_callK, x_cd1, x_cd2, x_cd3, x_cd4, x_st0, x_stS, x_stN, x_wh, x_for, x_iseq, x_ir1, x_ir2, x_add, x_sub, x_neg, x_dcmp, x_eqI, x_neI, x_absI, x_intI, x_gcdI, x_maxI, x_minI, x_lenL, x_lenT, x_ixL, x_ixT, x_at0, x_at1, x_sz0, x_sz1, x_sz2, x_sz3, x_gN, x_forN, x_for0, x_fB_nx, x_fB_ct, x_fB_bk, x_fB_rt, x_fB_er, x_iTT, x_iTL, x_iTI, x_iLT, x_iLL, x_iII, x_iBI, x_iSS, x_iBB, x_truB, x_itT, x_itL, x_try, RO.bind_ok, RO.bind_er, RO.pure_ok, List.set_cons_zero, List.set_cons_succ, List.cons_append, List.nil_append, if_true, if_false, ite_true, ite_false, reduceIte, Bool.false_eq_true, Bool.true_eq_false, Bool.not_true, Bool.not_false, x_len1, and_self, decide_eq_true_eq, decide_true, decide_false, eq_self, Bool.not_eq_true', decide_eq_false_iff_not, not_true_eq_false, not_false_eq_true, ne_eq, x_eqB, x_neB, x_intB, x_iIB, x_gT2, x_lLi, x_eTu, x_eTuO, x_eLeO, x_dSeqL, x_dSeqT, x_oN, x_oS, x_tI, x_sl, x_cutL, x_cutT, x_comp, x_app, x_asg, x_aug, wipeE, List.length_map, j10, lT, iter_T, ha]
theorem ratio_same {n : Nat} {d : PyData} (h : Fine n d) : Same1 F_is_ratio F__law_is_ratio [d] := by
  rcases h.tupk with e | ⟨m, xs, rfl, rfl, hl, hx⟩
  · refine ⟨false, ?_, ?_⟩
    · unfold F_is_ratio B_is_ratio
      simp (implicitDefEqProofs := false) only [x_run, x_out_nx, x_out_rt, x_out_er, x_seq, x_seq_nx, x_seq_rt, x_seq_er, x_seq_ct, x_seq_bk, x_ofR_ok, x_ofR_er, x_nx, x_bk, x_ct, x_set, x_setL, x_ret, x_drop, x_retN, x_if, x_raise, x_var, x_gv0, x_gvS, x_gvo0, x_gvoS, x_gb, x_gb0, x_gbO, x_gbS, x_c, x_op, x_cm, x_un, x_bf, x_isi, x_ix, x_ixO, x_ofO_some, x_anil, x_acons, x_tup, x_lst, x_eL, x_tb, x_nt, x_an, x_or, x_ent, x_ean, x_eor, x_eif, x_tT, x_tV, x_tY, x_call, x_callD, x_callK, x_cd1, x_cd2, x_cd3, x_cd4, x_st0, x_stS, x_stN, x_wh, x_for, x_iseq, x_ir1, x_ir2, x_add, x_sub, x_neg, x_dcmp, x_eqI, x_neI, x_absI, x_intI, x_gcdI, x_maxI, x_minI, x_lenL, x_lenT, x_ixL, x_ixT, x_at0, x_at1, x_sz0, x_sz1, x_sz2, x_sz3, x_gN, x_forN, x_for0, x_fB_nx, x_fB_ct, x_fB_bk, x_fB_rt, x_fB_er, x_iTT, x_iTL, x_iTI, x_iLT, x_iLL, x_iII, x_iBI, x_iSS, x_iBB, x_truB, x_itT, x_itL, x_try, RO.bind_ok, RO.bind_er, RO.pure_ok, List.set_cons_zero, List.set_cons_succ, List.cons_append, List.nil_append, if_true, if_false, ite_true, ite_false, reduceIte, Bool.false_eq_true, Bool.true_eq_false, Bool.not_true, Bool.not_false, x_len1, and_self, decide_eq_true_eq, decide_true, decide_false, eq_self, Bool.not_eq_true', decide_eq_false_iff_not, not_true_eq_false, not_false_eq_true, ne_eq, x_eqB, x_neB, x_intB, x_iIB, x_gT2, x_lLi, x_eTu, x_eTuO, x_eLeO, x_dSeqL, x_dSeqT, x_oN, x_oS, x_tI, x_sl, x_cutL, x_cutT, x_comp, x_app, x_asg, x_aug, wipeE, List.length_map, e]
    · unfold F__law_is_ratio B__law_is_ratio
      simp (implicitDefEqProofs := false) only [x_run, x_out_nx, x_out_rt, x_out_er, x_seq, x_seq_nx, x_seq_rt, x_seq_er, x_seq_ct, x_seq_bk, x_ofR_ok, x_ofR_er, x_nx, x_bk, x_ct, x_set, x_setL, x_ret, x_drop, x_retN, x_if, x_raise, x_var, x_gv0, x_gvS, x_gvo0, x_gvoS, x_gb, x_gb0, x_gbO, x_gbS, x_c, x_op, x_cm, x_un, x_bf, x_isi, x_ix, x_ixO, x_ofO_some, x_anil, x_acons, x_tup, x_lst, x_eL, x_tb, x_nt, x_an, x_or, x_ent, x_ean, x_eor, x_eif, x_tT, x_tV, x_tY, x_call, x_callD, x_callK, x_cd1, x_cd2, x_cd3, x_cd4, x_st0, x_stS, x_stN, x_wh, x_for, x_iseq, x_ir1, x_ir2, x_add, x_sub, x_neg, x_dcmp, x_eqI, x_neI, x_absI, x_intI, x_gcdI, x_maxI, x_minI, x_lenL, x_lenT, x_ixL, x_ixT, x_at0, x_at1, x_sz0, x_sz1, x_sz2, x_sz3, x_gN, x_forN, x_for0, x_fB_nx, x_fB_ct, x_fB_bk, x_fB_rt, x_fB_er, x_iTT, x_iTL, x_iTI, x_iLT, x_iLL, x_iII, x_iBI, x_iSS, x_iBB, x_truB, x_itT, x_itL, x_try, RO.bind_ok, RO.bind_er, RO.pure_ok, List.set_cons_zero, List.set_cons_succ, List.cons_append, List.nil_append, if_true, if_false, ite_true, ite_false, reduceIte, Bool.false_eq_true, Bool.true_eq_false, Bool.not_true, Bool.not_false, x_len1, and_self, decide_eq_true_eq, decide_true, decide_false, eq_self, Bool.not_eq_true', decide_eq_false_iff_not, not_true_eq_false, not_false_eq_true, ne_eq, x_eqB, x_neB, x_intB, x_iIB, x_gT2, x_lLi, x_eTu, x_eTuO, x_eLeO, x_dSeqL, x_dSeqT, x_oN, x_oS, x_tI, x_sl, x_cutL, x_cutT, x_comp, x_app, x_asg, x_aug, wipeE, List.length_map, e]
  · by_cases z : (xs.length : Int) = 2
    · match xs, z, hx with
      | [x, y], _, hx => exact ratio_pair (hx x (.head _)) (hx y (.tail _ (.head _)))
      | [], z, _ => exact absurd z (by decide)
      | [x], z, _ => exact absurd z (by show ¬ ((1 : Nat) : Int) = 2; decide)
      | x :: y :: w :: r, z, _ => exact absurd z (by simp only [List.length_cons]; omega)
    · refine ⟨false, ?_, ?_⟩
      · unfold F_is_ratio B_is_ratio
        simp (implicitDefEqProofs := false) only [x_run, x_out_nx, x_out_rt, x_out_er, x_seq, x_seq_nx, x_seq_rt, x_seq_er, x_seq_ct, x_seq_bk, x_ofR_ok, x_ofR_er, x_nx, x_bk, x_ct, x_set, x_setL, x_ret, x_drop, x_retN, x_if, x_raise, x_var, x_gv0, x_gvS, x_gvo0, x_gvoS, x_gb, x_gb0, x_gbO, x_gbS, x_c, x_op, x_cm, x_un, x_bf, x_isi, x_ix, x_ixO, x_ofO_some, x_anil, x_acons, x_tup, x_lst, x_eL, x_tb, x_nt, x_an, x_or, x_ent, x_ean, x_eor, x_eif, x_tT, x_tV, x_tY, x_call, x_callD, x_callK, x_cd1, x_cd2, x_cd3, x_cd4, x_st0, x_stS, x_stN, x_wh, x_for, x_iseq, x_ir1, x_ir2, x_add, x_sub, x_neg, x_dcmp, x_eqI, x_neI, x_absI, x_intI, x_gcdI, x_maxI, x_minI, x_lenL, x_lenT, x_ixL, x_ixT, x_at0, x_at1, x_sz0, x_sz1, x_sz2, x_sz3, x_gN, x_forN, x_for0, x_fB_nx, x_fB_ct, x_fB_bk, x_fB_rt, x_fB_er, x_iTT, x_iTL, x_iTI, x_iLT, x_iLL, x_iII, x_iBI, x_iSS, x_iBB, x_truB, x_itT, x_itL, x_try, RO.bind_ok, RO.bind_er, RO.pure_ok, List.set_cons_zero, List.set_cons_succ, List.cons_append, List.nil_append, if_true, if_false, ite_true, ite_false, reduceIte, Bool.false_eq_true, Bool.true_eq_false, Bool.not_true, Bool.not_false, x_len1, and_self, decide_eq_true_eq, decide_true, decide_false, eq_self, Bool.not_eq_true', decide_eq_false_iff_not, not_true_eq_false, not_false_eq_true, ne_eq, x_eqB, x_neB, x_intB, x_iIB, x_gT2, x_lLi, x_eTu, x_eTuO, x_eLeO, x_dSeqL, x_dSeqT, x_oN, x_oS, x_tI, x_sl, x_cutL, x_cutT, x_comp, x_app, x_asg, x_aug, wipeE, List.length_map, j10, len_T, eq_false z]
      · unfold F__law_is_ratio B__law_is_ratio
        simp (implicitDefEqProofs := false) only [x_run, x_out_nx, x_out_rt, x_out_er, x_seq, x_seq_nx, x_seq_rt, x_seq_er, x_seq_ct, x_seq_bk, x_ofR_ok, x_ofR_er, x_nx, x_bk, x_ct, x_set, x_setL, x_ret, x_drop, x_retN, x_if, x_raise, x_var, x_gv0, x_gvS, x_gvo0, x_gvoS, x_gb, x_gb0, x_gbO, x_gbS, x_c, x_op, x_cm, x_un, x_bf, x_isi, x_ix, x_ixO, x_ofO_some, x_anil, x_acons, x_tup, x_lst, x_eL, x_tb, x_nt, x_an, x_or, x_ent, x_ean, x_eor, x_eif, x_tT, x_tV, x_tY, x_call, x_callD, x_callK, x_cd1, x_cd2, x_cd3, x_cd4, x_st0, x_stS, x_stN, x_wh, x_for, x_iseq, x_ir1, x_ir2, x_add, x_sub, x_neg, x_dcmp, x_eqI, x_neI, x_absI, x_intI, x_gcdI, x_maxI, x_minI, x_lenL, x_lenT, x_ixL, x_ixT, x_at0, x_at1, x_sz0, x_sz1, x_sz2, x_sz3, x_gN, x_forN, x_for0, x_fB_nx, x_fB_ct, x_fB_bk, x_fB_rt, x_fB_er, x_iTT, x_iTL, x_iTI, x_iLT, x_iLL, x_iII, x_iBI, x_iSS, x_iBB, x_truB, x_itT, x_itL, x_try, RO.bind_ok, RO.bind_er, RO.pure_ok, List.set_cons_zero, List.set_cons_succ, List.cons_append, List.nil_append, if_true, if_false, ite_true, ite_false, reduceIte, Bool.false_eq_true, Bool.true_eq_false, Bool.not_true, Bool.not_false, x_len1, and_self, decide_eq_true_eq, decide_true, decide_false, eq_self, Bool.not_eq_true', decide_eq_false_iff_not, not_true_eq_false, not_false_eq_true, ne_eq, x_eqB, x_neB, x_intB, x_iIB, x_gT2, x_lLi, x_eTu, x_eTuO, x_eLeO, x_dSeqL, x_dSeqT, x_oN, x_oS, x_tI, x_sl, x_cutL, x_cutT, x_comp, x_app, x_asg, x_aug, wipeE, List.length_map, j10, len_T, eq_false z]
end KM
set_option Elab.async false
set_option linter.all false
set_option maxRecDepth 100000
set_option maxHeartbeats 4000000
namespace KM
open PySem PySem.Spec PyProof.Rows L2 PD
theorem fi {n : Nat} {i : Int} (h : Sm 215 i) : Fine n (.int i) := .int i h
theorem f1 {n : Nat} : Fine n (.int 1) := .int 1 (sm_small (by decide) (by decide))
theorem f0 {n : Nat} : Fine n (.int 0) := .int 0 (sm_small (by decide) (by decide))
theorem fb {n : Nat} {b : Bool} : Fine n (.bool b) := .bool b
theorem fs {n : Nat} {s : Str} (h : PyData.strOk s = true) : Fine n (.str s) := .str s h
theorem ft2 {n : Nat} {x y : PyData} (hx : Fine n x) (hy : Fine n y) : Fine (n + 1) (.tuple [x, y]) := .tup _ (by simp) fun z hz => by
  simp only [List.mem_cons, List.not_mem_nil, or_false] at hz
  rcases hz with rfl | rfl
  · exact hx
  · exact hy
theorem ft3 {n : Nat} {x y w : PyData} (hx : Fine n x) (hy : Fine n y) (hw : Fine n w) : Fine (n + 1) (.tuple [x, y, w]) := .tup _ (by simp) fun z hz => by
  simp only [List.mem_cons, List.not_mem_nil, or_false] at hz
  rcases hz with rfl | rfl | rfl
  · exact hx
  · exact hy
  · exact hw
theorem ft1 {n : Nat} {x : PyData} (hx : Fine n x) : Fine (n + 1) (.tuple [x]) := .tup _ (by simp) fun z hz => by
  simp only [List.mem_cons, List.not_mem_nil, or_false] at hz
  rw [hz]
  exact hx
theorem fl2 {n : Nat} {x y : PyData} (hx : Fine n x) (hy : Fine n y) : Fine (n + 1) (.list [x, y]) := .list _ (by simp) fun z hz => by
  simp only [List.mem_cons, List.not_mem_nil, or_false] at hz
  rcases hz with rfl | rfl
  · exact hx
  · exact hy
theorem ft0 {n : Nat} : Fine (n + 1) (.tuple []) := .tup _ (by simp) fun z hz => by cases hz
theorem value_ok {a b c : Int} (sa : Sm 213 a) (sb : Sm 213 b) (h0 : 0 ≤ c) (h1 : c < 12) : ∃ v, F__law_value [.int a, .int b, .int c] = .ok v ∧ Fine 3 v := by
  have s1 : Sm 213 1 := sm_small (by decide) (by decide)
  have t : Sm 214 (b.natAbs + 1 : Int) := by
    rw [← abs_eq]
    exact Sm.add (n := 213) sb.abs s1
  obtain ⟨p, q, e, hw⟩ := lowest_ok (a := a) (b := (b.natAbs + 1 : Int)) (by omega) (sa.mono (by decide)) t
  have hr := hw.rt (sa.mono (by decide)) t
  have hp : Sm 215 p := hr.2.2.1.mono (by decide)
  have hq : Sm 215 q := hr.2.2.2.mono (by decide)
  have ha : Sm 215 a := sa.mono (by decide)
  have z : c = 0 ∨ c = 1 ∨ c = 2 ∨ c = 3 ∨ c = 4 ∨ c = 5 ∨ c = 6 ∨ c = 7 ∨ c = 8 ∨ c = 9 ∨ c = 10 ∨ c = 11 := by omega
  have m4 := Int.emod_nonneg a (show (4 : Int) ≠ 0 by decide)
  have k4 := Int.emod_lt_of_pos a (show (0 : Int) < 4 by decide)
  rcases z with rfl | rfl | rfl | rfl | rfl | rfl | rfl | rfl | rfl | rfl | rfl | rfl
  · refine ⟨_, ?_, ft2 (fi hp) (fi hq)⟩
    unfold F__law_value B__law_value
    simp (implicitDefEqProofs := false) only [x_run, x_out_nx, x_out_rt, x_out_er, x_seq, x_seq_nx, x_seq_rt, x_seq_er, x_seq_ct, x_seq_bk, x_ofR_ok, x_ofR_er, x_nx, x_bk, x_ct, x_set, x_setL, x_ret, x_drop, x_retN, x_if, x_raise, x_var, x_gv0, x_gvS, x_gvo0, x_gvoS, x_gb, x_gb0, x_gbO, x_gbS, x_c, x_op, x_cm, x_un, x_bf, x_isi, x_ix, x_ixO, x_ofO_some, x_anil, x_acons, x_tup, x_lst, x_eL, x_tb, x_nt, x_an, x_or, x_ent, x_ean, x_eor, x_eif, x_tT, x_tV, x_tY, x_call, x_callD, x_callK, x_cd1, x_cd2, x_cd3, x_cd4, x_st0, x_stS, x_stN, x_wh, x_for, x_iseq, x_ir1, x_ir2, x_add, x_sub, x_neg, x_dcmp, x_eqI, x_neI, x_absI, x_intI, x_gcdI, x_maxI, x_minI, x_lenL, x_lenT, x_ixL, x_ixT, x_at0, x_at1, x_sz0, x_sz1, x_sz2, x_sz3, x_gN, x_forN, x_for0, x_fB_nx, x_fB_ct, x_fB_bk, x_fB_rt, x_fB_er, x_iTT, x_iTL, x_iTI, x_iLT, x_iLL, x_iII, x_iBI, x_iSS, x_iBB, x_truB, x_itT, x_itL, x_try, RO.bind_ok, RO.bind_er, RO.pure_ok, List.set_cons_zero, List.set_cons_succ, List.cons_append, List.nil_append, if_true, if_false, ite_true, ite_false, reduceIte, Bool.false_eq_true, Bool.true_eq_false, Bool.not_true, Bool.not_false, x_len1, and_self, decide_eq_true_eq, decide_true, decide_false, eq_self, Bool.not_eq_true', decide_eq_false_iff_not, not_true_eq_false, not_false_eq_true, ne_eq, x_eqB, x_neB, x_intB, x_iIB, x_gT2, x_lLi, x_eTu, x_eTuO, x_eLeO, x_dSeqL, x_dSeqT, x_oN, x_oS, x_tI, x_sl, x_cutL, x_cutT, x_comp, x_app, x_asg, x_aug, wipeE, List.length_map, abs_eq, e]
    rfl
  · refine ⟨_, ?_, ft2 (fi ha) (fi (sb.mono (by decide)))⟩
    unfold F__law_value B__law_value
    simp (implicitDefEqProofs := false) only [x_run, x_out_nx, x_out_rt, x_out_er, x_seq, x_seq_nx, x_seq_rt, x_seq_er, x_seq_ct, x_seq_bk, x_ofR_ok, x_ofR_er, x_nx, x_bk, x_ct, x_set, x_setL, x_ret, x_drop, x_retN, x_if, x_raise, x_var, x_gv0, x_gvS, x_gvo0, x_gvoS, x_gb, x_gb0, x_gbO, x_gbS, x_c, x_op, x_cm, x_un, x_bf, x_isi, x_ix, x_ixO, x_ofO_some, x_anil, x_acons, x_tup, x_lst, x_eL, x_tb, x_nt, x_an, x_or, x_ent, x_ean, x_eor, x_eif, x_tT, x_tV, x_tY, x_call, x_callD, x_callK, x_cd1, x_cd2, x_cd3, x_cd4, x_st0, x_stS, x_stN, x_wh, x_for, x_iseq, x_ir1, x_ir2, x_add, x_sub, x_neg, x_dcmp, x_eqI, x_neI, x_absI, x_intI, x_gcdI, x_maxI, x_minI, x_lenL, x_lenT, x_ixL, x_ixT, x_at0, x_at1, x_sz0, x_sz1, x_sz2, x_sz3, x_gN, x_forN, x_for0, x_fB_nx, x_fB_ct, x_fB_bk, x_fB_rt, x_fB_er, x_iTT, x_iTL, x_iTI, x_iLT, x_iLL, x_iII, x_iBI, x_iSS, x_iBB, x_truB, x_itT, x_itL, x_try, RO.bind_ok, RO.bind_er, RO.pure_ok, List.set_cons_zero, List.set_cons_succ, List.cons_append, List.nil_append, if_true, if_false, ite_true, ite_false, reduceIte, Bool.false_eq_true, Bool.true_eq_false, Bool.not_true, Bool.not_false, x_len1, and_self, decide_eq_true_eq, decide_true, decide_false, eq_self, Bool.not_eq_true', decide_eq_false_iff_not, not_true_eq_false, not_false_eq_true, ne_eq, x_eqB, x_neB, x_intB, x_iIB, x_gT2, x_lLi, x_eTu, x_eTuO, x_eLeO, x_dSeqL, x_dSeqT, x_oN, x_oS, x_tI, x_sl, x_cutL, x_cutT, x_comp, x_app, x_asg, x_aug, wipeE, List.length_map, (eq_false (by decide) : ((1 : Int) = 0) = False)]
  · have h2 : Sm 2 2 := by unfold Sm; decide
    have u1 : Sm 215 (a * 2) := (sa.mul h2)
    have u2 : Sm 215 ((b.natAbs : Int) * 2) := by
      rw [← abs_eq]
      exact sb.abs.mul h2
    have w1 : dMulX (.int a) (.int 2) = some (.int (a * 2)) := x_mul (mulOk_sm sa h2 (by omega))
    have w2 : dMulX (.int (b.natAbs : Int)) (.int 2) = some (.int ((b.natAbs : Int) * 2)) := x_mul (mulOk_sm (by rw [← abs_eq]; exact sb.abs) h2 (by omega))
    refine ⟨_, ?_, ft2 (fi u1) (fi u2)⟩
    unfold F__law_value B__law_value
    simp (implicitDefEqProofs := false) only [x_run, x_out_nx, x_out_rt, x_out_er, x_seq, x_seq_nx, x_seq_rt, x_seq_er, x_seq_ct, x_seq_bk, x_ofR_ok, x_ofR_er, x_nx, x_bk, x_ct, x_set, x_setL, x_ret, x_drop, x_retN, x_if, x_raise, x_var, x_gv0, x_gvS, x_gvo0, x_gvoS, x_gb, x_gb0, x_gbO, x_gbS, x_c, x_op, x_cm, x_un, x_bf, x_isi, x_ix, x_ixO, x_ofO_some, x_anil, x_acons, x_tup, x_lst, x_eL, x_tb, x_nt, x_an, x_or, x_ent, x_ean, x_eor, x_eif, x_tT, x_tV, x_tY, x_call, x_callD, x_callK, x_cd1, x_cd2, x_cd3, x_cd4, x_st0, x_stS, x_stN, x_wh, x_for, x_iseq, x_ir1, x_ir2, x_add, x_sub, x_neg, x_dcmp, x_eqI, x_neI, x_absI, x_intI, x_gcdI, x_maxI, x_minI, x_lenL, x_lenT, x_ixL, x_ixT, x_at0, x_at1, x_sz0, x_sz1, x_sz2, x_sz3, x_gN, x_forN, x_for0, x_fB_nx, x_fB_ct, x_fB_bk, x_fB_rt, x_fB_er, x_iTT, x_iTL, x_iTI, x_iLT, x_iLL, x_iII, x_iBI, x_iSS, x_iBB, x_truB, x_itT, x_itL, x_try, RO.bind_ok, RO.bind_er, RO.pure_ok, List.set_cons_zero, List.set_cons_succ, List.cons_append, List.nil_append, if_true, if_false, ite_true, ite_false, reduceIte, Bool.false_eq_true, Bool.true_eq_false, Bool.not_true, Bool.not_false, x_len1, and_self, decide_eq_true_eq, decide_true, decide_false, eq_self, Bool.not_eq_true', decide_eq_false_iff_not, not_true_eq_false, not_false_eq_true, ne_eq, x_eqB, x_neB, x_intB, x_iIB, x_gT2, x_lLi, x_eTu, x_eTuO, x_eLeO, x_dSeqL, x_dSeqT, x_oN, x_oS, x_tI, x_sl, x_cutL, x_cutT, x_comp, x_app, x_asg, x_aug, wipeE, List.length_map, (eq_false (by decide) : ((2 : Int) = 0) = False), (eq_false (by decide) : ((2 : Int) = 1) = False), abs_eq, w1, w2]
  · refine ⟨_, ?_, ft2 (fi hp) (fi hq.neg)⟩
    unfold F__law_value B__law_value
    have v1 : dIx (rat p q) (.int 0) = some (.int p) := x_at0
    have v2 : dIx (rat p q) (.int 1) = some (.int q) := x_at1
    simp (implicitDefEqProofs := false) only [x_run, x_out_nx, x_out_rt, x_out_er, x_seq, x_seq_nx, x_seq_rt, x_seq_er, x_seq_ct, x_seq_bk, x_ofR_ok, x_ofR_er, x_nx, x_bk, x_ct, x_set, x_setL, x_ret, x_drop, x_retN, x_if, x_raise, x_var, x_gv0, x_gvS, x_gvo0, x_gvoS, x_gb, x_gb0, x_gbO, x_gbS, x_c, x_op, x_cm, x_un, x_bf, x_isi, x_ix, x_ixO, x_ofO_some, x_anil, x_acons, x_tup, x_lst, x_eL, x_tb, x_nt, x_an, x_or, x_ent, x_ean, x_eor, x_eif, x_tT, x_tV, x_tY, x_call, x_callD, x_callK, x_cd1, x_cd2, x_cd3, x_cd4, x_st0, x_stS, x_stN, x_wh, x_for, x_iseq, x_ir1, x_ir2, x_add, x_sub, x_neg, x_dcmp, x_eqI, x_neI, x_absI, x_intI, x_gcdI, x_maxI, x_minI, x_lenL, x_lenT, x_ixL, x_ixT, x_at0, x_at1, x_sz0, x_sz1, x_sz2, x_sz3, x_gN, x_forN, x_for0, x_fB_nx, x_fB_ct, x_fB_bk, x_fB_rt, x_fB_er, x_iTT, x_iTL, x_iTI, x_iLT, x_iLL, x_iII, x_iBI, x_iSS, x_iBB, x_truB, x_itT, x_itL, x_try, RO.bind_ok, RO.bind_er, RO.pure_ok, List.set_cons_zero, List.set_cons_succ, List.cons_append, List.nil_append, if_true, if_false, ite_true, ite_false, reduceIte, Bool.false_eq_true, Bool.true_eq_false, Bool.not_true, Bool.not_false, x_len1, and_self, decide_eq_true_eq, decide_true, decide_false, eq_self, Bool.not_eq_true', decide_eq_false_iff_not, not_true_eq_false, not_false_eq_true, ne_eq, x_eqB, x_neB, x_intB, x_iIB, x_gT2, x_lLi, x_eTu, x_eTuO, x_eLeO, x_dSeqL, x_dSeqT, x_oN, x_oS, x_tI, x_sl, x_cutL, x_cutT, x_comp, x_app, x_asg, x_aug, wipeE, List.length_map, (eq_false (by decide) : ((3 : Int) = 0) = False), (eq_false (by decide) : ((3 : Int) = 1) = False), (eq_false (by decide) : ((3 : Int) = 2) = False), abs_eq, e, v1, v2]
  · refine ⟨_, ?_, ft2 (fi ha) (fi (i := 1 + (a.natAbs : Int)) (by
      rw [← abs_eq]
      exact (Sm.add (n := 213) s1 sa.abs).mono (by decide)))⟩
    unfold F__law_value B__law_value
    simp (implicitDefEqProofs := false) only [x_run, x_out_nx, x_out_rt, x_out_er, x_seq, x_seq_nx, x_seq_rt, x_seq_er, x_seq_ct, x_seq_bk, x_ofR_ok, x_ofR_er, x_nx, x_bk, x_ct, x_set, x_setL, x_ret, x_drop, x_retN, x_if, x_raise, x_var, x_gv0, x_gvS, x_gvo0, x_gvoS, x_gb, x_gb0, x_gbO, x_gbS, x_c, x_op, x_cm, x_un, x_bf, x_isi, x_ix, x_ixO, x_ofO_some, x_anil, x_acons, x_tup, x_lst, x_eL, x_tb, x_nt, x_an, x_or, x_ent, x_ean, x_eor, x_eif, x_tT, x_tV, x_tY, x_call, x_callD, x_callK, x_cd1, x_cd2, x_cd3, x_cd4, x_st0, x_stS, x_stN, x_wh, x_for, x_iseq, x_ir1, x_ir2, x_add, x_sub, x_neg, x_dcmp, x_eqI, x_neI, x_absI, x_intI, x_gcdI, x_maxI, x_minI, x_lenL, x_lenT, x_ixL, x_ixT, x_at0, x_at1, x_sz0, x_sz1, x_sz2, x_sz3, x_gN, x_forN, x_for0, x_fB_nx, x_fB_ct, x_fB_bk, x_fB_rt, x_fB_er, x_iTT, x_iTL, x_iTI, x_iLT, x_iLL, x_iII, x_iBI, x_iSS, x_iBB, x_truB, x_itT, x_itL, x_try, RO.bind_ok, RO.bind_er, RO.pure_ok, List.set_cons_zero, List.set_cons_succ, List.cons_append, List.nil_append, if_true, if_false, ite_true, ite_false, reduceIte, Bool.false_eq_true, Bool.true_eq_false, Bool.not_true, Bool.not_false, x_len1, and_self, decide_eq_true_eq, decide_true, decide_false, eq_self, Bool.not_eq_true', decide_eq_false_iff_not, not_true_eq_false, not_false_eq_true, ne_eq, x_eqB, x_neB, x_intB, x_iIB, x_gT2, x_lLi, x_eTu, x_eTuO, x_eLeO, x_dSeqL, x_dSeqT, x_oN, x_oS, x_tI, x_sl, x_cutL, x_cutT, x_comp, x_app, x_asg, x_aug, wipeE, List.length_map, (eq_false (by decide) : ((4 : Int) = 0) = False), (eq_false (by decide) : ((4 : Int) = 1) = False), (eq_false (by decide) : ((4 : Int) = 2) = False), (eq_false (by decide) : ((4 : Int) = 3) = False), abs_eq]
  · have l1 : dSeq (rat p q) = .ok [.int p, .int q] := rfl
    refine ⟨_, ?_, fl2 (fi hp) (fi hq)⟩
    unfold F__law_value B__law_value
    simp (implicitDefEqProofs := false) only [x_run, x_out_nx, x_out_rt, x_out_er, x_seq, x_seq_nx, x_seq_rt, x_seq_er, x_seq_ct, x_seq_bk, x_ofR_ok, x_ofR_er, x_nx, x_bk, x_ct, x_set, x_setL, x_ret, x_drop, x_retN, x_if, x_raise, x_var, x_gv0, x_gvS, x_gvo0, x_gvoS, x_gb, x_gb0, x_gbO, x_gbS, x_c, x_op, x_cm, x_un, x_bf, x_isi, x_ix, x_ixO, x_ofO_some, x_anil, x_acons, x_tup, x_lst, x_eL, x_tb, x_nt, x_an, x_or, x_ent, x_ean, x_eor, x_eif, x_tT, x_tV, x_tY, x_call, x_callD, x_callK, x_cd1, x_cd2, x_cd3, x_cd4, x_st0, x_stS, x_stN, x_wh, x_for, x_iseq, x_ir1, x_ir2, x_add, x_sub, x_neg, x_dcmp, x_eqI, x_neI, x_absI, x_intI, x_gcdI, x_maxI, x_minI, x_lenL, x_lenT, x_ixL, x_ixT, x_at0, x_at1, x_sz0, x_sz1, x_sz2, x_sz3, x_gN, x_forN, x_for0, x_fB_nx, x_fB_ct, x_fB_bk, x_fB_rt, x_fB_er, x_iTT, x_iTL, x_iTI, x_iLT, x_iLL, x_iII, x_iBI, x_iSS, x_iBB, x_truB, x_itT, x_itL, x_try, RO.bind_ok, RO.bind_er, RO.pure_ok, List.set_cons_zero, List.set_cons_succ, List.cons_append, List.nil_append, if_true, if_false, ite_true, ite_false, reduceIte, Bool.false_eq_true, Bool.true_eq_false, Bool.not_true, Bool.not_false, x_len1, and_self, decide_eq_true_eq, decide_true, decide_false, eq_self, Bool.not_eq_true', decide_eq_false_iff_not, not_true_eq_false, not_false_eq_true, ne_eq, x_eqB, x_neB, x_intB, x_iIB, x_gT2, x_lLi, x_eTu, x_eTuO, x_eLeO, x_dSeqL, x_dSeqT, x_oN, x_oS, x_tI, x_sl, x_cutL, x_cutT, x_comp, x_app, x_asg, x_aug, wipeE, List.length_map, (eq_false (by decide) : ((5 : Int) = 0) = False), (eq_false (by decide) : ((5 : Int) = 1) = False), (eq_false (by decide) : ((5 : Int) = 2) = False), (eq_false (by decide) : ((5 : Int) = 3) = False), (eq_false (by decide) : ((5 : Int) = 4) = False), abs_eq, e, l1]
  · have hz := Int.emod_nonneg a (show (4 : Int) ≠ 0 by decide)
    have hk := Int.emod_lt_of_pos a (show (0 : Int) < 4 by decide)
    have z : a % 4 = 0 ∨ a % 4 = 1 ∨ a % 4 = 2 ∨ a % 4 = 3 := by omega
    rcases z with z | z | z | z
    · refine ⟨.tuple [.bool true, .int 1], ?_, ft2 fb f1⟩
      unfold F__law_value B__law_value
      have hL : (([.tuple [.bool true, .int 1], .tuple [.int 1, .bool true], .tuple [.bool false, .int 1], .tuple [.int 0, .bool false]] : List PyData).length ≤ sizeLine) = True := eq_true (by rw [sizeLine_eq]; simp)
      have hi : atI ([.tuple [.bool true, .int 1], .tuple [.int 1, .bool true], .tuple [.bool false, .int 1], .tuple [.int 0, .bool false]] : List PyData) (0 : Int) = some (.tuple [.bool true, .int 1]) := rfl
      simp (implicitDefEqProofs := false) only [x_run, x_out_nx, x_out_rt, x_out_er, x_seq, x_seq_nx, x_seq_rt, x_seq_er, x_seq_ct, x_seq_bk, x_ofR_ok, x_ofR_er, x_nx, x_bk, x_ct, x_set, x_setL, x_ret, x_drop, x_retN, x_if, x_raise, x_var, x_gv0, x_gvS, x_gvo0, x_gvoS, x_gb, x_gb0, x_gbO, x_gbS, x_c, x_op, x_cm, x_un, x_bf, x_isi, x_ix, x_ixO, x_ofO_some, x_anil, x_acons, x_tup, x_lst, x_eL, x_tb, x_nt, x_an, x_or, x_ent, x_ean, x_eor, x_eif, x_tT, x_tV, x_tY, x_call, x_callD, x_callK, x_cd1, x_cd2, x_cd3, x_cd4, x_st0, x_stS, x_stN, x_wh, x_for, x_iseq, x_ir1, x_ir2, x_add, x_sub, x_neg, x_dcmp, x_eqI, x_neI, x_absI, x_intI, x_gcdI, x_maxI, x_minI, x_lenL, x_lenT, x_ixL, x_ixT, x_at0, x_at1, x_sz0, x_sz1, x_sz2, x_sz3, x_gN, x_forN, x_for0, x_fB_nx, x_fB_ct, x_fB_bk, x_fB_rt, x_fB_er, x_iTT, x_iTL, x_iTI, x_iLT, x_iLL, x_iII, x_iBI, x_iSS, x_iBB, x_truB, x_itT, x_itL, x_try, RO.bind_ok, RO.bind_er, RO.pure_ok, List.set_cons_zero, List.set_cons_succ, List.cons_append, List.nil_append, if_true, if_false, ite_true, ite_false, reduceIte, Bool.false_eq_true, Bool.true_eq_false, Bool.not_true, Bool.not_false, x_len1, and_self, decide_eq_true_eq, decide_true, decide_false, eq_self, Bool.not_eq_true', decide_eq_false_iff_not, not_true_eq_false, not_false_eq_true, ne_eq, x_eqB, x_neB, x_intB, x_iIB, x_gT2, x_lLi, x_eTu, x_eTuO, x_eLeO, x_dSeqL, x_dSeqT, x_oN, x_oS, x_tI, x_sl, x_cutL, x_cutT, x_comp, x_app, x_asg, x_aug, wipeE, List.length_map, (eq_false (by decide) : ((6 : Int) = 0) = False), (eq_false (by decide) : ((6 : Int) = 1) = False), (eq_false (by decide) : ((6 : Int) = 2) = False), (eq_false (by decide) : ((6 : Int) = 3) = False), (eq_false (by decide) : ((6 : Int) = 4) = False), (eq_false (by decide) : ((6 : Int) = 5) = False), x_mod (show (0 : Int) < 4 by decide), z, hL, hi]
    · refine ⟨.tuple [.int 1, .bool true], ?_, ft2 f1 fb⟩
      unfold F__law_value B__law_value
      have hL : (([.tuple [.bool true, .int 1], .tuple [.int 1, .bool true], .tuple [.bool false, .int 1], .tuple [.int 0, .bool false]] : List PyData).length ≤ sizeLine) = True := eq_true (by rw [sizeLine_eq]; simp)
      have hi : atI ([.tuple [.bool true, .int 1], .tuple [.int 1, .bool true], .tuple [.bool false, .int 1], .tuple [.int 0, .bool false]] : List PyData) (1 : Int) = some (.tuple [.int 1, .bool true]) := rfl
      simp (implicitDefEqProofs := false) only [x_run, x_out_nx, x_out_rt, x_out_er, x_seq, x_seq_nx, x_seq_rt, x_seq_er, x_seq_ct, x_seq_bk, x_ofR_ok, x_ofR_er, x_nx, x_bk, x_ct, x_set, x_setL, x_ret, x_drop, x_retN, x_if, x_raise, x_var, x_gv0, x_gvS, x_gvo0, x_gvoS, x_gb, x_gb0, x_gbO, x_gbS, x_c, x_op, x_cm, x_un, x_bf, x_isi, x_ix, x_ixO, x_ofO_some, x_anil, x_acons, x_tup, x_lst, x_eL, x_tb, x_nt, x_an, x_or, x_ent, x_ean, x_eor, x_eif, x_tT, x_tV, x_tY, x_call, x_callD, x_callK, x_cd1, x_cd2, x_cd3, x_cd4, x_st0, x_stS, x_stN, x_wh, x_for, x_iseq, x_ir1, x_ir2, x_add, x_sub, x_neg, x_dcmp, x_eqI, x_neI, x_absI, x_intI, x_gcdI, x_maxI, x_minI, x_lenL, x_lenT, x_ixL, x_ixT, x_at0, x_at1, x_sz0, x_sz1, x_sz2, x_sz3, x_gN, x_forN, x_for0, x_fB_nx, x_fB_ct, x_fB_bk, x_fB_rt, x_fB_er, x_iTT, x_iTL, x_iTI, x_iLT, x_iLL, x_iII, x_iBI, x_iSS, x_iBB, x_truB, x_itT, x_itL, x_try, RO.bind_ok, RO.bind_er, RO.pure_ok, List.set_cons_zero, List.set_cons_succ, List.cons_append, List.nil_append, if_true, if_false, ite_true, ite_false, reduceIte, Bool.false_eq_true, Bool.true_eq_false, Bool.not_true, Bool.not_false, x_len1, and_self, decide_eq_true_eq, decide_true, decide_false, eq_self, Bool.not_eq_true', decide_eq_false_iff_not, not_true_eq_false, not_false_eq_true, ne_eq, x_eqB, x_neB, x_intB, x_iIB, x_gT2, x_lLi, x_eTu, x_eTuO, x_eLeO, x_dSeqL, x_dSeqT, x_oN, x_oS, x_tI, x_sl, x_cutL, x_cutT, x_comp, x_app, x_asg, x_aug, wipeE, List.length_map, (eq_false (by decide) : ((6 : Int) = 0) = False), (eq_false (by decide) : ((6 : Int) = 1) = False), (eq_false (by decide) : ((6 : Int) = 2) = False), (eq_false (by decide) : ((6 : Int) = 3) = False), (eq_false (by decide) : ((6 : Int) = 4) = False), (eq_false (by decide) : ((6 : Int) = 5) = False), x_mod (show (0 : Int) < 4 by decide), z, hL, hi]
    · refine ⟨.tuple [.bool false, .int 1], ?_, ft2 fb f1⟩
      unfold F__law_value B__law_value
      have hL : (([.tuple [.bool true, .int 1], .tuple [.int 1, .bool true], .tuple [.bool false, .int 1], .tuple [.int 0, .bool false]] : List PyData).length ≤ sizeLine) = True := eq_true (by rw [sizeLine_eq]; simp)
      have hi : atI ([.tuple [.bool true, .int 1], .tuple [.int 1, .bool true], .tuple [.bool false, .int 1], .tuple [.int 0, .bool false]] : List PyData) (2 : Int) = some (.tuple [.bool false, .int 1]) := rfl
      simp (implicitDefEqProofs := false) only [x_run, x_out_nx, x_out_rt, x_out_er, x_seq, x_seq_nx, x_seq_rt, x_seq_er, x_seq_ct, x_seq_bk, x_ofR_ok, x_ofR_er, x_nx, x_bk, x_ct, x_set, x_setL, x_ret, x_drop, x_retN, x_if, x_raise, x_var, x_gv0, x_gvS, x_gvo0, x_gvoS, x_gb, x_gb0, x_gbO, x_gbS, x_c, x_op, x_cm, x_un, x_bf, x_isi, x_ix, x_ixO, x_ofO_some, x_anil, x_acons, x_tup, x_lst, x_eL, x_tb, x_nt, x_an, x_or, x_ent, x_ean, x_eor, x_eif, x_tT, x_tV, x_tY, x_call, x_callD, x_callK, x_cd1, x_cd2, x_cd3, x_cd4, x_st0, x_stS, x_stN, x_wh, x_for, x_iseq, x_ir1, x_ir2, x_add, x_sub, x_neg, x_dcmp, x_eqI, x_neI, x_absI, x_intI, x_gcdI, x_maxI, x_minI, x_lenL, x_lenT, x_ixL, x_ixT, x_at0, x_at1, x_sz0, x_sz1, x_sz2, x_sz3, x_gN, x_forN, x_for0, x_fB_nx, x_fB_ct, x_fB_bk, x_fB_rt, x_fB_er, x_iTT, x_iTL, x_iTI, x_iLT, x_iLL, x_iII, x_iBI, x_iSS, x_iBB, x_truB, x_itT, x_itL, x_try, RO.bind_ok, RO.bind_er, RO.pure_ok, List.set_cons_zero, List.set_cons_succ, List.cons_append, List.nil_append, if_true, if_false, ite_true, ite_false, reduceIte, Bool.false_eq_true, Bool.true_eq_false, Bool.not_true, Bool.not_false, x_len1, and_self, decide_eq_true_eq, decide_true, decide_false, eq_self, Bool.not_eq_true', decide_eq_false_iff_not, not_true_eq_false, not_false_eq_true, ne_eq, x_eqB, x_neB, x_intB, x_iIB, x_gT2, x_lLi, x_eTu, x_eTuO, x_eLeO, x_dSeqL, x_dSeqT, x_oN, x_oS, x_tI, x_sl, x_cutL, x_cutT, x_comp, x_app, x_asg, x_aug, wipeE, List.length_map, (eq_false (by decide) : ((6 : Int) = 0) = False), (eq_false (by decide) : ((6 : Int) = 1) = False), (eq_false (by decide) : ((6 : Int) = 2) = False), (eq_false (by decide) : ((6 : Int) = 3) = False), (eq_false (by decide) : ((6 : Int) = 4) = False), (eq_false (by decide) : ((6 : Int) = 5) = False), x_mod (show (0 : Int) < 4 by decide), z, hL, hi]
    · refine ⟨.tuple [.int 0, .bool false], ?_, ft2 f0 fb⟩
      unfold F__law_value B__law_value
      have hL : (([.tuple [.bool true, .int 1], .tuple [.int 1, .bool true], .tuple [.bool false, .int 1], .tuple [.int 0, .bool false]] : List PyData).length ≤ sizeLine) = True := eq_true (by rw [sizeLine_eq]; simp)
      have hi : atI ([.tuple [.bool true, .int 1], .tuple [.int 1, .bool true], .tuple [.bool false, .int 1], .tuple [.int 0, .bool false]] : List PyData) (3 : Int) = some (.tuple [.int 0, .bool false]) := rfl
      simp (implicitDefEqProofs := false) only [x_run, x_out_nx, x_out_rt, x_out_er, x_seq, x_seq_nx, x_seq_rt, x_seq_er, x_seq_ct, x_seq_bk, x_ofR_ok, x_ofR_er, x_nx, x_bk, x_ct, x_set, x_setL, x_ret, x_drop, x_retN, x_if, x_raise, x_var, x_gv0, x_gvS, x_gvo0, x_gvoS, x_gb, x_gb0, x_gbO, x_gbS, x_c, x_op, x_cm, x_un, x_bf, x_isi, x_ix, x_ixO, x_ofO_some, x_anil, x_acons, x_tup, x_lst, x_eL, x_tb, x_nt, x_an, x_or, x_ent, x_ean, x_eor, x_eif, x_tT, x_tV, x_tY, x_call, x_callD, x_callK, x_cd1, x_cd2, x_cd3, x_cd4, x_st0, x_stS, x_stN, x_wh, x_for, x_iseq, x_ir1, x_ir2, x_add, x_sub, x_neg, x_dcmp, x_eqI, x_neI, x_absI, x_intI, x_gcdI, x_maxI, x_minI, x_lenL, x_lenT, x_ixL, x_ixT, x_at0, x_at1, x_sz0, x_sz1, x_sz2, x_sz3, x_gN, x_forN, x_for0, x_fB_nx, x_fB_ct, x_fB_bk, x_fB_rt, x_fB_er, x_iTT, x_iTL, x_iTI, x_iLT, x_iLL, x_iII, x_iBI, x_iSS, x_iBB, x_truB, x_itT, x_itL, x_try, RO.bind_ok, RO.bind_er, RO.pure_ok, List.set_cons_zero, List.set_cons_succ, List.cons_append, List.nil_append, if_true, if_false, ite_true, ite_false, reduceIte, Bool.false_eq_true, Bool.true_eq_false, Bool.not_true, Bool.not_false, x_len1, and_self, decide_eq_true_eq, decide_true, decide_false, eq_self, Bool.not_eq_true', decide_eq_false_iff_not, not_true_eq_false, not_false_eq_true, ne_eq, x_eqB, x_neB, x_intB, x_iIB, x_gT2, x_lLi, x_eTu, x_eTuO, x_eLeO, x_dSeqL, x_dSeqT, x_oN, x_oS, x_tI, x_sl, x_cutL, x_cutT, x_comp, x_app, x_asg, x_aug, wipeE, List.length_map, (eq_false (by decide) : ((6 : Int) = 0) = False), (eq_false (by decide) : ((6 : Int) = 1) = False), (eq_false (by decide) : ((6 : Int) = 2) = False), (eq_false (by decide) : ((6 : Int) = 3) = False), (eq_false (by decide) : ((6 : Int) = 4) = False), (eq_false (by decide) : ((6 : Int) = 5) = False), x_mod (show (0 : Int) < 4 by decide), z, hL, hi]
  · have hz := Int.emod_nonneg a (show (8 : Int) ≠ 0 by decide)
    have hk := Int.emod_lt_of_pos a (show (0 : Int) < 8 by decide)
    have z : a % 8 = 0 ∨ a % 8 = 1 ∨ a % 8 = 2 ∨ a % 8 = 3 ∨ a % 8 = 4 ∨ a % 8 = 5 ∨ a % 8 = 6 ∨ a % 8 = 7 := by omega
    rcases z with z | z | z | z | z | z | z | z
    · refine ⟨.tuple [], ?_, ft0⟩
      unfold F__law_value B__law_value
      have hL : (([.tuple [], .tuple [.int a], .tuple [.int a, .int 1, .int 1], .tuple [.int a, .none], .tuple [.str "1", .str "1"], .tuple [.str "1", .int 1], .tuple [.int 1, .str "1"], .tuple [.tuple [.int 1, .int 1], .int 1]] : List PyData).length ≤ sizeLine) = True := eq_true (by rw [sizeLine_eq]; simp)
      have hi : atI ([.tuple [], .tuple [.int a], .tuple [.int a, .int 1, .int 1], .tuple [.int a, .none], .tuple [.str "1", .str "1"], .tuple [.str "1", .int 1], .tuple [.int 1, .str "1"], .tuple [.tuple [.int 1, .int 1], .int 1]] : List PyData) (0 : Int) = some (.tuple []) := rfl
      simp (implicitDefEqProofs := false) only [x_run, x_out_nx, x_out_rt, x_out_er, x_seq, x_seq_nx, x_seq_rt, x_seq_er, x_seq_ct, x_seq_bk, x_ofR_ok, x_ofR_er, x_nx, x_bk, x_ct, x_set, x_setL, x_ret, x_drop, x_retN, x_if, x_raise, x_var, x_gv0, x_gvS, x_gvo0, x_gvoS, x_gb, x_gb0, x_gbO, x_gbS, x_c, x_op, x_cm, x_un, x_bf, x_isi, x_ix, x_ixO, x_ofO_some, x_anil, x_acons, x_tup, x_lst, x_eL, x_tb, x_nt, x_an, x_or, x_ent, x_ean, x_eor, x_eif, x_tT, x_tV, x_tY, x_call, x_callD, x_callK, x_cd1, x_cd2, x_cd3, x_cd4, x_st0, x_stS, x_stN, x_wh, x_for, x_iseq, x_ir1, x_ir2, x_add, x_sub, x_neg, x_dcmp, x_eqI, x_neI, x_absI, x_intI, x_gcdI, x_maxI, x_minI, x_lenL, x_lenT, x_ixL, x_ixT, x_at0, x_at1, x_sz0, x_sz1, x_sz2, x_sz3, x_gN, x_forN, x_for0, x_fB_nx, x_fB_ct, x_fB_bk, x_fB_rt, x_fB_er, x_iTT, x_iTL, x_iTI, x_iLT, x_iLL, x_iII, x_iBI, x_iSS, x_iBB, x_truB, x_itT, x_itL, x_try, RO.bind_ok, RO.bind_er, RO.pure_ok, List.set_cons_zero, List.set_cons_succ, List.cons_append, List.nil_append, if_true, if_false, ite_true, ite_false, reduceIte, Bool.false_eq_true, Bool.true_eq_false, Bool.not_true, Bool.not_false, x_len1, and_self, decide_eq_true_eq, decide_true, decide_false, eq_self, Bool.not_eq_true', decide_eq_false_iff_not, not_true_eq_false, not_false_eq_true, ne_eq, x_eqB, x_neB, x_intB, x_iIB, x_gT2, x_lLi, x_eTu, x_eTuO, x_eLeO, x_dSeqL, x_dSeqT, x_oN, x_oS, x_tI, x_sl, x_cutL, x_cutT, x_comp, x_app, x_asg, x_aug, wipeE, List.length_map, (eq_false (by decide) : ((7 : Int) = 0) = False), (eq_false (by decide) : ((7 : Int) = 1) = False), (eq_false (by decide) : ((7 : Int) = 2) = False), (eq_false (by decide) : ((7 : Int) = 3) = False), (eq_false (by decide) : ((7 : Int) = 4) = False), (eq_false (by decide) : ((7 : Int) = 5) = False), (eq_false (by decide) : ((7 : Int) = 6) = False), x_mod (show (0 : Int) < 8 by decide), z, hL, hi]
    · refine ⟨.tuple [.int a], ?_, ft1 (fi ha)⟩
      unfold F__law_value B__law_value
      have hL : (([.tuple [], .tuple [.int a], .tuple [.int a, .int 1, .int 1], .tuple [.int a, .none], .tuple [.str "1", .str "1"], .tuple [.str "1", .int 1], .tuple [.int 1, .str "1"], .tuple [.tuple [.int 1, .int 1], .int 1]] : List PyData).length ≤ sizeLine) = True := eq_true (by rw [sizeLine_eq]; simp)
      have hi : atI ([.tuple [], .tuple [.int a], .tuple [.int a, .int 1, .int 1], .tuple [.int a, .none], .tuple [.str "1", .str "1"], .tuple [.str "1", .int 1], .tuple [.int 1, .str "1"], .tuple [.tuple [.int 1, .int 1], .int 1]] : List PyData) (1 : Int) = some (.tuple [.int a]) := rfl
      simp (implicitDefEqProofs := false) only [x_run, x_out_nx, x_out_rt, x_out_er, x_seq, x_seq_nx, x_seq_rt, x_seq_er, x_seq_ct, x_seq_bk, x_ofR_ok, x_ofR_er, x_nx, x_bk, x_ct, x_set, x_setL, x_ret, x_drop, x_retN, x_if, x_raise, x_var, x_gv0, x_gvS, x_gvo0, x_gvoS, x_gb, x_gb0, x_gbO, x_gbS, x_c, x_op, x_cm, x_un, x_bf, x_isi, x_ix, x_ixO, x_ofO_some, x_anil, x_acons, x_tup, x_lst, x_eL, x_tb, x_nt, x_an, x_or, x_ent, x_ean, x_eor, x_eif, x_tT, x_tV, x_tY, x_call, x_callD, x_callK, x_cd1, x_cd2, x_cd3, x_cd4, x_st0, x_stS, x_stN, x_wh, x_for, x_iseq, x_ir1, x_ir2, x_add, x_sub, x_neg, x_dcmp, x_eqI, x_neI, x_absI, x_intI, x_gcdI, x_maxI, x_minI, x_lenL, x_lenT, x_ixL, x_ixT, x_at0, x_at1, x_sz0, x_sz1, x_sz2, x_sz3, x_gN, x_forN, x_for0, x_fB_nx, x_fB_ct, x_fB_bk, x_fB_rt, x_fB_er, x_iTT, x_iTL, x_iTI, x_iLT, x_iLL, x_iII, x_iBI, x_iSS, x_iBB, x_truB, x_itT, x_itL, x_try, RO.bind_ok, RO.bind_er, RO.pure_ok, List.set_cons_zero, List.set_cons_succ, List.cons_append, List.nil_append, if_true, if_false, ite_true, ite_false, reduceIte, Bool.false_eq_true, Bool.true_eq_false, Bool.not_true, Bool.not_false, x_len1, and_self, decide_eq_true_eq, decide_true, decide_false, eq_self, Bool.not_eq_true', decide_eq_false_iff_not, not_true_eq_false, not_false_eq_true, ne_eq, x_eqB, x_neB, x_intB, x_iIB, x_gT2, x_lLi, x_eTu, x_eTuO, x_eLeO, x_dSeqL, x_dSeqT, x_oN, x_oS, x_tI, x_sl, x_cutL, x_cutT, x_comp, x_app, x_asg, x_aug, wipeE, List.length_map, (eq_false (by decide) : ((7 : Int) = 0) = False), (eq_false (by decide) : ((7 : Int) = 1) = False), (eq_false (by decide) : ((7 : Int) = 2) = False), (eq_false (by decide) : ((7 : Int) = 3) = False), (eq_false (by decide) : ((7 : Int) = 4) = False), (eq_false (by decide) : ((7 : Int) = 5) = False), (eq_false (by decide) : ((7 : Int) = 6) = False), x_mod (show (0 : Int) < 8 by decide), z, hL, hi]
    · refine ⟨.tuple [.int a, .int 1, .int 1], ?_, ft3 (fi ha) f1 f1⟩
      unfold F__law_value B__law_value
      have hL : (([.tuple [], .tuple [.int a], .tuple [.int a, .int 1, .int 1], .tuple [.int a, .none], .tuple [.str "1", .str "1"], .tuple [.str "1", .int 1], .tuple [.int 1, .str "1"], .tuple [.tuple [.int 1, .int 1], .int 1]] : List PyData).length ≤ sizeLine) = True := eq_true (by rw [sizeLine_eq]; simp)
      have hi : atI ([.tuple [], .tuple [.int a], .tuple [.int a, .int 1, .int 1], .tuple [.int a, .none], .tuple [.str "1", .str "1"], .tuple [.str "1", .int 1], .tuple [.int 1, .str "1"], .tuple [.tuple [.int 1, .int 1], .int 1]] : List PyData) (2 : Int) = some (.tuple [.int a, .int 1, .int 1]) := rfl
      simp (implicitDefEqProofs := false) only [x_run, x_out_nx, x_out_rt, x_out_er, x_seq, x_seq_nx, x_seq_rt, x_seq_er, x_seq_ct, x_seq_bk, x_ofR_ok, x_ofR_er, x_nx, x_bk, x_ct, x_set, x_setL, x_ret, x_drop, x_retN, x_if, x_raise, x_var, x_gv0, x_gvS, x_gvo0, x_gvoS, x_gb, x_gb0, x_gbO, x_gbS, x_c, x_op, x_cm, x_un, x_bf, x_isi, x_ix, x_ixO, x_ofO_some, x_anil, x_acons, x_tup, x_lst, x_eL, x_tb, x_nt, x_an, x_or, x_ent, x_ean, x_eor, x_eif, x_tT, x_tV, x_tY, x_call, x_callD, x_callK, x_cd1, x_cd2, x_cd3, x_cd4, x_st0, x_stS, x_stN, x_wh, x_for, x_iseq, x_ir1, x_ir2, x_add, x_sub, x_neg, x_dcmp, x_eqI, x_neI, x_absI, x_intI, x_gcdI, x_maxI, x_minI, x_lenL, x_lenT, x_ixL, x_ixT, x_at0, x_at1, x_sz0, x_sz1, x_sz2, x_sz3, x_gN, x_forN, x_for0, x_fB_nx, x_fB_ct, x_fB_bk, x_fB_rt, x_fB_er, x_iTT, x_iTL, x_iTI, x_iLT, x_iLL, x_iII, x_iBI, x_iSS, x_iBB, x_truB, x_itT, x_itL, x_try, RO.bind_ok, RO.bind_er, RO.pure_ok, List.set_cons_zero, List.set_cons_succ, List.cons_append, List.nil_append, if_true, if_false, ite_true, ite_false, reduceIte, Bool.false_eq_true, Bool.true_eq_false, Bool.not_true, Bool.not_false, x_len1, and_self, decide_eq_true_eq, decide_true, decide_false, eq_self, Bool.not_eq_true', decide_eq_false_iff_not, not_true_eq_false, not_false_eq_true, ne_eq, x_eqB, x_neB, x_intB, x_iIB, x_gT2, x_lLi, x_eTu, x_eTuO, x_eLeO, x_dSeqL, x_dSeqT, x_oN, x_oS, x_tI, x_sl, x_cutL, x_cutT, x_comp, x_app, x_asg, x_aug, wipeE, List.length_map, (eq_false (by decide) : ((7 : Int) = 0) = False), (eq_false (by decide) : ((7 : Int) = 1) = False), (eq_false (by decide) : ((7 : Int) = 2) = False), (eq_false (by decide) : ((7 : Int) = 3) = False), (eq_false (by decide) : ((7 : Int) = 4) = False), (eq_false (by decide) : ((7 : Int) = 5) = False), (eq_false (by decide) : ((7 : Int) = 6) = False), x_mod (show (0 : Int) < 8 by decide), z, hL, hi]
    · refine ⟨.tuple [.int a, .none], ?_, ft2 (fi ha) .non⟩
      unfold F__law_value B__law_value
      have hL : (([.tuple [], .tuple [.int a], .tuple [.int a, .int 1, .int 1], .tuple [.int a, .none], .tuple [.str "1", .str "1"], .tuple [.str "1", .int 1], .tuple [.int 1, .str "1"], .tuple [.tuple [.int 1, .int 1], .int 1]] : List PyData).length ≤ sizeLine) = True := eq_true (by rw [sizeLine_eq]; simp)
      have hi : atI ([.tuple [], .tuple [.int a], .tuple [.int a, .int 1, .int 1], .tuple [.int a, .none], .tuple [.str "1", .str "1"], .tuple [.str "1", .int 1], .tuple [.int 1, .str "1"], .tuple [.tuple [.int 1, .int 1], .int 1]] : List PyData) (3 : Int) = some (.tuple [.int a, .none]) := rfl
      simp (implicitDefEqProofs := false) only [x_run, x_out_nx, x_out_rt, x_out_er, x_seq, x_seq_nx, x_seq_rt, x_seq_er, x_seq_ct, x_seq_bk, x_ofR_ok, x_ofR_er, x_nx, x_bk, x_ct, x_set, x_setL, x_ret, x_drop, x_retN, x_if, x_raise, x_var, x_gv0, x_gvS, x_gvo0, x_gvoS, x_gb, x_gb0, x_gbO, x_gbS, x_c, x_op, x_cm, x_un, x_bf, x_isi, x_ix, x_ixO, x_ofO_some, x_anil, x_acons, x_tup, x_lst, x_eL, x_tb, x_nt, x_an, x_or, x_ent, x_ean, x_eor, x_eif, x_tT, x_tV, x_tY, x_call, x_callD, x_callK, x_cd1, x_cd2, x_cd3, x_cd4, x_st0, x_stS, x_stN, x_wh, x_for, x_iseq, x_ir1, x_ir2, x_add, x_sub, x_neg, x_dcmp, x_eqI, x_neI, x_absI, x_intI, x_gcdI, x_maxI, x_minI, x_lenL, x_lenT, x_ixL, x_ixT, x_at0, x_at1, x_sz0, x_sz1, x_sz2, x_sz3, x_gN, x_forN, x_for0, x_fB_nx, x_fB_ct, x_fB_bk, x_fB_rt, x_fB_er, x_iTT, x_iTL, x_iTI, x_iLT, x_iLL, x_iII, x_iBI, x_iSS, x_iBB, x_truB, x_itT, x_itL, x_try, RO.bind_ok, RO.bind_er, RO.pure_ok, List.set_cons_zero, List.set_cons_succ, List.cons_append, List.nil_append, if_true, if_false, ite_true, ite_false, reduceIte, Bool.false_eq_true, Bool.true_eq_false, Bool.not_true, Bool.not_false, x_len1, and_self, decide_eq_true_eq, decide_true, decide_false, eq_self, Bool.not_eq_true', decide_eq_false_iff_not, not_true_eq_false, not_false_eq_true, ne_eq, x_eqB, x_neB, x_intB, x_iIB, x_gT2, x_lLi, x_eTu, x_eTuO, x_eLeO, x_dSeqL, x_dSeqT, x_oN, x_oS, x_tI, x_sl, x_cutL, x_cutT, x_comp, x_app, x_asg, x_aug, wipeE, List.length_map, (eq_false (by decide) : ((7 : Int) = 0) = False), (eq_false (by decide) : ((7 : Int) = 1) = False), (eq_false (by decide) : ((7 : Int) = 2) = False), (eq_false (by decide) : ((7 : Int) = 3) = False), (eq_false (by decide) : ((7 : Int) = 4) = False), (eq_false (by decide) : ((7 : Int) = 5) = False), (eq_false (by decide) : ((7 : Int) = 6) = False), x_mod (show (0 : Int) < 8 by decide), z, hL, hi]
    · refine ⟨.tuple [.str "1", .str "1"], ?_, ft2 (fs (by decide +kernel)) (fs (by decide +kernel))⟩
      unfold F__law_value B__law_value
      have hL : (([.tuple [], .tuple [.int a], .tuple [.int a, .int 1, .int 1], .tuple [.int a, .none], .tuple [.str "1", .str "1"], .tuple [.str "1", .int 1], .tuple [.int 1, .str "1"], .tuple [.tuple [.int 1, .int 1], .int 1]] : List PyData).length ≤ sizeLine) = True := eq_true (by rw [sizeLine_eq]; simp)
      have hi : atI ([.tuple [], .tuple [.int a], .tuple [.int a, .int 1, .int 1], .tuple [.int a, .none], .tuple [.str "1", .str "1"], .tuple [.str "1", .int 1], .tuple [.int 1, .str "1"], .tuple [.tuple [.int 1, .int 1], .int 1]] : List PyData) (4 : Int) = some (.tuple [.str "1", .str "1"]) := rfl
      simp (implicitDefEqProofs := false) only [x_run, x_out_nx, x_out_rt, x_out_er, x_seq, x_seq_nx, x_seq_rt, x_seq_er, x_seq_ct, x_seq_bk, x_ofR_ok, x_ofR_er, x_nx, x_bk, x_ct, x_set, x_setL, x_ret, x_drop, x_retN, x_if, x_raise, x_var, x_gv0, x_gvS, x_gvo0, x_gvoS, x_gb, x_gb0, x_gbO, x_gbS, x_c, x_op, x_cm, x_un, x_bf, x_isi, x_ix, x_ixO, x_ofO_some, x_anil, x_acons, x_tup, x_lst, x_eL, x_tb, x_nt, x_an, x_or, x_ent, x_ean, x_eor, x_eif, x_tT, x_tV, x_tY, x_call, x_callD, x_callK, x_cd1, x_cd2, x_cd3, x_cd4, x_st0, x_stS, x_stN, x_wh, x_for, x_iseq, x_ir1, x_ir2, x_add, x_sub, x_neg, x_dcmp, x_eqI, x_neI, x_absI, x_intI, x_gcdI, x_maxI, x_minI, x_lenL, x_lenT, x_ixL, x_ixT, x_at0, x_at1, x_sz0, x_sz1, x_sz2, x_sz3, x_gN, x_forN, x_for0, x_fB_nx, x_fB_ct, x_fB_bk, x_fB_rt, x_fB_er, x_iTT, x_iTL, x_iTI, x_iLT, x_iLL, x_iII, x_iBI, x_iSS, x_iBB, x_truB, x_itT, x_itL, x_try, RO.bind_ok, RO.bind_er, RO.pure_ok, List.set_cons_zero, List.set_cons_succ, List.cons_append, List.nil_append, if_true, if_false, ite_true, ite_false, reduceIte, Bool.false_eq_true, Bool.true_eq_false, Bool.not_true, Bool.not_false, x_len1, and_self, decide_eq_true_eq, decide_true, decide_false, eq_self, Bool.not_eq_true', decide_eq_false_iff_not, not_true_eq_false, not_false_eq_true, ne_eq, x_eqB, x_neB, x_intB, x_iIB, x_gT2, x_lLi, x_eTu, x_eTuO, x_eLeO, x_dSeqL, x_dSeqT, x_oN, x_oS, x_tI, x_sl, x_cutL, x_cutT, x_comp, x_app, x_asg, x_aug, wipeE, List.length_map, (eq_false (by decide) : ((7 : Int) = 0) = False), (eq_false (by decide) : ((7 : Int) = 1) = False), (eq_false (by decide) : ((7 : Int) = 2) = False), (eq_false (by decide) : ((7 : Int) = 3) = False), (eq_false (by decide) : ((7 : Int) = 4) = False), (eq_false (by decide) : ((7 : Int) = 5) = False), (eq_false (by decide) : ((7 : Int) = 6) = False), x_mod (show (0 : Int) < 8 by decide), z, hL, hi]
    · refine ⟨.tuple [.str "1", .int 1], ?_, ft2 (fs (by decide +kernel)) f1⟩
      unfold F__law_value B__law_value
      have hL : (([.tuple [], .tuple [.int a], .tuple [.int a, .int 1, .int 1], .tuple [.int a, .none], .tuple [.str "1", .str "1"], .tuple [.str "1", .int 1], .tuple [.int 1, .str "1"], .tuple [.tuple [.int 1, .int 1], .int 1]] : List PyData).length ≤ sizeLine) = True := eq_true (by rw [sizeLine_eq]; simp)
      have hi : atI ([.tuple [], .tuple [.int a], .tuple [.int a, .int 1, .int 1], .tuple [.int a, .none], .tuple [.str "1", .str "1"], .tuple [.str "1", .int 1], .tuple [.int 1, .str "1"], .tuple [.tuple [.int 1, .int 1], .int 1]] : List PyData) (5 : Int) = some (.tuple [.str "1", .int 1]) := rfl
      simp (implicitDefEqProofs := false) only [x_run, x_out_nx, x_out_rt, x_out_er, x_seq, x_seq_nx, x_seq_rt, x_seq_er, x_seq_ct, x_seq_bk, x_ofR_ok, x_ofR_er, x_nx, x_bk, x_ct, x_set, x_setL, x_ret, x_drop, x_retN, x_if, x_raise, x_var, x_gv0, x_gvS, x_gvo0, x_gvoS, x_gb, x_gb0, x_gbO, x_gbS, x_c, x_op, x_cm, x_un, x_bf, x_isi, x_ix, x_ixO, x_ofO_some, x_anil, x_acons, x_tup, x_lst, x_eL, x_tb, x_nt, x_an, x_or, x_ent, x_ean, x_eor, x_eif, x_tT, x_tV, x_tY, x_call, x_callD, x_callK, x_cd1, x_cd2, x_cd3, x_cd4, x_st0, x_stS, x_stN, x_wh, x_for, x_iseq, x_ir1, x_ir2, x_add, x_sub, x_neg, x_dcmp, x_eqI, x_neI, x_absI, x_intI, x_gcdI, x_maxI, x_minI, x_lenL, x_lenT, x_ixL, x_ixT, x_at0, x_at1, x_sz0, x_sz1, x_sz2, x_sz3, x_gN, x_forN, x_for0, x_fB_nx, x_fB_ct, x_fB_bk, x_fB_rt, x_fB_er, x_iTT, x_iTL, x_iTI, x_iLT, x_iLL, x_iII, x_iBI, x_iSS, x_iBB, x_truB, x_itT, x_itL, x_try, RO.bind_ok, RO.bind_er, RO.pure_ok, List.set_cons_zero, List.set_cons_succ, List.cons_append, List.nil_append, if_true, if_false, ite_true, ite_false, reduceIte, Bool.false_eq_true, Bool.true_eq_false, Bool.not_true, Bool.not_false, x_len1, and_self, decide_eq_true_eq, decide_true, decide_false, eq_self, Bool.not_eq_true', decide_eq_false_iff_not, not_true_eq_false, not_false_eq_true, ne_eq, x_eqB, x_neB, x_intB, x_iIB, x_gT2, x_lLi, x_eTu, x_eTuO, x_eLeO, x_dSeqL, x_dSeqT, x_oN, x_oS, x_tI, x_sl, x_cutL, x_cutT, x_comp, x_app, x_asg, x_aug, wipeE, List.length_map, (eq_false (by decide) : ((7 : Int) = 0) = False), (eq_false (by decide) : ((7 : Int) = 1) = False), (eq_false (by decide) : ((7 : Int) = 2) = False), (eq_false (by decide) : ((7 : Int) = 3) = False), (eq_false (by decide) : ((7 : Int) = 4) = False), (eq_false (by decide) : ((7 : Int) = 5) = False), (eq_false (by decide) : ((7 : Int) = 6) = False), x_mod (show (0 : Int) < 8 by decide), z, hL, hi]
    · refine ⟨.tuple [.int 1, .str "1"], ?_, ft2 f1 (fs (by decide +kernel))⟩
      unfold F__law_value B__law_value
      have hL : (([.tuple [], .tuple [.int a], .tuple [.int a, .int 1, .int 1], .tuple [.int a, .none], .tuple [.str "1", .str "1"], .tuple [.str "1", .int 1], .tuple [.int 1, .str "1"], .tuple [.tuple [.int 1, .int 1], .int 1]] : List PyData).length ≤ sizeLine) = True := eq_true (by rw [sizeLine_eq]; simp)
      have hi : atI ([.tuple [], .tuple [.int a], .tuple [.int a, .int 1, .int 1], .tuple [.int a, .none], .tuple [.str "1", .str "1"], .tuple [.str "1", .int 1], .tuple [.int 1, .str "1"], .tuple [.tuple [.int 1, .int 1], .int 1]] : List PyData) (6 : Int) = some (.tuple [.int 1, .str "1"]) := rfl
      simp (implicitDefEqProofs := false) only [x_run, x_out_nx, x_out_rt, x_out_er, x_seq, x_seq_nx, x_seq_rt, x_seq_er, x_seq_ct, x_seq_bk, x_ofR_ok, x_ofR_er, x_nx, x_bk, x_ct, x_set, x_setL, x_ret, x_drop, x_retN, x_if, x_raise, x_var, x_gv0, x_gvS, x_gvo0, x_gvoS, x_gb, x_gb0, x_gbO, x_gbS, x_c, x_op, x_cm, x_un, x_bf, x_isi, x_ix, x_ixO, x_ofO_some, x_anil, x_acons, x_tup, x_lst, x_eL, x_tb, x_nt, x_an, x_or, x_ent, x_ean, x_eor, x_eif, x_tT, x_tV, x_tY, x_call, x_callD, x_callK, x_cd1, x_cd2, x_cd3, x_cd4, x_st0, x_stS, x_stN, x_wh, x_for, x_iseq, x_ir1, x_ir2, x_add, x_sub, x_neg, x_dcmp, x_eqI, x_neI, x_absI, x_intI, x_gcdI, x_maxI, x_minI, x_lenL, x_lenT, x_ixL, x_ixT, x_at0, x_at1, x_sz0, x_sz1, x_sz2, x_sz3, x_gN, x_forN, x_for0, x_fB_nx, x_fB_ct, x_fB_bk, x_fB_rt, x_fB_er, x_iTT, x_iTL, x_iTI, x_iLT, x_iLL, x_iII, x_iBI, x_iSS, x_iBB, x_truB, x_itT, x_itL, x_try, RO.bind_ok, RO.bind_er, RO.pure_ok, List.set_cons_zero, List.set_cons_succ, List.cons_append, List.nil_append, if_true, if_false, ite_true, ite_false, reduceIte, Bool.false_eq_true, Bool.true_eq_false, Bool.not_true, Bool.not_false, x_len1, and_self, decide_eq_true_eq, decide_true, decide_false, eq_self, Bool.not_eq_true', decide_eq_false_iff_not, not_true_eq_false, not_false_eq_true, ne_eq, x_eqB, x_neB, x_intB, x_iIB, x_gT2, x_lLi, x_eTu, x_eTuO, x_eLeO, x_dSeqL, x_dSeqT, x_oN, x_oS, x_tI, x_sl, x_cutL, x_cutT, x_comp, x_app, x_asg, x_aug, wipeE, List.length_map, (eq_false (by decide) : ((7 : Int) = 0) = False), (eq_false (by decide) : ((7 : Int) = 1) = False), (eq_false (by decide) : ((7 : Int) = 2) = False), (eq_false (by decide) : ((7 : Int) = 3) = False), (eq_false (by decide) : ((7 : Int) = 4) = False), (eq_false (by decide) : ((7 : Int) = 5) = False), (eq_false (by decide) : ((7 : Int) = 6) = False), x_mod (show (0 : Int) < 8 by decide), z, hL, hi]
    · refine ⟨.tuple [.tuple [.int 1, .int 1], .int 1], ?_, ft2 (ft2 f1 f1) f1⟩
      unfold F__law_value B__law_value
      have hL : (([.tuple [], .tuple [.int a], .tuple [.int a, .int 1, .int 1], .tuple [.int a, .none], .tuple [.str "1", .str "1"], .tuple [.str "1", .int 1], .tuple [.int 1, .str "1"], .tuple [.tuple [.int 1, .int 1], .int 1]] : List PyData).length ≤ sizeLine) = True := eq_true (by rw [sizeLine_eq]; simp)
      have hi : atI ([.tuple [], .tuple [.int a], .tuple [.int a, .int 1, .int 1], .tuple [.int a, .none], .tuple [.str "1", .str "1"], .tuple [.str "1", .int 1], .tuple [.int 1, .str "1"], .tuple [.tuple [.int 1, .int 1], .int 1]] : List PyData) (7 : Int) = some (.tuple [.tuple [.int 1, .int 1], .int 1]) := rfl
      simp (implicitDefEqProofs := false) only [x_run, x_out_nx, x_out_rt, x_out_er, x_seq, x_seq_nx, x_seq_rt, x_seq_er, x_seq_ct, x_seq_bk, x_ofR_ok, x_ofR_er, x_nx, x_bk, x_ct, x_set, x_setL, x_ret, x_drop, x_retN, x_if, x_raise, x_var, x_gv0, x_gvS, x_gvo0, x_gvoS, x_gb, x_gb0, x_gbO, x_gbS, x_c, x_op, x_cm, x_un, x_bf, x_isi, x_ix, x_ixO, x_ofO_some, x_anil, x_acons, x_tup, x_lst, x_eL, x_tb, x_nt, x_an, x_or, x_ent, x_ean, x_eor, x_eif, x_tT, x_tV, x_tY, x_call, x_callD, x_callK, x_cd1, x_cd2, x_cd3, x_cd4, x_st0, x_stS, x_stN, x_wh, x_for, x_iseq, x_ir1, x_ir2, x_add, x_sub, x_neg, x_dcmp, x_eqI, x_neI, x_absI, x_intI, x_gcdI, x_maxI, x_minI, x_lenL, x_lenT, x_ixL, x_ixT, x_at0, x_at1, x_sz0, x_sz1, x_sz2, x_sz3, x_gN, x_forN, x_for0, x_fB_nx, x_fB_ct, x_fB_bk, x_fB_rt, x_fB_er, x_iTT, x_iTL, x_iTI, x_iLT, x_iLL, x_iII, x_iBI, x_iSS, x_iBB, x_truB, x_itT, x_itL, x_try, RO.bind_ok, RO.bind_er, RO.pure_ok, List.set_cons_zero, List.set_cons_succ, List.cons_append, List.nil_append, if_true, if_false, ite_true, ite_false, reduceIte, Bool.false_eq_true, Bool.true_eq_false, Bool.not_true, Bool.not_false, x_len1, and_self, decide_eq_true_eq, decide_true, decide_false, eq_self, Bool.not_eq_true', decide_eq_false_iff_not, not_true_eq_false, not_false_eq_true, ne_eq, x_eqB, x_neB, x_intB, x_iIB, x_gT2, x_lLi, x_eTu, x_eTuO, x_eLeO, x_dSeqL, x_dSeqT, x_oN, x_oS, x_tI, x_sl, x_cutL, x_cutT, x_comp, x_app, x_asg, x_aug, wipeE, List.length_map, (eq_false (by decide) : ((7 : Int) = 0) = False), (eq_false (by decide) : ((7 : Int) = 1) = False), (eq_false (by decide) : ((7 : Int) = 2) = False), (eq_false (by decide) : ((7 : Int) = 3) = False), (eq_false (by decide) : ((7 : Int) = 4) = False), (eq_false (by decide) : ((7 : Int) = 5) = False), (eq_false (by decide) : ((7 : Int) = 6) = False), x_mod (show (0 : Int) < 8 by decide), z, hL, hi]
  · have hz := Int.emod_nonneg b (show (5 : Int) ≠ 0 by decide)
    have hk := Int.emod_lt_of_pos b (show (0 : Int) < 5 by decide)
    have z : b % 5 = 0 ∨ b % 5 = 1 ∨ b % 5 = 2 ∨ b % 5 = 3 ∨ b % 5 = 4 := by omega
    rcases z with z | z | z | z | z
    · refine ⟨.none, ?_, .non⟩
      unfold F__law_value B__law_value
      have hL : (([.none, .str "1/2", .int a, .bool true, .tuple [.int 1, .tuple [.int 1, .int 1]]] : List PyData).length ≤ sizeLine) = True := eq_true (by rw [sizeLine_eq]; simp)
      have hi : atI ([.none, .str "1/2", .int a, .bool true, .tuple [.int 1, .tuple [.int 1, .int 1]]] : List PyData) (0 : Int) = some (.none) := rfl
      simp (implicitDefEqProofs := false) only [x_run, x_out_nx, x_out_rt, x_out_er, x_seq, x_seq_nx, x_seq_rt, x_seq_er, x_seq_ct, x_seq_bk, x_ofR_ok, x_ofR_er, x_nx, x_bk, x_ct, x_set, x_setL, x_ret, x_drop, x_retN, x_if, x_raise, x_var, x_gv0, x_gvS, x_gvo0, x_gvoS, x_gb, x_gb0, x_gbO, x_gbS, x_c, x_op, x_cm, x_un, x_bf, x_isi, x_ix, x_ixO, x_ofO_some, x_anil, x_acons, x_tup, x_lst, x_eL, x_tb, x_nt, x_an, x_or, x_ent, x_ean, x_eor, x_eif, x_tT, x_tV, x_tY, x_call, x_callD, x_callK, x_cd1, x_cd2, x_cd3, x_cd4, x_st0, x_stS, x_stN, x_wh, x_for, x_iseq, x_ir1, x_ir2, x_add, x_sub, x_neg, x_dcmp, x_eqI, x_neI, x_absI, x_intI, x_gcdI, x_maxI, x_minI, x_lenL, x_lenT, x_ixL, x_ixT, x_at0, x_at1, x_sz0, x_sz1, x_sz2, x_sz3, x_gN, x_forN, x_for0, x_fB_nx, x_fB_ct, x_fB_bk, x_fB_rt, x_fB_er, x_iTT, x_iTL, x_iTI, x_iLT, x_iLL, x_iII, x_iBI, x_iSS, x_iBB, x_truB, x_itT, x_itL, x_try, RO.bind_ok, RO.bind_er, RO.pure_ok, List.set_cons_zero, List.set_cons_succ, List.cons_append, List.nil_append, if_true, if_false, ite_true, ite_false, reduceIte, Bool.false_eq_true, Bool.true_eq_false, Bool.not_true, Bool.not_false, x_len1, and_self, decide_eq_true_eq, decide_true, decide_false, eq_self, Bool.not_eq_true', decide_eq_false_iff_not, not_true_eq_false, not_false_eq_true, ne_eq, x_eqB, x_neB, x_intB, x_iIB, x_gT2, x_lLi, x_eTu, x_eTuO, x_eLeO, x_dSeqL, x_dSeqT, x_oN, x_oS, x_tI, x_sl, x_cutL, x_cutT, x_comp, x_app, x_asg, x_aug, wipeE, List.length_map, (eq_false (by decide) : ((8 : Int) = 0) = False), (eq_false (by decide) : ((8 : Int) = 1) = False), (eq_false (by decide) : ((8 : Int) = 2) = False), (eq_false (by decide) : ((8 : Int) = 3) = False), (eq_false (by decide) : ((8 : Int) = 4) = False), (eq_false (by decide) : ((8 : Int) = 5) = False), (eq_false (by decide) : ((8 : Int) = 6) = False), (eq_false (by decide) : ((8 : Int) = 7) = False), x_mod (show (0 : Int) < 5 by decide), z, hL, hi]
    · refine ⟨.str "1/2", ?_, (fs (by decide +kernel))⟩
      unfold F__law_value B__law_value
      have hL : (([.none, .str "1/2", .int a, .bool true, .tuple [.int 1, .tuple [.int 1, .int 1]]] : List PyData).length ≤ sizeLine) = True := eq_true (by rw [sizeLine_eq]; simp)
      have hi : atI ([.none, .str "1/2", .int a, .bool true, .tuple [.int 1, .tuple [.int 1, .int 1]]] : List PyData) (1 : Int) = some (.str "1/2") := rfl
      simp (implicitDefEqProofs := false) only [x_run, x_out_nx, x_out_rt, x_out_er, x_seq, x_seq_nx, x_seq_rt, x_seq_er, x_seq_ct, x_seq_bk, x_ofR_ok, x_ofR_er, x_nx, x_bk, x_ct, x_set, x_setL, x_ret, x_drop, x_retN, x_if, x_raise, x_var, x_gv0, x_gvS, x_gvo0, x_gvoS, x_gb, x_gb0, x_gbO, x_gbS, x_c, x_op, x_cm, x_un, x_bf, x_isi, x_ix, x_ixO, x_ofO_some, x_anil, x_acons, x_tup, x_lst, x_eL, x_tb, x_nt, x_an, x_or, x_ent, x_ean, x_eor, x_eif, x_tT, x_tV, x_tY, x_call, x_callD, x_callK, x_cd1, x_cd2, x_cd3, x_cd4, x_st0, x_stS, x_stN, x_wh, x_for, x_iseq, x_ir1, x_ir2, x_add, x_sub, x_neg, x_dcmp, x_eqI, x_neI, x_absI, x_intI, x_gcdI, x_maxI, x_minI, x_lenL, x_lenT, x_ixL, x_ixT, x_at0, x_at1, x_sz0, x_sz1, x_sz2, x_sz3, x_gN, x_forN, x_for0, x_fB_nx, x_fB_ct, x_fB_bk, x_fB_rt, x_fB_er, x_iTT, x_iTL, x_iTI, x_iLT, x_iLL, x_iII, x_iBI, x_iSS, x_iBB, x_truB, x_itT, x_itL, x_try, RO.bind_ok, RO.bind_er, RO.pure_ok, List.set_cons_zero, List.set_cons_succ, List.cons_append, List.nil_append, if_true, if_false, ite_true, ite_false, reduceIte, Bool.false_eq_true, Bool.true_eq_false, Bool.not_true, Bool.not_false, x_len1, and_self, decide_eq_true_eq, decide_true, decide_false, eq_self, Bool.not_eq_true', decide_eq_false_iff_not, not_true_eq_false, not_false_eq_true, ne_eq, x_eqB, x_neB, x_intB, x_iIB, x_gT2, x_lLi, x_eTu, x_eTuO, x_eLeO, x_dSeqL, x_dSeqT, x_oN, x_oS, x_tI, x_sl, x_cutL, x_cutT, x_comp, x_app, x_asg, x_aug, wipeE, List.length_map, (eq_false (by decide) : ((8 : Int) = 0) = False), (eq_false (by decide) : ((8 : Int) = 1) = False), (eq_false (by decide) : ((8 : Int) = 2) = False), (eq_false (by decide) : ((8 : Int) = 3) = False), (eq_false (by decide) : ((8 : Int) = 4) = False), (eq_false (by decide) : ((8 : Int) = 5) = False), (eq_false (by decide) : ((8 : Int) = 6) = False), (eq_false (by decide) : ((8 : Int) = 7) = False), x_mod (show (0 : Int) < 5 by decide), z, hL, hi]
    · refine ⟨.int a, ?_, fi ha⟩
      unfold F__law_value B__law_value
      have hL : (([.none, .str "1/2", .int a, .bool true, .tuple [.int 1, .tuple [.int 1, .int 1]]] : List PyData).length ≤ sizeLine) = True := eq_true (by rw [sizeLine_eq]; simp)
      have hi : atI ([.none, .str "1/2", .int a, .bool true, .tuple [.int 1, .tuple [.int 1, .int 1]]] : List PyData) (2 : Int) = some (.int a) := rfl
      simp (implicitDefEqProofs := false) only [x_run, x_out_nx, x_out_rt, x_out_er, x_seq, x_seq_nx, x_seq_rt, x_seq_er, x_seq_ct, x_seq_bk, x_ofR_ok, x_ofR_er, x_nx, x_bk, x_ct, x_set, x_setL, x_ret, x_drop, x_retN, x_if, x_raise, x_var, x_gv0, x_gvS, x_gvo0, x_gvoS, x_gb, x_gb0, x_gbO, x_gbS, x_c, x_op, x_cm, x_un, x_bf, x_isi, x_ix, x_ixO, x_ofO_some, x_anil, x_acons, x_tup, x_lst, x_eL, x_tb, x_nt, x_an, x_or, x_ent, x_ean, x_eor, x_eif, x_tT, x_tV, x_tY, x_call, x_callD, x_callK, x_cd1, x_cd2, x_cd3, x_cd4, x_st0, x_stS, x_stN, x_wh, x_for, x_iseq, x_ir1, x_ir2, x_add, x_sub, x_neg, x_dcmp, x_eqI, x_neI, x_absI, x_intI, x_gcdI, x_maxI, x_minI, x_lenL, x_lenT, x_ixL, x_ixT, x_at0, x_at1, x_sz0, x_sz1, x_sz2, x_sz3, x_gN, x_forN, x_for0, x_fB_nx, x_fB_ct, x_fB_bk, x_fB_rt, x_fB_er, x_iTT, x_iTL, x_iTI, x_iLT, x_iLL, x_iII, x_iBI, x_iSS, x_iBB, x_truB, x_itT, x_itL, x_try, RO.bind_ok, RO.bind_er, RO.pure_ok, List.set_cons_zero, List.set_cons_succ, List.cons_append, List.nil_append, if_true, if_false, ite_true, ite_false, reduceIte, Bool.false_eq_true, Bool.true_eq_false, Bool.not_true, Bool.not_false, x_len1, and_self, decide_eq_true_eq, decide_true, decide_false, eq_self, Bool.not_eq_true', decide_eq_false_iff_not, not_true_eq_false, not_false_eq_true, ne_eq, x_eqB, x_neB, x_intB, x_iIB, x_gT2, x_lLi, x_eTu, x_eTuO, x_eLeO, x_dSeqL, x_dSeqT, x_oN, x_oS, x_tI, x_sl, x_cutL, x_cutT, x_comp, x_app, x_asg, x_aug, wipeE, List.length_map, (eq_false (by decide) : ((8 : Int) = 0) = False), (eq_false (by decide) : ((8 : Int) = 1) = False), (eq_false (by decide) : ((8 : Int) = 2) = False), (eq_false (by decide) : ((8 : Int) = 3) = False), (eq_false (by decide) : ((8 : Int) = 4) = False), (eq_false (by decide) : ((8 : Int) = 5) = False), (eq_false (by decide) : ((8 : Int) = 6) = False), (eq_false (by decide) : ((8 : Int) = 7) = False), x_mod (show (0 : Int) < 5 by decide), z, hL, hi]
    · refine ⟨.bool true, ?_, fb⟩
      unfold F__law_value B__law_value
      have hL : (([.none, .str "1/2", .int a, .bool true, .tuple [.int 1, .tuple [.int 1, .int 1]]] : List PyData).length ≤ sizeLine) = True := eq_true (by rw [sizeLine_eq]; simp)
      have hi : atI ([.none, .str "1/2", .int a, .bool true, .tuple [.int 1, .tuple [.int 1, .int 1]]] : List PyData) (3 : Int) = some (.bool true) := rfl
      simp (implicitDefEqProofs := false) only [x_run, x_out_nx, x_out_rt, x_out_er, x_seq, x_seq_nx, x_seq_rt, x_seq_er, x_seq_ct, x_seq_bk, x_ofR_ok, x_ofR_er, x_nx, x_bk, x_ct, x_set, x_setL, x_ret, x_drop, x_retN, x_if, x_raise, x_var, x_gv0, x_gvS, x_gvo0, x_gvoS, x_gb, x_gb0, x_gbO, x_gbS, x_c, x_op, x_cm, x_un, x_bf, x_isi, x_ix, x_ixO, x_ofO_some, x_anil, x_acons, x_tup, x_lst, x_eL, x_tb, x_nt, x_an, x_or, x_ent, x_ean, x_eor, x_eif, x_tT, x_tV, x_tY, x_call, x_callD, x_callK, x_cd1, x_cd2, x_cd3, x_cd4, x_st0, x_stS, x_stN, x_wh, x_for, x_iseq, x_ir1, x_ir2, x_add, x_sub, x_neg, x_dcmp, x_eqI, x_neI, x_absI, x_intI, x_gcdI, x_maxI, x_minI, x_lenL, x_lenT, x_ixL, x_ixT, x_at0, x_at1, x_sz0, x_sz1, x_sz2, x_sz3, x_gN, x_forN, x_for0, x_fB_nx, x_fB_ct, x_fB_bk, x_fB_rt, x_fB_er, x_iTT, x_iTL, x_iTI, x_iLT, x_iLL, x_iII, x_iBI, x_iSS, x_iBB, x_truB, x_itT, x_itL, x_try, RO.bind_ok, RO.bind_er, RO.pure_ok, List.set_cons_zero, List.set_cons_succ, List.cons_append, List.nil_append, if_true, if_false, ite_true, ite_false, reduceIte, Bool.false_eq_true, Bool.true_eq_false, Bool.not_true, Bool.not_false, x_len1, and_self, decide_eq_true_eq, decide_true, decide_false, eq_self, Bool.not_eq_true', decide_eq_false_iff_not, not_true_eq_false, not_false_eq_true, ne_eq, x_eqB, x_neB, x_intB, x_iIB, x_gT2, x_lLi, x_eTu, x_eTuO, x_eLeO, x_dSeqL, x_dSeqT, x_oN, x_oS, x_tI, x_sl, x_cutL, x_cutT, x_comp, x_app, x_asg, x_aug, wipeE, List.length_map, (eq_false (by decide) : ((8 : Int) = 0) = False), (eq_false (by decide) : ((8 : Int) = 1) = False), (eq_false (by decide) : ((8 : Int) = 2) = False), (eq_false (by decide) : ((8 : Int) = 3) = False), (eq_false (by decide) : ((8 : Int) = 4) = False), (eq_false (by decide) : ((8 : Int) = 5) = False), (eq_false (by decide) : ((8 : Int) = 6) = False), (eq_false (by decide) : ((8 : Int) = 7) = False), x_mod (show (0 : Int) < 5 by decide), z, hL, hi]
    · refine ⟨.tuple [.int 1, .tuple [.int 1, .int 1]], ?_, ft2 f1 (ft2 f1 f1)⟩
      unfold F__law_value B__law_value
      have hL : (([.none, .str "1/2", .int a, .bool true, .tuple [.int 1, .tuple [.int 1, .int 1]]] : List PyData).length ≤ sizeLine) = True := eq_true (by rw [sizeLine_eq]; simp)
      have hi : atI ([.none, .str "1/2", .int a, .bool true, .tuple [.int 1, .tuple [.int 1, .int 1]]] : List PyData) (4 : Int) = some (.tuple [.int 1, .tuple [.int 1, .int 1]]) := rfl
      simp (implicitDefEqProofs := false) only [x_run, x_out_nx, x_out_rt, x_out_er, x_seq, x_seq_nx, x_seq_rt, x_seq_er, x_seq_ct, x_seq_bk, x_ofR_ok, x_ofR_er, x_nx, x_bk, x_ct, x_set, x_setL, x_ret, x_drop, x_retN, x_if, x_raise, x_var, x_gv0, x_gvS, x_gvo0, x_gvoS, x_gb, x_gb0, x_gbO, x_gbS, x_c, x_op, x_cm, x_un, x_bf, x_isi, x_ix, x_ixO, x_ofO_some, x_anil, x_acons, x_tup, x_lst, x_eL, x_tb, x_nt, x_an, x_or, x_ent, x_ean, x_eor, x_eif, x_tT, x_tV, x_tY, x_call, x_callD, x_callK, x_cd1, x_cd2, x_cd3, x_cd4, x_st0, x_stS, x_stN, x_wh, x_for, x_iseq, x_ir1, x_ir2, x_add, x_sub, x_neg, x_dcmp, x_eqI, x_neI, x_absI, x_intI, x_gcdI, x_maxI, x_minI, x_lenL, x_lenT, x_ixL, x_ixT, x_at0, x_at1, x_sz0, x_sz1, x_sz2, x_sz3, x_gN, x_forN, x_for0, x_fB_nx, x_fB_ct, x_fB_bk, x_fB_rt, x_fB_er, x_iTT, x_iTL, x_iTI, x_iLT, x_iLL, x_iII, x_iBI, x_iSS, x_iBB, x_truB, x_itT, x_itL, x_try, RO.bind_ok, RO.bind_er, RO.pure_ok, List.set_cons_zero, List.set_cons_succ, List.cons_append, List.nil_append, if_true, if_false, ite_true, ite_false, reduceIte, Bool.false_eq_true, Bool.true_eq_false, Bool.not_true, Bool.not_false, x_len1, and_self, decide_eq_true_eq, decide_true, decide_false, eq_self, Bool.not_eq_true', decide_eq_false_iff_not, not_true_eq_false, not_false_eq_true, ne_eq, x_eqB, x_neB, x_intB, x_iIB, x_gT2, x_lLi, x_eTu, x_eTuO, x_eLeO, x_dSeqL, x_dSeqT, x_oN, x_oS, x_tI, x_sl, x_cutL, x_cutT, x_comp, x_app, x_asg, x_aug, wipeE, List.length_map, (eq_false (by decide) : ((8 : Int) = 0) = False), (eq_false (by decide) : ((8 : Int) = 1) = False), (eq_false (by decide) : ((8 : Int) = 2) = False), (eq_false (by decide) : ((8 : Int) = 3) = False), (eq_false (by decide) : ((8 : Int) = 4) = False), (eq_false (by decide) : ((8 : Int) = 5) = False), (eq_false (by decide) : ((8 : Int) = 6) = False), (eq_false (by decide) : ((8 : Int) = 7) = False), x_mod (show (0 : Int) < 5 by decide), z, hL, hi]
  · refine ⟨_, ?_, ft2 f0 (fi (i := 1 + (b.natAbs : Int)) (by
      rw [← abs_eq]
      exact (Sm.add (n := 213) s1 sb.abs).mono (by decide)))⟩
    unfold F__law_value B__law_value
    simp (implicitDefEqProofs := false) only [x_run, x_out_nx, x_out_rt, x_out_er, x_seq, x_seq_nx, x_seq_rt, x_seq_er, x_seq_ct, x_seq_bk, x_ofR_ok, x_ofR_er, x_nx, x_bk, x_ct, x_set, x_setL, x_ret, x_drop, x_retN, x_if, x_raise, x_var, x_gv0, x_gvS, x_gvo0, x_gvoS, x_gb, x_gb0, x_gbO, x_gbS, x_c, x_op, x_cm, x_un, x_bf, x_isi, x_ix, x_ixO, x_ofO_some, x_anil, x_acons, x_tup, x_lst, x_eL, x_tb, x_nt, x_an, x_or, x_ent, x_ean, x_eor, x_eif, x_tT, x_tV, x_tY, x_call, x_callD, x_callK, x_cd1, x_cd2, x_cd3, x_cd4, x_st0, x_stS, x_stN, x_wh, x_for, x_iseq, x_ir1, x_ir2, x_add, x_sub, x_neg, x_dcmp, x_eqI, x_neI, x_absI, x_intI, x_gcdI, x_maxI, x_minI, x_lenL, x_lenT, x_ixL, x_ixT, x_at0, x_at1, x_sz0, x_sz1, x_sz2, x_sz3, x_gN, x_forN, x_for0, x_fB_nx, x_fB_ct, x_fB_bk, x_fB_rt, x_fB_er, x_iTT, x_iTL, x_iTI, x_iLT, x_iLL, x_iII, x_iBI, x_iSS, x_iBB, x_truB, x_itT, x_itL, x_try, RO.bind_ok, RO.bind_er, RO.pure_ok, List.set_cons_zero, List.set_cons_succ, List.cons_append, List.nil_append, if_true, if_false, ite_true, ite_false, reduceIte, Bool.false_eq_true, Bool.true_eq_false, Bool.not_true, Bool.not_false, x_len1, and_self, decide_eq_true_eq, decide_true, decide_false, eq_self, Bool.not_eq_true', decide_eq_false_iff_not, not_true_eq_false, not_false_eq_true, ne_eq, x_eqB, x_neB, x_intB, x_iIB, x_gT2, x_lLi, x_eTu, x_eTuO, x_eLeO, x_dSeqL, x_dSeqT, x_oN, x_oS, x_tI, x_sl, x_cutL, x_cutT, x_comp, x_app, x_asg, x_aug, wipeE, List.length_map, (eq_false (by decide) : ((9 : Int) = 0) = False), (eq_false (by decide) : ((9 : Int) = 1) = False), (eq_false (by decide) : ((9 : Int) = 2) = False), (eq_false (by decide) : ((9 : Int) = 3) = False), (eq_false (by decide) : ((9 : Int) = 4) = False), (eq_false (by decide) : ((9 : Int) = 5) = False), (eq_false (by decide) : ((9 : Int) = 6) = False), (eq_false (by decide) : ((9 : Int) = 7) = False), (eq_false (by decide) : ((9 : Int) = 8) = False), abs_eq]
  · refine ⟨_, ?_, ft2 (fi ha) f0⟩
    unfold F__law_value B__law_value
    simp (implicitDefEqProofs := false) only [x_run, x_out_nx, x_out_rt, x_out_er, x_seq, x_seq_nx, x_seq_rt, x_seq_er, x_seq_ct, x_seq_bk, x_ofR_ok, x_ofR_er, x_nx, x_bk, x_ct, x_set, x_setL, x_ret, x_drop, x_retN, x_if, x_raise, x_var, x_gv0, x_gvS, x_gvo0, x_gvoS, x_gb, x_gb0, x_gbO, x_gbS, x_c, x_op, x_cm, x_un, x_bf, x_isi, x_ix, x_ixO, x_ofO_some, x_anil, x_acons, x_tup, x_lst, x_eL, x_tb, x_nt, x_an, x_or, x_ent, x_ean, x_eor, x_eif, x_tT, x_tV, x_tY, x_call, x_callD, x_callK, x_cd1, x_cd2, x_cd3, x_cd4, x_st0, x_stS, x_stN, x_wh, x_for, x_iseq, x_ir1, x_ir2, x_add, x_sub, x_neg, x_dcmp, x_eqI, x_neI, x_absI, x_intI, x_gcdI, x_maxI, x_minI, x_lenL, x_lenT, x_ixL, x_ixT, x_at0, x_at1, x_sz0, x_sz1, x_sz2, x_sz3, x_gN, x_forN, x_for0, x_fB_nx, x_fB_ct, x_fB_bk, x_fB_rt, x_fB_er, x_iTT, x_iTL, x_iTI, x_iLT, x_iLL, x_iII, x_iBI, x_iSS, x_iBB, x_truB, x_itT, x_itL, x_try, RO.bind_ok, RO.bind_er, RO.pure_ok, List.set_cons_zero, List.set_cons_succ, List.cons_append, List.nil_append, if_true, if_false, ite_true, ite_false, reduceIte, Bool.false_eq_true, Bool.true_eq_false, Bool.not_true, Bool.not_false, x_len1, and_self, decide_eq_true_eq, decide_true, decide_false, eq_self, Bool.not_eq_true', decide_eq_false_iff_not, not_true_eq_false, not_false_eq_true, ne_eq, x_eqB, x_neB, x_intB, x_iIB, x_gT2, x_lLi, x_eTu, x_eTuO, x_eLeO, x_dSeqL, x_dSeqT, x_oN, x_oS, x_tI, x_sl, x_cutL, x_cutT, x_comp, x_app, x_asg, x_aug, wipeE, List.length_map, (eq_false (by decide) : ((10 : Int) = 0) = False), (eq_false (by decide) : ((10 : Int) = 1) = False), (eq_false (by decide) : ((10 : Int) = 2) = False), (eq_false (by decide) : ((10 : Int) = 3) = False), (eq_false (by decide) : ((10 : Int) = 4) = False), (eq_false (by decide) : ((10 : Int) = 5) = False), (eq_false (by decide) : ((10 : Int) = 6) = False), (eq_false (by decide) : ((10 : Int) = 7) = False), (eq_false (by decide) : ((10 : Int) = 8) = False), (eq_false (by decide) : ((10 : Int) = 9) = False), abs_eq]
  · refine ⟨_, ?_, ft2 (fi ha) f1⟩
    unfold F__law_value B__law_value
    simp (implicitDefEqProofs := false) only [x_run, x_out_nx, x_out_rt, x_out_er, x_seq, x_seq_nx, x_seq_rt, x_seq_er, x_seq_ct, x_seq_bk, x_ofR_ok, x_ofR_er, x_nx, x_bk, x_ct, x_set, x_setL, x_ret, x_drop, x_retN, x_if, x_raise, x_var, x_gv0, x_gvS, x_gvo0, x_gvoS, x_gb, x_gb0, x_gbO, x_gbS, x_c, x_op, x_cm, x_un, x_bf, x_isi, x_ix, x_ixO, x_ofO_some, x_anil, x_acons, x_tup, x_lst, x_eL, x_tb, x_nt, x_an, x_or, x_ent, x_ean, x_eor, x_eif, x_tT, x_tV, x_tY, x_call, x_callD, x_callK, x_cd1, x_cd2, x_cd3, x_cd4, x_st0, x_stS, x_stN, x_wh, x_for, x_iseq, x_ir1, x_ir2, x_add, x_sub, x_neg, x_dcmp, x_eqI, x_neI, x_absI, x_intI, x_gcdI, x_maxI, x_minI, x_lenL, x_lenT, x_ixL, x_ixT, x_at0, x_at1, x_sz0, x_sz1, x_sz2, x_sz3, x_gN, x_forN, x_for0, x_fB_nx, x_fB_ct, x_fB_bk, x_fB_rt, x_fB_er, x_iTT, x_iTL, x_iTI, x_iLT, x_iLL, x_iII, x_iBI, x_iSS, x_iBB, x_truB, x_itT, x_itL, x_try, RO.bind_ok, RO.bind_er, RO.pure_ok, List.set_cons_zero, List.set_cons_succ, List.cons_append, List.nil_append, if_true, if_false, ite_true, ite_false, reduceIte, Bool.false_eq_true, Bool.true_eq_false, Bool.not_true, Bool.not_false, x_len1, and_self, decide_eq_true_eq, decide_true, decide_false, eq_self, Bool.not_eq_true', decide_eq_false_iff_not, not_true_eq_false, not_false_eq_true, ne_eq, x_eqB, x_neB, x_intB, x_iIB, x_gT2, x_lLi, x_eTu, x_eTuO, x_eLeO, x_dSeqL, x_dSeqT, x_oN, x_oS, x_tI, x_sl, x_cutL, x_cutT, x_comp, x_app, x_asg, x_aug, wipeE, List.length_map, (eq_false (by decide) : ((11 : Int) = 0) = False), (eq_false (by decide) : ((11 : Int) = 1) = False), (eq_false (by decide) : ((11 : Int) = 2) = False), (eq_false (by decide) : ((11 : Int) = 3) = False), (eq_false (by decide) : ((11 : Int) = 4) = False), (eq_false (by decide) : ((11 : Int) = 5) = False), (eq_false (by decide) : ((11 : Int) = 6) = False), (eq_false (by decide) : ((11 : Int) = 7) = False), (eq_false (by decide) : ((11 : Int) = 8) = False), (eq_false (by decide) : ((11 : Int) = 9) = False), (eq_false (by decide) : ((11 : Int) = 10) = False), abs_eq]
end KM
set_option Elab.async false
set_option linter.all false
set_option maxRecDepth 100000
set_option maxHeartbeats 4000000
namespace KM
open PySem PySem.Spec PyProof.Rows L2 PD
def lawV : S := (sSeq (sSet 5 (eCall 3 F__law_value (aCons (eVar 2) (aCons (eVar 3) (aCons (eVar 4) aNil))))) (sSeq (sSet 6 (eCall 1 F_is_ratio (aCons (eVar 5) aNil))) (sIf (tOr (tNt (tT (eIsi "bool" (eVar 6)))) (tCm dNe (eVar 6) (eCall 1 F__law_is_ratio (aCons (eVar 5) aNil)))) (sRet (eC (.bool false))) sNx)))
def lawT : S := (sIf (tCm dIsN (eCall 1 F_is_integer (aCons (eVar 5) aNil)) (eC (.bool true))) (sRet (eC (.bool false))) sNx)
def lawF : S := (sIf (tCm dIsN (eCall 1 F_is_integer (aCons (eVar 5) aNil)) (eC (.bool false))) (sRet (eC (.bool false))) sNx)
def lawB : S := (sSeq (sSet 2 (eCall 2 F__law_cell (aCons (eVar 0) (aCons (eVar 1) aNil)))) (sSeq (sSet 3 (eCall 2 F__law_cell (aCons (eVar 0) (aCons (eOp dAdd (eVar 1) (eC (.int 1))) aNil)))) (sSeq (sFor (iSeq (eL (lLst (aCons (eOp dMod (eBf cInt (aCons (eVar 2) aNil)) (eC (.int 12))) (aCons (eOp dMod (eOp dDiv (eBf cInt (aCons (eVar 2) aNil)) (eC (.int 12))) (eC (.int 12))) (aCons (eOp dMod (eBf cInt (aCons (eOp dAdd (eVar 3) (eVar 1)) aNil)) (eC (.int 12))) aNil)))))) (gN 4) lawV) (sSeq (sFor (iSeq (eL (lLst (aCons (eVar 2) (aCons (eVar 3) aNil))))) (gN 5) lawT) (sFor (iSeq (eL (lLst (aCons (eC (.bool true)) (aCons (eC (.bool false)) (aCons (eC .none) (aCons (eC (.str "7")) (aCons (eTup (aCons (eC (.int 1)) (aCons (eC (.int 1)) aNil))) (aCons (eL (lLst (aCons (eVar 2) aNil))) aNil))))))))) (gN 5) lawF)))))
abbrev I0 (L : PyData) (env : PD.Env) : Prop := ∃ x1 x2 x3 x4 x5 x6, env = [some (.fz L), x1, x2, x3, x4, x5, x6]
abbrev I3 (L : PyData) (k a b : Int) (env : PD.Env) : Prop := ∃ x4 x5 x6, env = [some (.fz L), some (.fz (.int k)), some (.fz (.int a)), some (.fz (.int b)), x4, x5, x6]
theorem x_isN {a b : Bool} : dIsN (.bool a) (.bool b) = some (.bool !(decide (a = b))) := by cases a <;> cases b <;> rfl
theorem stepV (L : PyData) (k a b : Int) (sa : Sm 213 a) (sb : Sm 213 b) : ∀ (d : PyData) (env : PD.Env), (∃ c : Int, d = .int c ∧ 0 ≤ c ∧ c < 12) → I3 L k a b env → ∃ e1, gN 4 d env = .ok e1 ∧ Keeps (I3 L k a b) (lawV e1) := by
  intro d env ⟨c, hc, h0, h1⟩ ⟨x4, x5, x6, he⟩
  subst hc he
  refine ⟨_, rfl, ?_⟩
  obtain ⟨v, ev, fv⟩ := value_ok sa sb h0 h1
  obtain ⟨t, e1, e2⟩ := ratio_same fv
  unfold lawV
  simp (implicitDefEqProofs := false) only [x_run, x_out_nx, x_out_rt, x_out_er, x_seq, x_seq_nx, x_seq_rt, x_seq_er, x_seq_ct, x_seq_bk, x_ofR_ok, x_ofR_er, x_nx, x_bk, x_ct, x_set, x_setL, x_ret, x_drop, x_retN, x_if, x_raise, x_var, x_gv0, x_gvS, x_gvo0, x_gvoS, x_gb, x_gb0, x_gbO, x_gbS, x_c, x_op, x_cm, x_un, x_bf, x_isi, x_ix, x_ixO, x_ofO_some, x_anil, x_acons, x_tup, x_lst, x_eL, x_tb, x_nt, x_an, x_or, x_ent, x_ean, x_eor, x_eif, x_tT, x_tV, x_tY, x_call, x_callD, x_callK, x_cd1, x_cd2, x_cd3, x_cd4, x_st0, x_stS, x_stN, x_wh, x_for, x_iseq, x_ir1, x_ir2, x_add, x_sub, x_neg, x_dcmp, x_eqI, x_neI, x_absI, x_intI, x_gcdI, x_maxI, x_minI, x_lenL, x_lenT, x_ixL, x_ixT, x_at0, x_at1, x_sz0, x_sz1, x_sz2, x_sz3, x_gN, x_forN, x_for0, x_fB_nx, x_fB_ct, x_fB_bk, x_fB_rt, x_fB_er, x_iTT, x_iTL, x_iTI, x_iLT, x_iLL, x_iII, x_iBI, x_iSS, x_iBB, x_truB, x_itT, x_itL, x_try, RO.bind_ok, RO.bind_er, RO.pure_ok, List.set_cons_zero, List.set_cons_succ, List.cons_append, List.nil_append, if_true, if_false, ite_true, ite_false, reduceIte, Bool.false_eq_true, Bool.true_eq_false, Bool.not_true, Bool.not_false, x_len1, and_self, decide_eq_true_eq, decide_true, decide_false, eq_self, Bool.not_eq_true', decide_eq_false_iff_not, not_true_eq_false, not_false_eq_true, ne_eq, x_eqB, x_neB, x_intB, x_iIB, x_gT2, x_lLi, x_eTu, x_eTuO, x_eLeO, x_dSeqL, x_dSeqT, x_oN, x_oS, x_tI, x_sl, x_cutL, x_cutT, x_comp, x_app, x_asg, x_aug, wipeE, List.length_map, ev, e1, e2, x_neB]
  exact ⟨_, _, _, rfl⟩
theorem stepT (L : PyData) (k a b : Int) : ∀ (d : PyData) (env : PD.Env), (∃ i : Int, d = .int i) → I3 L k a b env → ∃ e1, gN 5 d env = .ok e1 ∧ Keeps (I3 L k a b) (lawT e1) := by
  intro d env ⟨i, hd⟩ ⟨x4, x5, x6, he⟩
  subst hd he
  refine ⟨_, rfl, ?_⟩
  unfold lawT
  simp (implicitDefEqProofs := false) only [x_run, x_out_nx, x_out_rt, x_out_er, x_seq, x_seq_nx, x_seq_rt, x_seq_er, x_seq_ct, x_seq_bk, x_ofR_ok, x_ofR_er, x_nx, x_bk, x_ct, x_set, x_setL, x_ret, x_drop, x_retN, x_if, x_raise, x_var, x_gv0, x_gvS, x_gvo0, x_gvoS, x_gb, x_gb0, x_gbO, x_gbS, x_c, x_op, x_cm, x_un, x_bf, x_isi, x_ix, x_ixO, x_ofO_some, x_anil, x_acons, x_tup, x_lst, x_eL, x_tb, x_nt, x_an, x_or, x_ent, x_ean, x_eor, x_eif, x_tT, x_tV, x_tY, x_call, x_callD, x_callK, x_cd1, x_cd2, x_cd3, x_cd4, x_st0, x_stS, x_stN, x_wh, x_for, x_iseq, x_ir1, x_ir2, x_add, x_sub, x_neg, x_dcmp, x_eqI, x_neI, x_absI, x_intI, x_gcdI, x_maxI, x_minI, x_lenL, x_lenT, x_ixL, x_ixT, x_at0, x_at1, x_sz0, x_sz1, x_sz2, x_sz3, x_gN, x_forN, x_for0, x_fB_nx, x_fB_ct, x_fB_bk, x_fB_rt, x_fB_er, x_iTT, x_iTL, x_iTI, x_iLT, x_iLL, x_iII, x_iBI, x_iSS, x_iBB, x_truB, x_itT, x_itL, x_try, RO.bind_ok, RO.bind_er, RO.pure_ok, List.set_cons_zero, List.set_cons_succ, List.cons_append, List.nil_append, if_true, if_false, ite_true, ite_false, reduceIte, Bool.false_eq_true, Bool.true_eq_false, Bool.not_true, Bool.not_false, x_len1, and_self, decide_eq_true_eq, decide_true, decide_false, eq_self, Bool.not_eq_true', decide_eq_false_iff_not, not_true_eq_false, not_false_eq_true, ne_eq, x_eqB, x_neB, x_intB, x_iIB, x_gT2, x_lLi, x_eTu, x_eTuO, x_eLeO, x_dSeqL, x_dSeqT, x_oN, x_oS, x_tI, x_sl, x_cutL, x_cutT, x_comp, x_app, x_asg, x_aug, wipeE, List.length_map, isInt_i, x_isN]
  exact ⟨_, _, _, rfl⟩
theorem stepF (L : PyData) (k a b : Int) : ∀ (d : PyData) (env : PD.Env), F_is_integer [d] = .ok (.bool false) → I3 L k a b env → ∃ e1, gN 5 d env = .ok e1 ∧ Keeps (I3 L k a b) (lawF e1) := by
  intro d env hd ⟨x4, x5, x6, he⟩
  subst he
  refine ⟨_, rfl, ?_⟩
  unfold lawF
  simp (implicitDefEqProofs := false) only [x_run, x_out_nx, x_out_rt, x_out_er, x_seq, x_seq_nx, x_seq_rt, x_seq_er, x_seq_ct, x_seq_bk, x_ofR_ok, x_ofR_er, x_nx, x_bk, x_ct, x_set, x_setL, x_ret, x_drop, x_retN, x_if, x_raise, x_var, x_gv0, x_gvS, x_gvo0, x_gvoS, x_gb, x_gb0, x_gbO, x_gbS, x_c, x_op, x_cm, x_un, x_bf, x_isi, x_ix, x_ixO, x_ofO_some, x_anil, x_acons, x_tup, x_lst, x_eL, x_tb, x_nt, x_an, x_or, x_ent, x_ean, x_eor, x_eif, x_tT, x_tV, x_tY, x_call, x_callD, x_callK, x_cd1, x_cd2, x_cd3, x_cd4, x_st0, x_stS, x_stN, x_wh, x_for, x_iseq, x_ir1, x_ir2, x_add, x_sub, x_neg, x_dcmp, x_eqI, x_neI, x_absI, x_intI, x_gcdI, x_maxI, x_minI, x_lenL, x_lenT, x_ixL, x_ixT, x_at0, x_at1, x_sz0, x_sz1, x_sz2, x_sz3, x_gN, x_forN, x_for0, x_fB_nx, x_fB_ct, x_fB_bk, x_fB_rt, x_fB_er, x_iTT, x_iTL, x_iTI, x_iLT, x_iLL, x_iII, x_iBI, x_iSS, x_iBB, x_truB, x_itT, x_itL, x_try, RO.bind_ok, RO.bind_er, RO.pure_ok, List.set_cons_zero, List.set_cons_succ, List.cons_append, List.nil_append, if_true, if_false, ite_true, ite_false, reduceIte, Bool.false_eq_true, Bool.true_eq_false, Bool.not_true, Bool.not_false, x_len1, and_self, decide_eq_true_eq, decide_true, decide_false, eq_self, Bool.not_eq_true', decide_eq_false_iff_not, not_true_eq_false, not_false_eq_true, ne_eq, x_eqB, x_neB, x_intB, x_iIB, x_gT2, x_lLi, x_eTu, x_eTuO, x_eLeO, x_dSeqL, x_dSeqT, x_oN, x_oS, x_tI, x_sl, x_cutL, x_cutT, x_comp, x_app, x_asg, x_aug, wipeE, List.length_map, hd, x_isN]
  exact ⟨_, _, _, rfl⟩
theorem step (ns : List Int) : ∀ (d : PyData) (env : PD.Env), (∃ k : Nat, d = .int k) → I0 (.list (ns.map .int)) env → ∃ e1, gN 1 d env = .ok e1 ∧ Keeps (I0 (.list (ns.map .int))) (lawB e1) := by
  intro d env ⟨k, hd⟩ ⟨x1, x2, x3, x4, x5, x6, he⟩
  subst hd he
  refine ⟨_, rfl, ?_⟩
  obtain ⟨a, ea, sa⟩ := cell_ok ns k
  obtain ⟨b, eb, sb⟩ := cell_ok ns (k + 1)
  have eb' : F__law_cell [.list (ns.map .int), .int ((k : Int) + 1)] = .ok (.int b) := eb
  have d12 : divOk 12 = true := by decide +kernel
  unfold lawB
  have m12 : (0 : Int) < 12 := by decide
  obtain ⟨e1, h1, y4, y5, y6, rfl⟩ := forGo_keep (gg := gN 4) (body := lawV) (fun d => ∃ c : Int, d = .int c ∧ 0 ≤ c ∧ c < 12) (I3 (.list (ns.map .int)) k a b) (stepV _ _ _ _ sa sb) [.int (a % 12), .int (a.fdiv 12 % 12), .int ((b + k) % 12)] [some (.fz (.list (ns.map .int))), some (.fz (.int k)), some (.fz (.int a)), some (.fz (.int b)), x4, x5, x6]
    (fun d h => by
      simp only [List.mem_cons, List.not_mem_nil, or_false] at h
      rcases h with rfl | rfl | rfl
      · exact ⟨_, rfl, Int.emod_nonneg _ (by decide), Int.emod_lt_of_pos _ m12⟩
      · exact ⟨_, rfl, Int.emod_nonneg _ (by decide), Int.emod_lt_of_pos _ m12⟩
      · exact ⟨_, rfl, Int.emod_nonneg _ (by decide), Int.emod_lt_of_pos _ m12⟩) ⟨_, _, _, rfl⟩
  obtain ⟨e2, h2, z4, z5, z6, rfl⟩ := forGo_keep (gg := gN 5) (body := lawT) (fun d => ∃ i : Int, d = .int i) (I3 (.list (ns.map .int)) k a b) (stepT _ _ _ _) [.int a, .int b] [some (.fz (.list (ns.map .int))), some (.fz (.int k)), some (.fz (.int a)), some (.fz (.int b)), y4, y5, y6]
    (fun d h => by
      simp only [List.mem_cons, List.not_mem_nil, or_false] at h
      rcases h with rfl | rfl
      · exact ⟨_, rfl⟩
      · exact ⟨_, rfl⟩) ⟨_, _, _, rfl⟩
  obtain ⟨e3, h3, w4, w5, w6, rfl⟩ := forGo_keep (gg := gN 5) (body := lawF) (fun d => F_is_integer [d] = .ok (.bool false)) (I3 (.list (ns.map .int)) k a b) (stepF _ _ _ _) [.bool true, .bool false, .none, .str "7", .tuple [.int 1, .int 1], .list [.int a]] [some (.fz (.list (ns.map .int))), some (.fz (.int k)), some (.fz (.int a)), some (.fz (.int b)), z4, z5, z6]
    (fun d h => by
      simp only [List.mem_cons, List.not_mem_nil, or_false] at h
      rcases h with rfl | rfl | rfl | rfl | rfl | rfl
      · exact isInt_b ⟨rfl, rfl⟩
      · exact isInt_b ⟨rfl, rfl⟩
      · exact isInt_n rfl
      · exact isInt_n rfl
      · exact isInt_n rfl
      · exact isInt_n rfl) ⟨_, _, _, rfl⟩
  have l6 : (([.bool true, .bool false, .none, .str "7", .tuple [.int 1, .int 1], .list [.int a]] : List PyData).length ≤ sizeLine) = True := eq_true (by rw [sizeLine_eq]; simp)
  simp (implicitDefEqProofs := false) only [x_run, x_out_nx, x_out_rt, x_out_er, x_seq, x_seq_nx, x_seq_rt, x_seq_er, x_seq_ct, x_seq_bk, x_ofR_ok, x_ofR_er, x_nx, x_bk, x_ct, x_set, x_setL, x_ret, x_drop, x_retN, x_if, x_raise, x_var, x_gv0, x_gvS, x_gvo0, x_gvoS, x_gb, x_gb0, x_gbO, x_gbS, x_c, x_op, x_cm, x_un, x_bf, x_isi, x_ix, x_ixO, x_ofO_some, x_anil, x_acons, x_tup, x_lst, x_eL, x_tb, x_nt, x_an, x_or, x_ent, x_ean, x_eor, x_eif, x_tT, x_tV, x_tY, x_call, x_callD, x_callK, x_cd1, x_cd2, x_cd3, x_cd4, x_st0, x_stS, x_stN, x_wh, x_for, x_iseq, x_ir1, x_ir2, x_add, x_sub, x_neg, x_dcmp, x_eqI, x_neI, x_absI, x_intI, x_gcdI, x_maxI, x_minI, x_lenL, x_lenT, x_ixL, x_ixT, x_at0, x_at1, x_sz0, x_sz1, x_sz2, x_sz3, x_gN, x_forN, x_for0, x_fB_nx, x_fB_ct, x_fB_bk, x_fB_rt, x_fB_er, x_iTT, x_iTL, x_iTI, x_iLT, x_iLL, x_iII, x_iBI, x_iSS, x_iBB, x_truB, x_itT, x_itL, x_try, RO.bind_ok, RO.bind_er, RO.pure_ok, List.set_cons_zero, List.set_cons_succ, List.cons_append, List.nil_append, if_true, if_false, ite_true, ite_false, reduceIte, Bool.false_eq_true, Bool.true_eq_false, Bool.not_true, Bool.not_false, x_len1, and_self, decide_eq_true_eq, decide_true, decide_false, eq_self, Bool.not_eq_true', decide_eq_false_iff_not, not_true_eq_false, not_false_eq_true, ne_eq, x_eqB, x_neB, x_intB, x_iIB, x_gT2, x_lLi, x_eTu, x_eTuO, x_eLeO, x_dSeqL, x_dSeqT, x_oN, x_oS, x_tI, x_sl, x_cutL, x_cutT, x_comp, x_app, x_asg, x_aug, wipeE, List.length_map, ea, eb', x_mod m12, x_div d12, h1, h2, h3, l6]
  exact ⟨_, _, _, _, _, _, rfl⟩
theorem sm_small2 {i : Int} (h : i.natAbs < 1024) : Sm 215 i := Nat.lt_of_lt_of_le h (Nat.pow_le_pow_right (by decide) (by decide) : 2 ^ 10 ≤ 2 ^ 215)
theorem dNe_self {n : Nat} {xs : List PyData} (h : Fine n (.list xs)) (e : PyData.eqv (.list xs) (.list xs) = true) (l : n ≤ 64 := by decide) : dNe (.list xs) (.list xs) = some (.bool false) := by
  have hE : dEq (.list xs) (.list xs) = some (.bool true) := by
    show (if SeqAt.shaped (.list xs) = true ∧ SeqAt.shaped (.list xs) = true then some (PyData.bool (PyData.eqv (.list xs) (.list xs))) else none) = _
    rw [if_pos ⟨h.shaped l, h.shaped l⟩, e]
  unfold dNe
  rw [hE]
  rfl
theorem law_true (ns : List Int) (hl : ns.length ≤ 63) (_hb : ∀ z ∈ ns, Builtin.Int.intBits z ≤ 1048576) : F_law [.list (ns.map .int)] = .ok (.bool true) := by
  have n1 : dNe (.list [.int 1000, .int 600]) (.list [.int 1000, .int 600]) = some (.bool false) := dNe_self (n := 1) (fl2 (fi (sm_small2 (by decide))) (fi (sm_small2 (by decide)))) (by simp [PyData.eqv, PyData.eqvAll])
  have n2 : dNe (.list [.tuple [.int 0, .int 1], .tuple [.int 1, .int 1], .tuple [.int 1, .int 2]]) (.list [.tuple [.int 0, .int 1], .tuple [.int 1, .int 1], .tuple [.int 1, .int 2]]) = some (.bool false) := dNe_self (n := 2) (.list _ (by simp) fun z hz => by
    simp only [List.mem_cons, List.not_mem_nil, or_false] at hz
    rcases hz with rfl | rfl | rfl
    · exact ft2 f0 f1
    · exact ft2 f1 f1
    · exact ft2 f1 (fi (sm_small2 (by decide)))) (by simp [PyData.eqv, PyData.eqvAll])
  have e0 : callD 0 F__law_errors [] = .ok (.bool true) := rfl
  have hB : B_law = sSeq _ (sSeq _ (sSeq (sFor (iR1 (eBf cMax (aCons (eC (.int 1)) (aCons (eBf cLen (aCons (eVar 0) aNil)) aNil)))) (gN 1) lawB) (sRet (eC (.bool true))))) := rfl
  unfold F_law
  rw [hB]
  simp (implicitDefEqProofs := false) only [x_run, x_out_nx, x_out_rt, x_out_er, x_seq, x_seq_nx, x_seq_rt, x_seq_er, x_seq_ct, x_seq_bk, x_ofR_ok, x_ofR_er, x_nx, x_bk, x_ct, x_set, x_setL, x_ret, x_drop, x_retN, x_if, x_raise, x_var, x_gv0, x_gvS, x_gvo0, x_gvoS, x_gb, x_gb0, x_gbO, x_gbS, x_c, x_op, x_cm, x_un, x_bf, x_isi, x_ix, x_ixO, x_ofO_some, x_anil, x_acons, x_tup, x_lst, x_eL, x_tb, x_nt, x_an, x_or, x_ent, x_ean, x_eor, x_eif, x_tT, x_tV, x_tY, x_call, x_callD, x_callK, x_cd1, x_cd2, x_cd3, x_cd4, x_st0, x_stS, x_stN, x_wh, x_for, x_iseq, x_ir1, x_ir2, x_add, x_sub, x_neg, x_dcmp, x_eqI, x_neI, x_absI, x_intI, x_gcdI, x_maxI, x_minI, x_lenL, x_lenT, x_ixL, x_ixT, x_at0, x_at1, x_sz0, x_sz1, x_sz2, x_sz3, x_gN, x_forN, x_for0, x_fB_nx, x_fB_ct, x_fB_bk, x_fB_rt, x_fB_er, x_iTT, x_iTL, x_iTI, x_iLT, x_iLL, x_iII, x_iBI, x_iSS, x_iBB, x_truB, x_itT, x_itL, x_try, RO.bind_ok, RO.bind_er, RO.pure_ok, List.set_cons_zero, List.set_cons_succ, List.cons_append, List.nil_append, if_true, if_false, ite_true, ite_false, reduceIte, Bool.false_eq_true, Bool.true_eq_false, Bool.not_true, Bool.not_false, x_len1, and_self, decide_eq_true_eq, decide_true, decide_false, eq_self, Bool.not_eq_true', decide_eq_false_iff_not, not_true_eq_false, not_false_eq_true, ne_eq, x_eqB, x_neB, x_intB, x_iIB, x_gT2, x_lLi, x_eTu, x_eTuO, x_eLeO, x_dSeqL, x_dSeqT, x_oN, x_oS, x_tI, x_sl, x_cutL, x_cutT, x_comp, x_app, x_asg, x_aug, wipeE, List.length_map, List.length_map, n1, n2, e0]
  rw [rng1_okI (by split <;> omega) (by split <;> omega)]
  generalize (if ((ns.length : Int) > 1) then (ns.length : Int) else 1).toNat = m
  simp (implicitDefEqProofs := false) only [x_run, x_out_nx, x_out_rt, x_out_er, x_seq, x_seq_nx, x_seq_rt, x_seq_er, x_seq_ct, x_seq_bk, x_ofR_ok, x_ofR_er, x_nx, x_bk, x_ct, x_set, x_setL, x_ret, x_drop, x_retN, x_if, x_raise, x_var, x_gv0, x_gvS, x_gvo0, x_gvoS, x_gb, x_gb0, x_gbO, x_gbS, x_c, x_op, x_cm, x_un, x_bf, x_isi, x_ix, x_ixO, x_ofO_some, x_anil, x_acons, x_tup, x_lst, x_eL, x_tb, x_nt, x_an, x_or, x_ent, x_ean, x_eor, x_eif, x_tT, x_tV, x_tY, x_call, x_callD, x_callK, x_cd1, x_cd2, x_cd3, x_cd4, x_st0, x_stS, x_stN, x_wh, x_for, x_iseq, x_ir1, x_ir2, x_add, x_sub, x_neg, x_dcmp, x_eqI, x_neI, x_absI, x_intI, x_gcdI, x_maxI, x_minI, x_lenL, x_lenT, x_ixL, x_ixT, x_at0, x_at1, x_sz0, x_sz1, x_sz2, x_sz3, x_gN, x_forN, x_for0, x_fB_nx, x_fB_ct, x_fB_bk, x_fB_rt, x_fB_er, x_iTT, x_iTL, x_iTI, x_iLT, x_iLL, x_iII, x_iBI, x_iSS, x_iBB, x_truB, x_itT, x_itL, x_try, RO.bind_ok, RO.bind_er, RO.pure_ok, List.set_cons_zero, List.set_cons_succ, List.cons_append, List.nil_append, if_true, if_false, ite_true, ite_false, reduceIte, Bool.false_eq_true, Bool.true_eq_false, Bool.not_true, Bool.not_false, x_len1, and_self, decide_eq_true_eq, decide_true, decide_false, eq_self, Bool.not_eq_true', decide_eq_false_iff_not, not_true_eq_false, not_false_eq_true, ne_eq, x_eqB, x_neB, x_intB, x_iIB, x_gT2, x_lLi, x_eTu, x_eTuO, x_eLeO, x_dSeqL, x_dSeqT, x_oN, x_oS, x_tI, x_sl, x_cutL, x_cutT, x_comp, x_app, x_asg, x_aug, wipeE, List.length_map]
  obtain ⟨env', e1, x1, x2, x3, x4, x5, x6, rfl⟩ := forGo_keep (gg := gN 1) (body := lawB) (fun d => ∃ k : Nat, d = .int k) (I0 (.list (ns.map .int))) (step ns) (rngItems 0 m) [some (.fz (.list (ns.map .int))), none, none, none, none, none, none] (fun d h => rng_mem h) ⟨_, _, _, _, _, _, rfl⟩
  simp (implicitDefEqProofs := false) only [x_run, x_out_nx, x_out_rt, x_out_er, x_seq, x_seq_nx, x_seq_rt, x_seq_er, x_seq_ct, x_seq_bk, x_ofR_ok, x_ofR_er, x_nx, x_bk, x_ct, x_set, x_setL, x_ret, x_drop, x_retN, x_if, x_raise, x_var, x_gv0, x_gvS, x_gvo0, x_gvoS, x_gb, x_gb0, x_gbO, x_gbS, x_c, x_op, x_cm, x_un, x_bf, x_isi, x_ix, x_ixO, x_ofO_some, x_anil, x_acons, x_tup, x_lst, x_eL, x_tb, x_nt, x_an, x_or, x_ent, x_ean, x_eor, x_eif, x_tT, x_tV, x_tY, x_call, x_callD, x_callK, x_cd1, x_cd2, x_cd3, x_cd4, x_st0, x_stS, x_stN, x_wh, x_for, x_iseq, x_ir1, x_ir2, x_add, x_sub, x_neg, x_dcmp, x_eqI, x_neI, x_absI, x_intI, x_gcdI, x_maxI, x_minI, x_lenL, x_lenT, x_ixL, x_ixT, x_at0, x_at1, x_sz0, x_sz1, x_sz2, x_sz3, x_gN, x_forN, x_for0, x_fB_nx, x_fB_ct, x_fB_bk, x_fB_rt, x_fB_er, x_iTT, x_iTL, x_iTI, x_iLT, x_iLL, x_iII, x_iBI, x_iSS, x_iBB, x_truB, x_itT, x_itL, x_try, RO.bind_ok, RO.bind_er, RO.pure_ok, List.set_cons_zero, List.set_cons_succ, List.cons_append, List.nil_append, if_true, if_false, ite_true, ite_false, reduceIte, Bool.false_eq_true, Bool.true_eq_false, Bool.not_true, Bool.not_false, x_len1, and_self, decide_eq_true_eq, decide_true, decide_false, eq_self, Bool.not_eq_true', decide_eq_false_iff_not, not_true_eq_false, not_false_eq_true, ne_eq, x_eqB, x_neB, x_intB, x_iIB, x_gT2, x_lLi, x_eTu, x_eTuO, x_eLeO, x_dSeqL, x_dSeqT, x_oN, x_oS, x_tI, x_sl, x_cutL, x_cutT, x_comp, x_app, x_asg, x_aug, wipeE, List.length_map, e1]
end KM
set_option Elab.async false
set_option linter.all false
set_option maxRecDepth 100000
set_option maxHeartbeats 4000000
namespace KM
open PySem PySem.Spec PyProof.Rows L2 PD
def topS (i : Nat) : Stmt := PySem.Challenge.pw_kinkmeasure_k00_errors_and_ratios.main.body.getD i (.Pass ⟨0, 0, 0, 0⟩)
abbrev s_is_integer : Stmt := topS 15
theorem sc_is_integer : FnScope ["value"] ["value"] (defScope s_is_integer) := ⟨rfl, rfl, rfl, by decide +kernel, rfl, by decide +kernel, by decide +kernel⟩
abbrev s_is_ratio : Stmt := topS 16
theorem sc_is_ratio : FnScope ["value", "above", "below"] ["value"] (defScope s_is_ratio) := ⟨rfl, rfl, rfl, by decide +kernel, rfl, by decide +kernel, by decide +kernel⟩
abbrev s__law_cell : Stmt := topS 18
theorem sc__law_cell : FnScope ["script", "k", "cell"] ["script", "k"] (defScope s__law_cell) := ⟨rfl, rfl, rfl, by decide +kernel, rfl, by decide +kernel, by decide +kernel⟩
abbrev s__law_common : Stmt := topS 19
theorem sc__law_common : FnScope ["one", "other", "rest"] ["one", "other"] (defScope s__law_common) := ⟨rfl, rfl, rfl, by decide +kernel, rfl, by decide +kernel, by decide +kernel⟩
abbrev s__law_lowest : Stmt := topS 20
theorem sc__law_lowest : FnScope ["above", "below", "common"] ["above", "below"] (defScope s__law_lowest) := ⟨rfl, rfl, rfl, by decide +kernel, rfl, by decide +kernel, by decide +kernel⟩
abbrev s__law_is_ratio : Stmt := topS 21
theorem sc__law_is_ratio : FnScope ["value", "part"] ["value"] (defScope s__law_is_ratio) := ⟨rfl, rfl, rfl, by decide +kernel, rfl, by decide +kernel, by decide +kernel⟩
abbrev s__law_value : Stmt := topS 22
theorem sc__law_value : FnScope ["one", "other", "choice", "ratio"] ["one", "other", "choice"] (defScope s__law_value) := ⟨rfl, rfl, rfl, by decide +kernel, rfl, by decide +kernel, by decide +kernel⟩
abbrev s__law_classes : Stmt := topS 23
theorem sc__law_classes : FnScope ["error", "found"] ["error"] (defScope s__law_classes) := ⟨rfl, rfl, rfl, by decide +kernel, rfl, by decide +kernel, by decide +kernel⟩
abbrev s__law_errors : Stmt := topS 24
theorem sc__law_errors : FnScope ["made", "k", "j"] [] (defScope s__law_errors) := ⟨rfl, rfl, rfl, by decide +kernel, rfl, by decide +kernel, by decide +kernel⟩
abbrev s_law : Stmt := topS 25
theorem sc_law : FnScope ["script", "k", "one", "other", "choice", "value", "told"] ["script"] (defScope s_law) := ⟨rfl, rfl, rfl, by decide +kernel, rfl, by decide +kernel, by decide +kernel⟩
def s_init_BadNetwork : Stmt := (match topS 7 with | .ClassDef _ _ _ b _ _ _ _ _ _ _ => b | _ => []).getD 0 (.Pass ⟨0, 0, 0, 0⟩)
def s_init_BadText : Stmt := (match topS 8 with | .ClassDef _ _ _ b _ _ _ _ _ _ _ => b | _ => []).getD 0 (.Pass ⟨0, 0, 0, 0⟩)
section
variable [Tbs] {P : Program} {w : World} {K : PySem.W.Frag} {mg : Str → Option Value} {base : Heap}
theorem ok_is_integer {f : Addr} {fd : FuncData} (Fn : Fun K "is_integer" "is_integer" s_is_integer f fd) (hb : Binds K fd ["value"] []) (hm : mg "is_integer" = some (.ref f)) (m_bool : mg "bool" = none) (m_int : mg "int" = none) (m_isinstance : mg "isinstance" = none) : Dfn P w K mg base "is_integer" 1 1 F_is_integer :=
  dfn_of (B := B_is_integer) Fn sc_is_integer hb hm (fun cdv A outer s H E hr => (by refine css_one ?_; refine cs_ret ?_; exact (ce_and (c_isi_int (by rfl) m_isinstance (by rfl) m_int (CE.cb (ce_var 0))) (ce_one (ce_not (c_isi_bool (by rfl) m_isinstance (by rfl) m_bool (CE.cb (ce_var 0))))))))
theorem ok_is_ratio {f : Addr} {fd : FuncData} (Fn : Fun K "is_ratio" "is_ratio" s_is_ratio f fd) (hb : Binds K fd ["value"] []) (hm : mg "is_ratio" = some (.ref f)) (D_is_integer : Dfn P w K mg base "is_integer" 1 1 F_is_integer) (m_gcd : mg "gcd" = some (.builtin "math.gcd")) (m_isinstance : mg "isinstance" = none) (m_len : mg "len" = none) (m_tuple : mg "tuple" = none) : Dfn P w K mg base "is_ratio" 2 1 F_is_ratio :=
  dfn_of (B := B_is_ratio) Fn sc_is_ratio hb hm (fun cdv A outer s H E hr => (by refine css_cons ?_ ?_; refine cs_if ?_ ?_ ?_; exact (CW.ct (cw_or (ct_not (ct_tru (CE.cb (c_isi_tuple (by rfl) m_isinstance (by rfl) m_tuple (CE.cb (ce_var 0)))))) (cw_or1 (ct_cmp (bin_ne hr.units) (CE.cb (c_len (by rfl) m_len (ca_cons (ce_var 0) ca_nil))) (CE.cb ce_int))))); refine css_one ?_; refine cs_ret ?_; exact ce_bl; exact css_nil; refine css_cons ?_ ?_; exact (cs_asg (ce_var 0) (cg_tup rfl (cgs_cons (cg_name 1 sc_is_ratio.nd rfl (by first | exact .inl rfl | exact .inr rfl)) (cgs_cons (cg_name 2 sc_is_ratio.nd rfl (by first | exact .inl rfl | exact .inr rfl)) cgs_nil)))); refine css_cons ?_ ?_; refine cs_if ?_ ?_ ?_; exact (CW.ct (cw_or (ct_not (ct_tru (CE.cb (c_call D_is_integer hr (by first | decide | omega) tk0 (by rfl) (ca_cons (ce_var 1) ca_nil))))) (cw_or1 (ct_not (ct_tru (CE.cb (c_call D_is_integer hr (by first | decide | omega) tk0 (by rfl) (ca_cons (ce_var 2) ca_nil)))))))); refine css_one ?_; refine cs_ret ?_; exact ce_bl; exact css_nil; refine css_one ?_; refine cs_ret ?_; exact (ce_and (ce_cmp bin_ge (CE.cb (ce_var 2)) (CE.cb ce_int)) (ce_one (ce_cmp (bin_eq hr.units) (CE.cb (c_gcd (by rfl) m_gcd (ca_cons (ce_var 1) (ca_cons (ce_var 2) ca_nil)))) (CE.cb ce_int))))))
theorem ok__law_cell {f : Addr} {fd : FuncData} (Fn : Fun K "_law_cell" "_law_cell" s__law_cell f fd) (hb : Binds K fd ["script", "k"] []) (hm : mg "_law_cell" = some (.ref f)) (m_abs : mg "abs" = none) (m_int : mg "int" = none) (m_len : mg "len" = none) : Dfn P w K mg base "_law_cell" 1 2 F__law_cell :=
  dfn_of (B := B__law_cell) Fn sc__law_cell hb hm (fun cdv A outer s H E hr => (by refine css_cons ?_ ?_; refine cs_set (i := 2) ?_ ?_ ?_ ?_; exact sc__law_cell.nd; rfl; (first | exact .inl rfl | exact .inr rfl); exact (ce_if (ct_cmp bin_lt (CE.cb (ce_var 1)) (CE.cb (c_len (by rfl) m_len (ca_cons (ce_var 0) ca_nil)))) (c_int (by rfl) m_int (ca_cons (ce_ix (ce_var 0) (ce_var 1)) ca_nil)) ce_int); refine css_one ?_; refine cs_ret ?_; exact (ce_if (ct_cmp bin_lt (CE.cb (c_abs (by rfl) m_abs (ca_cons (ce_var 2) ca_nil))) (CE.cb (ce_op bin_pow ce_int ce_int))) (ce_var 2) (ce_op bin_mod (c_int (by rfl) m_int (ca_cons (ce_var 2) ca_nil)) (ce_op bin_pow ce_int ce_int)))))
theorem ok__law_common {f : Addr} {fd : FuncData} (Fn : Fun K "_law_common" "_law_common" s__law_common f fd) (hb : Binds K fd ["one", "other"] []) (hm : mg "_law_common" = some (.ref f)) (m_abs : mg "abs" = none) (m_int : mg "int" = none) : Dfn P w K mg base "_law_common" 1 2 F__law_common :=
  dfn_of (B := B__law_common) Fn sc__law_common hb hm (fun cdv A outer s H E hr => (by refine css_cons ?_ ?_; refine cs_set (i := 0) ?_ ?_ ?_ ?_; exact sc__law_common.nd; rfl; (first | exact .inl rfl | exact .inr rfl); exact (c_abs (by rfl) m_abs (ca_cons (ce_var 0) ca_nil)); refine css_cons ?_ ?_; refine cs_set (i := 1) ?_ ?_ ?_ ?_; exact sc__law_common.nd; rfl; (first | exact .inl rfl | exact .inr rfl); exact (c_abs (by rfl) m_abs (ca_cons (ce_var 1) ca_nil)); refine css_cons ?_ ?_; exact (cs_while WH ps0 (ct_cmp bin_gt (CE.cb (ce_var 1)) (CE.cb ce_int)) (css_cons (cs_set (i := 2) sc__law_common.nd rfl (by first | exact .inl rfl | exact .inr rfl) (ce_op bin_mod (c_int (by rfl) m_int (ca_cons (ce_var 0) ca_nil)) (ce_var 1))) (css_cons (cs_set (i := 0) sc__law_common.nd rfl (by first | exact .inl rfl | exact .inr rfl) (ce_var 1)) (css_one (cs_set (i := 1) sc__law_common.nd rfl (by first | exact .inl rfl | exact .inr rfl) (ce_var 2)))))); refine css_one ?_; refine cs_ret ?_; exact (ce_var 0)))
theorem ok__law_lowest {f : Addr} {fd : FuncData} (Fn : Fun K "_law_lowest" "_law_lowest" s__law_lowest f fd) (hb : Binds K fd ["above", "below"] []) (hm : mg "_law_lowest" = some (.ref f)) (D__law_common : Dfn P w K mg base "_law_common" 1 2 F__law_common) : Dfn P w K mg base "_law_lowest" 2 2 F__law_lowest :=
  dfn_of (B := B__law_lowest) Fn sc__law_lowest hb hm (fun cdv A outer s H E hr => (by refine css_cons ?_ ?_; refine cs_if ?_ ?_ ?_; exact (ct_cmp bin_lt (CE.cb (ce_var 1)) (CE.cb ce_int)); refine css_cons ?_ ?_; refine cs_set (i := 0) ?_ ?_ ?_ ?_; exact sc__law_lowest.nd; rfl; (first | exact .inl rfl | exact .inr rfl); exact (ce_un un_negD (ce_var 0)); refine css_one ?_; refine cs_set (i := 1) ?_ ?_ ?_ ?_; exact sc__law_lowest.nd; rfl; (first | exact .inl rfl | exact .inr rfl); exact (ce_un un_negD (ce_var 1)); exact css_nil; refine css_cons ?_ ?_; refine cs_set (i := 2) ?_ ?_ ?_ ?_; exact sc__law_lowest.nd; rfl; (first | exact .inl rfl | exact .inr rfl); exact (c_call D__law_common hr (by first | decide | omega) tk0 (by rfl) (ca_cons (ce_var 0) (ca_cons (ce_var 1) ca_nil))); refine css_one ?_; refine cs_ret ?_; refine ce_tup ?_; refine ca_k ?_ ?_; refine ce_op ?_ ?_ ?_; exact bin_div; exact (ce_var 0); exact (ce_var 2); refine ca_k ?_ ?_; refine ce_op ?_ ?_ ?_; exact bin_div; exact (ce_var 1); exact (ce_var 2); exact ca_nil))
theorem ok__law_is_ratio {f : Addr} {fd : FuncData} (Fn : Fun K "_law_is_ratio" "_law_is_ratio" s__law_is_ratio f fd) (hb : Binds K fd ["value"] []) (hm : mg "_law_is_ratio" = some (.ref f)) (D__law_common : Dfn P w K mg base "_law_common" 1 2 F__law_common) (m_bool : mg "bool" = none) (m_int : mg "int" = none) (m_isinstance : mg "isinstance" = none) (m_len : mg "len" = none) (m_tuple : mg "tuple" = none) : Dfn P w K mg base "_law_is_ratio" 2 1 F__law_is_ratio :=
  dfn_of (B := B__law_is_ratio) Fn sc__law_is_ratio hb hm (fun cdv A outer s H E hr => (by refine css_cons ?_ ?_; refine cs_if ?_ ?_ ?_; exact (CW.ct (cw_or (ct_not (ct_tru (CE.cb (c_isi_tuple (by rfl) m_isinstance (by rfl) m_tuple (CE.cb (ce_var 0)))))) (cw_or1 (ct_cmp (bin_ne hr.units) (CE.cb (c_len (by rfl) m_len (ca_cons (ce_var 0) ca_nil))) (CE.cb ce_int))))); refine css_one ?_; refine cs_ret ?_; exact ce_bl; exact css_nil; refine css_cons ?_ ?_; refine cs_for ps0 rfl ?_ (cg_name 1 sc__law_is_ratio.nd rfl (by first | exact .inl rfl | exact .inr rfl)) ?_; exact (ci_seq (ce_var 0)); refine css_one ?_; refine cs_if ?_ ?_ ?_; exact (CW.ct (cw_or (ct_not (ct_tru (CE.cb (c_isi_int (by rfl) m_isinstance (by rfl) m_int (CE.cb (ce_var 1)))))) (cw_or1 (ct_tru (CE.cb (c_isi_bool (by rfl) m_isinstance (by rfl) m_bool (CE.cb (ce_var 1)))))))); refine css_one ?_; refine cs_ret ?_; exact ce_bl; exact css_nil; refine css_one ?_; refine cs_ret ?_; exact (ce_and (ce_cmp bin_gt (CE.cb (ce_ix (ce_var 0) ce_int)) (CE.cb ce_int)) (ce_one (ce_cmp (bin_eq hr.units) (CE.cb (c_call D__law_common hr (by first | decide | omega) tk0 (by rfl) (ca_cons (ce_ix (ce_var 0) ce_int) (ca_cons (ce_ix (ce_var 0) ce_int) ca_nil)))) (CE.cb ce_int))))))
theorem ok__law_value {f : Addr} {fd : FuncData} (Fn : Fun K "_law_value" "_law_value" s__law_value f fd) (hb : Binds K fd ["one", "other", "choice"] []) (hm : mg "_law_value" = some (.ref f)) (D__law_lowest : Dfn P w K mg base "_law_lowest" 2 2 F__law_lowest) (m_abs : mg "abs" = none) (m_int : mg "int" = none) (m_list : mg "list" = none) : Dfn P w K mg base "_law_value" 3 3 F__law_value :=
  dfn_of (B := B__law_value) Fn sc__law_value hb hm (fun cdv A outer s H E hr => (by refine css_cons ?_ ?_; refine cs_if ?_ ?_ ?_; exact (ct_cmp (bin_eq hr.units) (CE.cb (ce_var 2)) (CE.cb ce_int)); refine css_one ?_; refine cs_ret ?_; exact (c_call D__law_lowest hr (by first | decide | omega) tk0 (by rfl) (ca_cons (ce_var 0) (ca_cons (ce_op bin_add (c_abs (by rfl) m_abs (ca_cons (ce_var 1) ca_nil)) ce_int) ca_nil))); exact css_nil; refine css_cons ?_ ?_; refine cs_if ?_ ?_ ?_; exact (ct_cmp (bin_eq hr.units) (CE.cb (ce_var 2)) (CE.cb ce_int)); refine css_one ?_; refine cs_ret ?_; refine ce_tup ?_; refine ca_k ?_ ?_; exact (ce_var 0); refine ca_k ?_ ?_; exact (ce_var 1); exact ca_nil; exact css_nil; refine css_cons ?_ ?_; refine cs_if ?_ ?_ ?_; exact (ct_cmp (bin_eq hr.units) (CE.cb (ce_var 2)) (CE.cb ce_int)); refine css_one ?_; refine cs_ret ?_; refine ce_tup ?_; refine ca_k ?_ ?_; refine ce_op ?_ ?_ ?_; exact bin_mulX; exact (ce_var 0); exact ce_int; refine ca_k ?_ ?_; refine ce_op ?_ ?_ ?_; exact bin_mulX; exact (c_abs (by rfl) m_abs (ca_cons (ce_var 1) ca_nil)); exact ce_int; exact ca_nil; exact css_nil; refine css_cons ?_ ?_; refine cs_if ?_ ?_ ?_; exact (ct_cmp (bin_eq hr.units) (CE.cb (ce_var 2)) (CE.cb ce_int)); refine css_cons ?_ ?_; refine cs_set (i := 3) ?_ ?_ ?_ ?_; exact sc__law_value.nd; rfl; (first | exact .inl rfl | exact .inr rfl); exact (c_call D__law_lowest hr (by first | decide | omega) tk0 (by rfl) (ca_cons (ce_var 0) (ca_cons (ce_op bin_add (c_abs (by rfl) m_abs (ca_cons (ce_var 1) ca_nil)) ce_int) ca_nil))); refine css_one ?_; refine cs_ret ?_; refine ce_tup ?_; refine ca_k ?_ ?_; refine ce_ix ?_ ?_; exact (ce_var 3); exact ce_int; refine ca_k ?_ ?_; exact (ce_un un_negD (ce_ix (ce_var 3) ce_int)); exact ca_nil; exact css_nil; refine css_cons ?_ ?_; refine cs_if ?_ ?_ ?_; exact (ct_cmp (bin_eq hr.units) (CE.cb (ce_var 2)) (CE.cb ce_int)); refine css_one ?_; refine cs_ret ?_; refine ce_tup ?_; refine ca_k ?_ ?_; exact (ce_var 0); refine ca_k ?_ ?_; refine ce_op ?_ ?_ ?_; exact bin_add; exact ce_int; exact (c_abs (by rfl) m_abs (ca_cons (ce_var 0) ca_nil)); exact ca_nil; exact css_nil; refine css_cons ?_ ?_; refine cs_if ?_ ?_ ?_; exact (ct_cmp (bin_eq hr.units) (CE.cb (ce_var 2)) (CE.cb ce_int)); refine css_one ?_; refine cs_ret ?_; refine CL.ce ?_; exact (cl_list (c_call D__law_lowest hr (by first | decide | omega) tk0 (by rfl) (ca_cons (ce_var 0) (ca_cons (ce_op bin_add (c_abs (by rfl) m_abs (ca_cons (ce_var 1) ca_nil)) ce_int) ca_nil))) (by rfl) m_list); exact css_nil; refine css_cons ?_ ?_; refine cs_if ?_ ?_ ?_; exact (ct_cmp (bin_eq hr.units) (CE.cb (ce_var 2)) (CE.cb ce_int)); refine css_one ?_; refine cs_ret ?_; refine ce_ix ?_ ?_; refine CL.ce ?_; refine cl_lst ?_; refine ca_k ?_ ?_; refine ce_tup ?_; refine ca_k ?_ ?_; exact ce_bl; refine ca_k ?_ ?_; exact ce_int; exact ca_nil; refine ca_k ?_ ?_; refine ce_tup ?_; refine ca_k ?_ ?_; exact ce_int; refine ca_k ?_ ?_; exact ce_bl; exact ca_nil; refine ca_k ?_ ?_; refine ce_tup ?_; refine ca_k ?_ ?_; exact ce_bl; refine ca_k ?_ ?_; exact ce_int; exact ca_nil; refine ca_k ?_ ?_; refine ce_tup ?_; refine ca_k ?_ ?_; exact ce_int; refine ca_k ?_ ?_; exact ce_bl; exact ca_nil; exact ca_nil; refine ce_op ?_ ?_ ?_; exact bin_mod; exact (c_int (by rfl) m_int (ca_cons (ce_var 0) ca_nil)); exact ce_int; exact css_nil; refine css_cons ?_ ?_; refine cs_if ?_ ?_ ?_; exact (ct_cmp (bin_eq hr.units) (CE.cb (ce_var 2)) (CE.cb ce_int)); refine css_one ?_; refine cs_ret ?_; refine ce_ix ?_ ?_; refine CL.ce ?_; refine cl_lst ?_; refine ca_k ?_ ?_; refine ce_tup ?_; exact ca_nil; refine ca_k ?_ ?_; refine ce_tup ?_; refine ca_k ?_ ?_; exact (ce_var 0); exact ca_nil; refine ca_k ?_ ?_; refine ce_tup ?_; refine ca_k ?_ ?_; exact (ce_var 0); refine ca_k ?_ ?_; exact ce_int; refine ca_k ?_ ?_; exact ce_int; exact ca_nil; refine ca_k ?_ ?_; refine ce_tup ?_; refine ca_k ?_ ?_; exact (ce_var 0); refine ca_k ?_ ?_; exact ce_non; exact ca_nil; refine ca_k ?_ ?_; refine ce_tup ?_; refine ca_k ?_ ?_; exact ce_str; refine ca_k ?_ ?_; exact ce_str; exact ca_nil; refine ca_k ?_ ?_; refine ce_tup ?_; refine ca_k ?_ ?_; exact ce_str; refine ca_k ?_ ?_; exact ce_int; exact ca_nil; refine ca_k ?_ ?_; refine ce_tup ?_; refine ca_k ?_ ?_; exact ce_int; refine ca_k ?_ ?_; exact ce_str; exact ca_nil; refine ca_k ?_ ?_; refine ce_tup ?_; refine ca_k ?_ ?_; refine ce_tup ?_; refine ca_k ?_ ?_; exact ce_int; refine ca_k ?_ ?_; exact ce_int; exact ca_nil; refine ca_k ?_ ?_; exact ce_int; exact ca_nil; exact ca_nil; refine ce_op ?_ ?_ ?_; exact bin_mod; exact (c_int (by rfl) m_int (ca_cons (ce_var 0) ca_nil)); exact ce_int; exact css_nil; refine css_cons ?_ ?_; refine cs_if ?_ ?_ ?_; exact (ct_cmp (bin_eq hr.units) (CE.cb (ce_var 2)) (CE.cb ce_int)); refine css_one ?_; refine cs_ret ?_; refine ce_ix ?_ ?_; refine CL.ce ?_; refine cl_lst ?_; refine ca_k ?_ ?_; exact ce_non; refine ca_k ?_ ?_; exact ce_str; refine ca_k ?_ ?_; exact (ce_var 0); refine ca_k ?_ ?_; exact ce_bl; refine ca_k ?_ ?_; refine ce_tup ?_; refine ca_k ?_ ?_; exact ce_int; refine ca_k ?_ ?_; refine ce_tup ?_; refine ca_k ?_ ?_; exact ce_int; refine ca_k ?_ ?_; exact ce_int; exact ca_nil; exact ca_nil; exact ca_nil; refine ce_op ?_ ?_ ?_; exact bin_mod; exact (c_int (by rfl) m_int (ca_cons (ce_var 1) ca_nil)); exact ce_int; exact css_nil; refine css_cons ?_ ?_; refine cs_if ?_ ?_ ?_; exact (ct_cmp (bin_eq hr.units) (CE.cb (ce_var 2)) (CE.cb ce_int)); refine css_one ?_; refine cs_ret ?_; refine ce_tup ?_; refine ca_k ?_ ?_; exact ce_int; refine ca_k ?_ ?_; refine ce_op ?_ ?_ ?_; exact bin_add; exact ce_int; exact (c_abs (by rfl) m_abs (ca_cons (ce_var 1) ca_nil)); exact ca_nil; exact css_nil; refine css_cons ?_ ?_; refine cs_if ?_ ?_ ?_; exact (ct_cmp (bin_eq hr.units) (CE.cb (ce_var 2)) (CE.cb ce_int)); refine css_one ?_; refine cs_ret ?_; refine ce_tup ?_; refine ca_k ?_ ?_; exact (ce_var 0); refine ca_k ?_ ?_; exact ce_int; exact ca_nil; exact css_nil; refine css_one ?_; refine cs_ret ?_; refine ce_tup ?_; refine ca_k ?_ ?_; exact (ce_var 0); refine ca_k ?_ ?_; exact ce_int; exact ca_nil))
theorem ok__law_classes {a_BadJoin a_BadNetwork a_BadPoint a_BadRatio a_BadText a_ByZero : Addr} {f : Addr} {fd : FuncData} (Fn : Fun K "_law_classes" "_law_classes" s__law_classes f fd) (hb : Binds K fd ["error"] []) (hm : mg "_law_classes" = some (.ref f)) (m_isinstance : mg "isinstance" = none) (x_BadJoin : XC K mg "BadJoin" a_BadJoin) (x_BadNetwork : XC2 K mg "BadNetwork" a_BadNetwork) (x_BadPoint : XC K mg "BadPoint" a_BadPoint) (x_BadRatio : XC K mg "BadRatio" a_BadRatio) (x_BadText : XC2 K mg "BadText" a_BadText) (x_ByZero : XC K mg "ByZero" a_ByZero) (e_BadJoin : ExcC K a_BadJoin) (e_BadNetwork : ExcC K a_BadNetwork) (e_BadPoint : ExcC K a_BadPoint) (e_BadRatio : ExcC K a_BadRatio) (e_BadText : ExcC K a_BadText) (e_ByZero : ExcC K a_ByZero) (i_ByZero_ByZero : PySem.W.kitOne K (.ref a_ByZero) (.ref a_ByZero) = some true) (i_ByZero_BadRatio : PySem.W.kitOne K (.ref a_ByZero) (.ref a_BadRatio) = some false) (i_ByZero_BadPoint : PySem.W.kitOne K (.ref a_ByZero) (.ref a_BadPoint) = some false) (i_ByZero_BadJoin : PySem.W.kitOne K (.ref a_ByZero) (.ref a_BadJoin) = some false) (i_ByZero_BadNetwork : PySem.W.kitOne K (.ref a_ByZero) (.ref a_BadNetwork) = some false) (i_ByZero_BadText : PySem.W.kitOne K (.ref a_ByZero) (.ref a_BadText) = some false) (i_BadRatio_ByZero : PySem.W.kitOne K (.ref a_BadRatio) (.ref a_ByZero) = some false) (i_BadRatio_BadRatio : PySem.W.kitOne K (.ref a_BadRatio) (.ref a_BadRatio) = some true) (i_BadRatio_BadPoint : PySem.W.kitOne K (.ref a_BadRatio) (.ref a_BadPoint) = some false) (i_BadRatio_BadJoin : PySem.W.kitOne K (.ref a_BadRatio) (.ref a_BadJoin) = some false) (i_BadRatio_BadNetwork : PySem.W.kitOne K (.ref a_BadRatio) (.ref a_BadNetwork) = some false) (i_BadRatio_BadText : PySem.W.kitOne K (.ref a_BadRatio) (.ref a_BadText) = some false) (i_BadPoint_ByZero : PySem.W.kitOne K (.ref a_BadPoint) (.ref a_ByZero) = some false) (i_BadPoint_BadRatio : PySem.W.kitOne K (.ref a_BadPoint) (.ref a_BadRatio) = some false) (i_BadPoint_BadPoint : PySem.W.kitOne K (.ref a_BadPoint) (.ref a_BadPoint) = some true) (i_BadPoint_BadJoin : PySem.W.kitOne K (.ref a_BadPoint) (.ref a_BadJoin) = some false) (i_BadPoint_BadNetwork : PySem.W.kitOne K (.ref a_BadPoint) (.ref a_BadNetwork) = some false) (i_BadPoint_BadText : PySem.W.kitOne K (.ref a_BadPoint) (.ref a_BadText) = some false) (i_BadJoin_ByZero : PySem.W.kitOne K (.ref a_BadJoin) (.ref a_ByZero) = some false) (i_BadJoin_BadRatio : PySem.W.kitOne K (.ref a_BadJoin) (.ref a_BadRatio) = some false) (i_BadJoin_BadPoint : PySem.W.kitOne K (.ref a_BadJoin) (.ref a_BadPoint) = some false) (i_BadJoin_BadJoin : PySem.W.kitOne K (.ref a_BadJoin) (.ref a_BadJoin) = some true) (i_BadJoin_BadNetwork : PySem.W.kitOne K (.ref a_BadJoin) (.ref a_BadNetwork) = some false) (i_BadJoin_BadText : PySem.W.kitOne K (.ref a_BadJoin) (.ref a_BadText) = some false) (i_BadNetwork_ByZero : PySem.W.kitOne K (.ref a_BadNetwork) (.ref a_ByZero) = some false) (i_BadNetwork_BadRatio : PySem.W.kitOne K (.ref a_BadNetwork) (.ref a_BadRatio) = some false) (i_BadNetwork_BadPoint : PySem.W.kitOne K (.ref a_BadNetwork) (.ref a_BadPoint) = some false) (i_BadNetwork_BadJoin : PySem.W.kitOne K (.ref a_BadNetwork) (.ref a_BadJoin) = some false) (i_BadNetwork_BadNetwork : PySem.W.kitOne K (.ref a_BadNetwork) (.ref a_BadNetwork) = some true) (i_BadNetwork_BadText : PySem.W.kitOne K (.ref a_BadNetwork) (.ref a_BadText) = some false) (i_BadText_ByZero : PySem.W.kitOne K (.ref a_BadText) (.ref a_ByZero) = some false) (i_BadText_BadRatio : PySem.W.kitOne K (.ref a_BadText) (.ref a_BadRatio) = some false) (i_BadText_BadPoint : PySem.W.kitOne K (.ref a_BadText) (.ref a_BadPoint) = some false) (i_BadText_BadJoin : PySem.W.kitOne K (.ref a_BadText) (.ref a_BadJoin) = some false) (i_BadText_BadNetwork : PySem.W.kitOne K (.ref a_BadText) (.ref a_BadNetwork) = some false) (i_BadText_BadText : PySem.W.kitOne K (.ref a_BadText) (.ref a_BadText) = some true) : DfnX P w K mg base "_law_classes" 1 [(a_ByZero, [true, false, false, false, false, false]), (a_BadRatio, [false, true, false, false, false, false]), (a_BadPoint, [false, false, true, false, false, false]), (a_BadJoin, [false, false, false, true, false, false]), (a_BadNetwork, [false, false, false, false, true, false]), (a_BadText, [false, false, false, false, false, true])] :=
  dfnX_of (N := ["error", "found"]) (ps := ["error"]) (B := B__law_classes) Fn sc__law_classes rfl (by decide) hb hm (fun cdv A outer s H E hr a C fs ts hM => by
    have hT : ExcC K C ∧ PySem.W.kitOne K (.ref C) (.ref a_ByZero) = some (ts.getD 0 false) ∧ PySem.W.kitOne K (.ref C) (.ref a_BadRatio) = some (ts.getD 1 false) ∧ PySem.W.kitOne K (.ref C) (.ref a_BadPoint) = some (ts.getD 2 false) ∧ PySem.W.kitOne K (.ref C) (.ref a_BadJoin) = some (ts.getD 3 false) ∧ PySem.W.kitOne K (.ref C) (.ref a_BadNetwork) = some (ts.getD 4 false) ∧ PySem.W.kitOne K (.ref C) (.ref a_BadText) = some (ts.getD 5 false) := by
      simp only [List.mem_cons, List.not_mem_nil, or_false, Prod.mk.injEq] at hM
      rcases hM with ⟨rfl, rfl⟩ | ⟨rfl, rfl⟩ | ⟨rfl, rfl⟩ | ⟨rfl, rfl⟩ | ⟨rfl, rfl⟩ | ⟨rfl, rfl⟩
      · exact ⟨e_ByZero, i_ByZero_ByZero, i_ByZero_BadRatio, i_ByZero_BadPoint, i_ByZero_BadJoin, i_ByZero_BadNetwork, i_ByZero_BadText⟩
      · exact ⟨e_BadRatio, i_BadRatio_ByZero, i_BadRatio_BadRatio, i_BadRatio_BadPoint, i_BadRatio_BadJoin, i_BadRatio_BadNetwork, i_BadRatio_BadText⟩
      · exact ⟨e_BadPoint, i_BadPoint_ByZero, i_BadPoint_BadRatio, i_BadPoint_BadPoint, i_BadPoint_BadJoin, i_BadPoint_BadNetwork, i_BadPoint_BadText⟩
      · exact ⟨e_BadJoin, i_BadJoin_ByZero, i_BadJoin_BadRatio, i_BadJoin_BadPoint, i_BadJoin_BadJoin, i_BadJoin_BadNetwork, i_BadJoin_BadText⟩
      · exact ⟨e_BadNetwork, i_BadNetwork_ByZero, i_BadNetwork_BadRatio, i_BadNetwork_BadPoint, i_BadNetwork_BadJoin, i_BadNetwork_BadNetwork, i_BadNetwork_BadText⟩
      · exact ⟨e_BadText, i_BadText_ByZero, i_BadText_BadRatio, i_BadText_BadPoint, i_BadText_BadJoin, i_BadText_BadNetwork, i_BadText_BadText⟩
    letI := oneZ a C fs; exact (by refine css_cons ?_ ?_; refine cs_set (i := 1) ?_ ?_ ?_ ?_; exact sc__law_classes.nd; rfl; (first | exact .inl rfl | exact .inr rfl); refine CL.ce ?_; refine cl_lst ?_; refine ca_k ?_ ?_; exact (ce_is1 (i := 0) hT.1 hT.2.1 (by rfl) m_isinstance (by rfl) x_ByZero.gg); refine ca_k ?_ ?_; exact (ce_is1 (i := 0) hT.1 hT.2.2.1 (by rfl) m_isinstance (by rfl) x_BadRatio.gg); refine ca_k ?_ ?_; exact (ce_is1 (i := 0) hT.1 hT.2.2.2.1 (by rfl) m_isinstance (by rfl) x_BadPoint.gg); exact ca_nil; refine css_cons ?_ ?_; refine cs_set (i := 1) ?_ ?_ ?_ ?_; exact sc__law_classes.nd; rfl; (first | exact .inl rfl | exact .inr rfl); refine ce_op ?_ ?_ ?_; exact bin_addX; exact (ce_var 1); refine CL.ce ?_; refine cl_lst ?_; refine ca_k ?_ ?_; exact (ce_is1 (i := 0) hT.1 hT.2.2.2.2.1 (by rfl) m_isinstance (by rfl) x_BadJoin.gg); refine ca_k ?_ ?_; exact (ce_is1 (i := 0) hT.1 hT.2.2.2.2.2.1 (by rfl) m_isinstance (by rfl) x_BadNetwork.gg); refine ca_k ?_ ?_; exact (ce_is1 (i := 0) hT.1 hT.2.2.2.2.2.2 (by rfl) m_isinstance (by rfl) x_BadText.gg); exact ca_nil; refine css_one ?_; refine cs_ret ?_; exact (ce_var 1))) (fun C ts hM => by
    simp only [List.mem_cons, List.not_mem_nil, or_false, Prod.mk.injEq] at hM
    rcases hM with ⟨rfl, rfl⟩ | ⟨rfl, rfl⟩ | ⟨rfl, rfl⟩ | ⟨rfl, rfl⟩ | ⟨rfl, rfl⟩ | ⟨rfl, rfl⟩ <;> rfl)
theorem ok__law_errors {a_BadJoin a_BadNetwork a_BadPoint a_BadRatio a_BadText a_ByZero a_KinkError : Addr} {f : Addr} {fd : FuncData} (Fn : Fun K "_law_errors" "_law_errors" s__law_errors f fd) (hb : Binds K fd [] []) (hm : mg "_law_errors" = some (.ref f)) (D__law_classes : DfnX P w K mg base "_law_classes" 1 [(a_ByZero, [true, false, false, false, false, false]), (a_BadRatio, [false, true, false, false, false, false]), (a_BadPoint, [false, false, true, false, false, false]), (a_BadJoin, [false, false, false, true, false, false]), (a_BadNetwork, [false, false, false, false, true, false]), (a_BadText, [false, false, false, false, false, true])]) (m_ValueError : mg "ValueError" = none) (m_isinstance : mg "isinstance" = none) (m_len : mg "len" = none) (m_range : mg "range" = none) (x_BadJoin : XC K mg "BadJoin" a_BadJoin) (x_BadNetwork : XC2 K mg "BadNetwork" a_BadNetwork) (x_BadPoint : XC K mg "BadPoint" a_BadPoint) (x_BadRatio : XC K mg "BadRatio" a_BadRatio) (x_BadText : XC2 K mg "BadText" a_BadText) (x_ByZero : XC K mg "ByZero" a_ByZero) (x_KinkError : XC K mg "KinkError" a_KinkError) (E_BadNetwork : ErrC P w K mg base "BadNetwork" 1 (fun C => spErr2 K C "layer" "reason")) (E_BadText : ErrC P w K mg base "BadText" 1 (fun C => spErr1 K C "row")) (T_BadNetwork : XfC K a_BadNetwork) (T_BadText : XfC K a_BadText) (g_BadNetwork_layer : PySem.W.findIn K (.ref a_BadNetwork) "layer" = some none) (g_BadNetwork_reason : PySem.W.findIn K (.ref a_BadNetwork) "reason" = some none) (g_BadText_row : PySem.W.findIn K (.ref a_BadText) "row" = some none) (e_BadJoin : ExcC K a_BadJoin) (e_BadNetwork : ExcC K a_BadNetwork) (e_BadPoint : ExcC K a_BadPoint) (e_BadRatio : ExcC K a_BadRatio) (e_BadText : ExcC K a_BadText) (e_ByZero : ExcC K a_ByZero) (i_ByZero_KinkError : PySem.W.kitOne K (.ref a_ByZero) (.ref a_KinkError) = some true) (i_BadRatio_KinkError : PySem.W.kitOne K (.ref a_BadRatio) (.ref a_KinkError) = some true) (i_BadPoint_KinkError : PySem.W.kitOne K (.ref a_BadPoint) (.ref a_KinkError) = some true) (i_BadJoin_KinkError : PySem.W.kitOne K (.ref a_BadJoin) (.ref a_KinkError) = some true) (i_BadNetwork_KinkError : PySem.W.kitOne K (.ref a_BadNetwork) (.ref a_KinkError) = some true) (i_BadText_KinkError : PySem.W.kitOne K (.ref a_BadText) (.ref a_KinkError) = some true) (vv_ByZero : PySem.W.kitOne K (.ref a_ByZero) (.type "ValueError") = some true) (vv_BadRatio : PySem.W.kitOne K (.ref a_BadRatio) (.type "ValueError") = some true) (vv_BadPoint : PySem.W.kitOne K (.ref a_BadPoint) (.type "ValueError") = some true) (vv_BadJoin : PySem.W.kitOne K (.ref a_BadJoin) (.type "ValueError") = some true) (vv_BadNetwork : PySem.W.kitOne K (.ref a_BadNetwork) (.type "ValueError") = some true) (vv_BadText : PySem.W.kitOne K (.ref a_BadText) (.type "ValueError") = some true) : Dfn P w K mg base "_law_errors" 3 0 F__law_errors :=
  dfnE_of (N := ["made", "k", "j"]) (B := B__law_errors) (i := 0) (cs := [(a_ByZero, []), (a_BadRatio, []), (a_BadPoint, []), (a_BadJoin, []), (a_BadNetwork, [("reason", .str "size"), ("layer", .int 2)]), (a_BadText, [("row", .int 7)])]) Fn sc__law_errors hb hm rfl rfl (by show 6 ≤ sizeLine; decide) rfl (fun cdv A outer s H E hr => ⟨(mks_cons (mk_own0 PySem.F.excBase_ValueError x_ByZero.xx x_ByZero.gg x_ByZero.kk (raises_own x_ByZero.bb x_ByZero.tt) (by rfl)) (mks_cons (mk_own0 PySem.F.excBase_ValueError x_BadRatio.xx x_BadRatio.gg x_BadRatio.kk (raises_own x_BadRatio.bb x_BadRatio.tt) (by rfl)) (mks_cons (mk_own0 PySem.F.excBase_ValueError x_BadPoint.xx x_BadPoint.gg x_BadPoint.kk (raises_own x_BadPoint.bb x_BadPoint.tt) (by rfl)) (mks_cons (mk_own0 PySem.F.excBase_ValueError x_BadJoin.xx x_BadJoin.gg x_BadJoin.kk (raises_own x_BadJoin.bb x_BadJoin.tt) (by rfl)) (mks_cons (mk_err2 E_BadNetwork x_BadNetwork.gg hr (by first | decide | omega) tk0 (by rfl) pe_int pe_str (.inl ⟨2, rfl, by decide +kernel⟩) (.inr ⟨"size", rfl, by decide +kernel⟩)) (mks_cons (mk_err1 E_BadText x_BadText.gg hr (by first | decide | omega) tk0 (by rfl) pe_int (.inl ⟨7, rfl, by decide +kernel⟩)) mks_nil)))))), rfl, fun q xs hX => by letI := excZ q xs; exact (by refine css_cons ?_ ?_; refine cs_for ps0 rfl ?_ (cg_name 1 sc__law_errors.nd rfl (by first | exact .inl rfl | exact .inr rfl)) ?_; exact (ci_range1 (ce_eln (i := 0) (ys := [.none, .none, .none, .none, .none, .none]) (hl := hX.len) (by rfl) m_len) (by rfl) m_range); refine css_cons ?_ ?_; refine cs_if ?_ ?_ ?_; exact (CW.ct (cw_or (ct_not (ct_tru (CE.cb (ce_eis (i := 0) (c := .ref a_KinkError) (cv := .ref a_KinkError) (ys := [.bool true, .bool true, .bool true, .bool true, .bool true, .bool true]) (pe_glob (by rfl) x_KinkError.gg rfl (by decide)) (fun u hu => hu) (ar_is hX (.cons ⟨true, rfl, e_ByZero, i_ByZero_KinkError⟩ (.cons ⟨true, rfl, e_BadRatio, i_BadRatio_KinkError⟩ (.cons ⟨true, rfl, e_BadPoint, i_BadPoint_KinkError⟩ (.cons ⟨true, rfl, e_BadJoin, i_BadJoin_KinkError⟩ (.cons ⟨true, rfl, e_BadNetwork, i_BadNetwork_KinkError⟩ (.cons ⟨true, rfl, e_BadText, i_BadText_KinkError⟩ .nil))))))) (ce_var 1) (by rfl) m_isinstance)))) (cw_or1 (ct_not (ct_tru (CE.cb (ce_eis (i := 0) (c := .ty "ValueError") (cv := .type "ValueError") (ys := [.bool true, .bool true, .bool true, .bool true, .bool true, .bool true]) (pe_bltn (by rfl) m_ValueError rfl rfl (by decide) (by decide)) (fun u hu => hu) (ar_is hX (.cons ⟨true, rfl, e_ByZero, vv_ByZero⟩ (.cons ⟨true, rfl, e_BadRatio, vv_BadRatio⟩ (.cons ⟨true, rfl, e_BadPoint, vv_BadPoint⟩ (.cons ⟨true, rfl, e_BadJoin, vv_BadJoin⟩ (.cons ⟨true, rfl, e_BadNetwork, vv_BadNetwork⟩ (.cons ⟨true, rfl, e_BadText, vv_BadText⟩ .nil))))))) (ce_var 1) (by rfl) m_isinstance))))))); refine css_one ?_; refine cs_ret ?_; exact ce_bl; exact css_nil; refine css_one ?_; refine cs_if ?_ ?_ ?_; exact (ct_cmp (bin_ne hr.units) (CE.cb (ce_ecl (i := 0) (ys := [.list [.bool true, .bool false, .bool false, .bool false, .bool false, .bool false], .list [.bool false, .bool true, .bool false, .bool false, .bool false, .bool false], .list [.bool false, .bool false, .bool true, .bool false, .bool false, .bool false], .list [.bool false, .bool false, .bool false, .bool true, .bool false, .bool false], .list [.bool false, .bool false, .bool false, .bool false, .bool true, .bool false], .list [.bool false, .bool false, .bool false, .bool false, .bool false, .bool true]]) D__law_classes hr (by first | decide | omega) tk0 (by rfl) (ar_cl hX (.cons ⟨[true, false, false, false, false, false], rfl, by simp⟩ (.cons ⟨[false, true, false, false, false, false], rfl, by simp⟩ (.cons ⟨[false, false, true, false, false, false], rfl, by simp⟩ (.cons ⟨[false, false, false, true, false, false], rfl, by simp⟩ (.cons ⟨[false, false, false, false, true, false], rfl, by simp⟩ (.cons ⟨[false, false, false, false, false, true], rfl, by simp⟩ .nil))))))) (ce_var 1))) (CE.cb (CL.ce (cl_comp (own := [("j", 2)]) rfl sc__law_errors.nd (blkOk_by (own := [("j", 2)]) (N := ["made", "k", "j"]) (sc := defScope (topS 24)) (by decide +kernel)) (ci_range1 (ce_eln (i := 0) (ys := [.none, .none, .none, .none, .none, .none]) (hl := hX.len) (by rfl) m_len) (by rfl) m_range) (fun _ _ _ _ _ => (cg_name 2 sc__law_errors.nd rfl (by first | exact .inl rfl | exact .inr rfl))) (by decide) (fun _ _ _ _ _ => cts_nil) (fun _ _ _ _ _ => (ce_cmp (bin_eq hr.units) (CE.cb (ce_var 1)) (CE.cb (ce_var 2)))))))); refine css_one ?_; refine cs_ret ?_; exact ce_bl; exact css_nil; refine css_cons ?_ ?_; refine cs_if ?_ ?_ ?_; exact (CW.ct (cw_or (ct_cmp (bin_ne hr.units) (CE.cb (ce_efl (i := 0) (ys := [.none, .none, .none, .none, .int 2, .none]) (ar_fl hX (.cons (.inl rfl) (.cons (.inl rfl) (.cons (.inl rfl) (.cons (.inl rfl) (.cons (.inr ⟨.int 2, T_BadNetwork, g_BadNetwork_layer, rfl, fun _ => .int _⟩) (.cons (.inl rfl) .nil))))))) ce_int (fun env y h => by cases h; exact fun z => by cases z))) (CE.cb ce_int)) (cw_or (ct_cmp (bin_ne hr.units) (CE.cb (ce_efl (i := 0) (ys := [.none, .none, .none, .none, .str "size", .none]) (ar_fl hX (.cons (.inl rfl) (.cons (.inl rfl) (.cons (.inl rfl) (.cons (.inl rfl) (.cons (.inr ⟨.str "size", T_BadNetwork, g_BadNetwork_reason, rfl, fun _ => .str _⟩) (.cons (.inl rfl) .nil))))))) ce_int (fun env y h => by cases h; exact fun z => by cases z))) (CE.cb ce_str)) (cw_or1 (ct_cmp (bin_ne hr.units) (CE.cb (ce_efl (i := 0) (ys := [.none, .none, .none, .none, .none, .int 7]) (ar_fl hX (.cons (.inl rfl) (.cons (.inl rfl) (.cons (.inl rfl) (.cons (.inl rfl) (.cons (.inl rfl) (.cons (.inr ⟨.int 7, T_BadText, g_BadText_row, rfl, fun _ => .int _⟩) .nil))))))) ce_int (fun env y h => by cases h; exact fun z => by cases z))) (CE.cb ce_int)))))); refine css_one ?_; refine cs_ret ?_; exact ce_bl; exact css_nil; refine css_one ?_; refine cs_ret ?_; exact ce_bl)⟩) (by rfl)
theorem ok_law {f : Addr} {fd : FuncData} (Fn : Fun K "law" "law" s_law f fd) (D__law_cell : Dfn P w K mg base "_law_cell" 1 2 F__law_cell) (D__law_errors : Dfn P w K mg base "_law_errors" 3 0 F__law_errors) (D__law_is_ratio : Dfn P w K mg base "_law_is_ratio" 2 1 F__law_is_ratio) (D__law_value : Dfn P w K mg base "_law_value" 3 3 F__law_value) (D_is_integer : Dfn P w K mg base "is_integer" 1 1 F_is_integer) (D_is_ratio : Dfn P w K mg base "is_ratio" 2 1 F_is_ratio) (m_bool : mg "bool" = none) (m_int : mg "int" = none) (m_isinstance : mg "isinstance" = none) (m_len : mg "len" = none) (m_max : mg "max" = none) (m_range : mg "range" = none) (c_HALF : GTup K mg "HALF" [1, 2]) (c_MOST_FIGURES : GInt mg "MOST_FIGURES" 600) (c_MOST_INPUTS : GInt mg "MOST_INPUTS" 1000) (c_ONE : GTup K mg "ONE" [1, 1]) (c_ZERO : GTup K mg "ZERO" [0, 1]) : FnOk P w K mg base (L2.CX P w) 4 f fd ["script"] (spD K mg 1 F_law) :=
  okD Fn sc_law B_law fun cdv A outer s H E hr => (by refine css_cons ?_ ?_; refine cs_if ?_ ?_ ?_; exact (CW.ct (cw_or (ct_not (ct_tru (CE.cb (c_call0 D__law_errors hr (by first | decide | omega) tk0 (by rfl))))) (cw_or1 (ct_cmp (bin_ne hr.units) (CE.cb (CL.ce (cl_lst (ca_cons (c_gI (by rfl) c_MOST_INPUTS) (ca_cons (c_gI (by rfl) c_MOST_FIGURES) ca_nil))))) (CE.cb (CL.ce (cl_lst (ca_cons ce_int (ca_cons ce_int ca_nil))))))))); refine css_one ?_; refine cs_ret ?_; exact ce_bl; exact css_nil; refine css_cons ?_ ?_; refine cs_if ?_ ?_ ?_; exact (ct_cmp (bin_ne hr.units) (CE.cb (CL.ce (cl_lst (ca_cons (c_gT (ks := [0, 1]) (by rfl) c_ZERO) (ca_cons (c_gT (ks := [1, 1]) (by rfl) c_ONE) (ca_cons (c_gT (ks := [1, 2]) (by rfl) c_HALF) ca_nil)))))) (CE.cb (CL.ce (cl_lst (ca_cons (ce_tup (ca_cons ce_int (ca_cons ce_int ca_nil))) (ca_cons (ce_tup (ca_cons ce_int (ca_cons ce_int ca_nil))) (ca_cons (ce_tup (ca_cons ce_int (ca_cons ce_int ca_nil))) ca_nil))))))); refine css_one ?_; refine cs_ret ?_; exact ce_bl; exact css_nil; refine css_cons ?_ ?_; refine cs_for ps0 rfl ?_ (cg_name 1 sc_law.nd rfl (by first | exact .inl rfl | exact .inr rfl)) ?_; exact (ci_range1 (c_max rfl (by rfl) m_max (ca_cons ce_int (ca_cons (c_len (by rfl) m_len (ca_cons (ce_var 0) ca_nil)) ca_nil))) (by rfl) m_range); refine css_cons ?_ ?_; refine cs_set (i := 2) ?_ ?_ ?_ ?_; exact sc_law.nd; rfl; (first | exact .inl rfl | exact .inr rfl); exact (c_call D__law_cell hr (by first | decide | omega) tk0 (by rfl) (ca_cons (ce_var 0) (ca_cons (ce_var 1) ca_nil))); refine css_cons ?_ ?_; refine cs_set (i := 3) ?_ ?_ ?_ ?_; exact sc_law.nd; rfl; (first | exact .inl rfl | exact .inr rfl); exact (c_call D__law_cell hr (by first | decide | omega) tk0 (by rfl) (ca_cons (ce_var 0) (ca_cons (ce_op bin_add (ce_var 1) ce_int) ca_nil))); refine css_cons ?_ ?_; refine cs_for ps0 rfl ?_ (cg_name 4 sc_law.nd rfl (by first | exact .inl rfl | exact .inr rfl)) ?_; exact (ci_seq (CL.ce (cl_lst (ca_cons (ce_op bin_mod (c_int (by rfl) m_int (ca_cons (ce_var 2) ca_nil)) ce_int) (ca_cons (ce_op bin_mod (ce_op bin_div (c_int (by rfl) m_int (ca_cons (ce_var 2) ca_nil)) ce_int) ce_int) (ca_cons (ce_op bin_mod (c_int (by rfl) m_int (ca_cons (ce_op bin_add (ce_var 3) (ce_var 1)) ca_nil)) ce_int) ca_nil)))))); refine css_cons ?_ ?_; refine cs_set (i := 5) ?_ ?_ ?_ ?_; exact sc_law.nd; rfl; (first | exact .inl rfl | exact .inr rfl); exact (c_call D__law_value hr (by first | decide | omega) tk0 (by rfl) (ca_cons (ce_var 2) (ca_cons (ce_var 3) (ca_cons (ce_var 4) ca_nil)))); refine css_cons ?_ ?_; refine cs_set (i := 6) ?_ ?_ ?_ ?_; exact sc_law.nd; rfl; (first | exact .inl rfl | exact .inr rfl); exact (c_call D_is_ratio hr (by first | decide | omega) tk0 (by rfl) (ca_cons (ce_var 5) ca_nil)); refine css_one ?_; refine cs_if ?_ ?_ ?_; exact (CW.ct (cw_or (ct_not (ct_tru (CE.cb (c_isi_bool (by rfl) m_isinstance (by rfl) m_bool (CE.cb (ce_var 6)))))) (cw_or1 (ct_cmp (bin_ne hr.units) (CE.cb (ce_var 6)) (CE.cb (c_call D__law_is_ratio hr (by first | decide | omega) tk0 (by rfl) (ca_cons (ce_var 5) ca_nil))))))); refine css_one ?_; refine cs_ret ?_; exact ce_bl; exact css_nil; refine css_cons ?_ ?_; refine cs_for ps0 rfl ?_ (cg_name 5 sc_law.nd rfl (by first | exact .inl rfl | exact .inr rfl)) ?_; exact (ci_seq (CL.ce (cl_lst (ca_cons (ce_var 2) (ca_cons (ce_var 3) ca_nil))))); refine css_one ?_; refine cs_if ?_ ?_ ?_; exact (ct_cmp bin_isn (CE.cb (c_call D_is_integer hr (by first | decide | omega) tk0 (by rfl) (ca_cons (ce_var 5) ca_nil))) (CE.cb ce_bl)); refine css_one ?_; refine cs_ret ?_; exact ce_bl; exact css_nil; refine css_one ?_; refine cs_for ps0 rfl ?_ (cg_name 5 sc_law.nd rfl (by first | exact .inl rfl | exact .inr rfl)) ?_; exact (ci_seq (CL.ce (cl_lst (ca_cons ce_bl (ca_cons ce_bl (ca_cons ce_non (ca_cons ce_str (ca_cons (ce_tup (ca_cons ce_int (ca_cons ce_int ca_nil))) (ca_cons (CL.ce (cl_lst (ca_cons (ce_var 2) ca_nil))) ca_nil))))))))); refine css_one ?_; refine cs_if ?_ ?_ ?_; exact (ct_cmp bin_isn (CE.cb (c_call D_is_integer hr (by first | decide | omega) tk0 (by rfl) (ca_cons (ce_var 5) ca_nil))) (CE.cb ce_bl)); refine css_one ?_; refine cs_ret ?_; exact ce_bl; exact css_nil; refine css_one ?_; refine cs_ret ?_; exact ce_bl)
end
end KM
set_option Elab.async false
set_option linter.all false
set_option maxRecDepth 100000
set_option maxHeartbeats 4000000
namespace KM
open PySem PySem.Spec PyProof.Rows L2 PD
theorem all_mk {P : Program} {w : World} {K : PySem.W.Frag} {h : Heap} {mg : Str → Option Value} {fa : Addr} (X : K.In h) (G : h.Ns mainGlobals mg) (hfa : mg "law" = some (.ref fa))
    {f_is_integer : Addr} {od_is_integer an_is_integer : Option Addr} {sl_is_integer : Array (Option Value)} {oc_is_integer kV_is_integer dc_is_integer pm_is_integer cd_is_integer ct_is_integer : Value}
    {f_is_ratio : Addr} {od_is_ratio an_is_ratio : Option Addr} {sl_is_ratio : Array (Option Value)} {oc_is_ratio kV_is_ratio dc_is_ratio pm_is_ratio cd_is_ratio ct_is_ratio : Value}
    {f__law_cell : Addr} {od__law_cell an__law_cell : Option Addr} {sl__law_cell : Array (Option Value)} {oc__law_cell kV__law_cell dc__law_cell pm__law_cell cd__law_cell ct__law_cell : Value}
    {f__law_common : Addr} {od__law_common an__law_common : Option Addr} {sl__law_common : Array (Option Value)} {oc__law_common kV__law_common dc__law_common pm__law_common cd__law_common ct__law_common : Value}
    {f__law_lowest : Addr} {od__law_lowest an__law_lowest : Option Addr} {sl__law_lowest : Array (Option Value)} {oc__law_lowest kV__law_lowest dc__law_lowest pm__law_lowest cd__law_lowest ct__law_lowest : Value}
    {f__law_is_ratio : Addr} {od__law_is_ratio an__law_is_ratio : Option Addr} {sl__law_is_ratio : Array (Option Value)} {oc__law_is_ratio kV__law_is_ratio dc__law_is_ratio pm__law_is_ratio cd__law_is_ratio ct__law_is_ratio : Value}
    {f__law_value : Addr} {od__law_value an__law_value : Option Addr} {sl__law_value : Array (Option Value)} {oc__law_value kV__law_value dc__law_value pm__law_value cd__law_value ct__law_value : Value}
    {f__law_classes : Addr} {od__law_classes an__law_classes : Option Addr} {sl__law_classes : Array (Option Value)} {oc__law_classes kV__law_classes dc__law_classes pm__law_classes cd__law_classes ct__law_classes : Value}
    {f__law_errors : Addr} {od__law_errors an__law_errors : Option Addr} {sl__law_errors : Array (Option Value)} {oc__law_errors kV__law_errors dc__law_errors pm__law_errors cd__law_errors ct__law_errors : Value}
    {f_law : Addr} {od_law an_law : Option Addr} {sl_law : Array (Option Value)} {oc_law kV_law dc_law pm_law cd_law ct_law : Value}
    {C_HALF : Addr} {dC_HALF : Option Addr} {t0_HALF t1_HALF : Tok} {mC_HALF : Nat} {qC_HALF : Array (Option Value)}
    {t_MOST_FIGURES : Tok}
    {t_MOST_INPUTS : Tok}
    {C_ONE : Addr} {dC_ONE : Option Addr} {t0_ONE t1_ONE : Tok} {mC_ONE : Nat} {qC_ONE : Array (Option Value)}
    {C_ZERO : Addr} {dC_ZERO : Option Addr} {t0_ZERO t1_ZERO : Tok} {mC_ZERO : Nat} {qC_ZERO : Array (Option Value)}
    {a_BadJoin : Addr}
    {a_BadNetwork : Addr}
    {a_BadPoint : Addr}
    {a_BadRatio : Addr}
    {a_BadText : Addr}
    {a_ByZero : Addr}
    {a_KinkError : Addr}
    {fI_BadNetwork cc_BadNetwork cd_BadNetwork : Addr} {ocI_BadNetwork clI_BadNetwork ccI_BadNetwork dcI_BadNetwork pmI_BadNetwork ctI_BadNetwork : Value} {odI_BadNetwork cldI_BadNetwork cddI_BadNetwork anI_BadNetwork : Option Addr} {slI_BadNetwork cslI_BadNetwork ccsI_BadNetwork : Array (Option Value)} {vsI_BadNetwork : Array Value} {fileI_BadNetwork : Str} {tfI_BadNetwork : Tok}
    {fI_BadText cc_BadText cd_BadText : Addr} {ocI_BadText clI_BadText ccI_BadText dcI_BadText pmI_BadText ctI_BadText : Value} {odI_BadText cldI_BadText cddI_BadText anI_BadText : Option Addr} {slI_BadText cslI_BadText ccsI_BadText : Array (Option Value)} {vsI_BadText : Array Value} {fileI_BadText : Str} {tfI_BadText : Tok}
    (a_is_integer : PySem.W.nsIn K mainGlobals "is_integer" = some (some (.ref f_is_integer)))
    (l_is_integer : K.lookup f_is_integer = some ⟨oc_is_integer, od_is_integer, .func (PySem.W.fnOf "is_integer" "is_integer" (defArgs s_is_integer) (defBody s_is_integer) (defScope s_is_integer) .none kV_is_integer dc_is_integer pm_is_integer an_is_integer cd_is_integer ct_is_integer), sl_is_integer⟩)
    (c_is_integer : PySem.W.codeIn K cd_is_integer "is_integer" = true)
    (k_is_integer : PySem.W.keepIn K (.ref f_is_integer) = true)
    (a_is_ratio : PySem.W.nsIn K mainGlobals "is_ratio" = some (some (.ref f_is_ratio)))
    (l_is_ratio : K.lookup f_is_ratio = some ⟨oc_is_ratio, od_is_ratio, .func (PySem.W.fnOf "is_ratio" "is_ratio" (defArgs s_is_ratio) (defBody s_is_ratio) (defScope s_is_ratio) .none kV_is_ratio dc_is_ratio pm_is_ratio an_is_ratio cd_is_ratio ct_is_ratio), sl_is_ratio⟩)
    (c_is_ratio : PySem.W.codeIn K cd_is_ratio "is_ratio" = true)
    (k_is_ratio : PySem.W.keepIn K (.ref f_is_ratio) = true)
    (a__law_cell : PySem.W.nsIn K mainGlobals "_law_cell" = some (some (.ref f__law_cell)))
    (l__law_cell : K.lookup f__law_cell = some ⟨oc__law_cell, od__law_cell, .func (PySem.W.fnOf "_law_cell" "_law_cell" (defArgs s__law_cell) (defBody s__law_cell) (defScope s__law_cell) .none kV__law_cell dc__law_cell pm__law_cell an__law_cell cd__law_cell ct__law_cell), sl__law_cell⟩)
    (c__law_cell : PySem.W.codeIn K cd__law_cell "_law_cell" = true)
    (k__law_cell : PySem.W.keepIn K (.ref f__law_cell) = true)
    (a__law_common : PySem.W.nsIn K mainGlobals "_law_common" = some (some (.ref f__law_common)))
    (l__law_common : K.lookup f__law_common = some ⟨oc__law_common, od__law_common, .func (PySem.W.fnOf "_law_common" "_law_common" (defArgs s__law_common) (defBody s__law_common) (defScope s__law_common) .none kV__law_common dc__law_common pm__law_common an__law_common cd__law_common ct__law_common), sl__law_common⟩)
    (c__law_common : PySem.W.codeIn K cd__law_common "_law_common" = true)
    (k__law_common : PySem.W.keepIn K (.ref f__law_common) = true)
    (a__law_lowest : PySem.W.nsIn K mainGlobals "_law_lowest" = some (some (.ref f__law_lowest)))
    (l__law_lowest : K.lookup f__law_lowest = some ⟨oc__law_lowest, od__law_lowest, .func (PySem.W.fnOf "_law_lowest" "_law_lowest" (defArgs s__law_lowest) (defBody s__law_lowest) (defScope s__law_lowest) .none kV__law_lowest dc__law_lowest pm__law_lowest an__law_lowest cd__law_lowest ct__law_lowest), sl__law_lowest⟩)
    (c__law_lowest : PySem.W.codeIn K cd__law_lowest "_law_lowest" = true)
    (k__law_lowest : PySem.W.keepIn K (.ref f__law_lowest) = true)
    (a__law_is_ratio : PySem.W.nsIn K mainGlobals "_law_is_ratio" = some (some (.ref f__law_is_ratio)))
    (l__law_is_ratio : K.lookup f__law_is_ratio = some ⟨oc__law_is_ratio, od__law_is_ratio, .func (PySem.W.fnOf "_law_is_ratio" "_law_is_ratio" (defArgs s__law_is_ratio) (defBody s__law_is_ratio) (defScope s__law_is_ratio) .none kV__law_is_ratio dc__law_is_ratio pm__law_is_ratio an__law_is_ratio cd__law_is_ratio ct__law_is_ratio), sl__law_is_ratio⟩)
    (c__law_is_ratio : PySem.W.codeIn K cd__law_is_ratio "_law_is_ratio" = true)
    (k__law_is_ratio : PySem.W.keepIn K (.ref f__law_is_ratio) = true)
    (a__law_value : PySem.W.nsIn K mainGlobals "_law_value" = some (some (.ref f__law_value)))
    (l__law_value : K.lookup f__law_value = some ⟨oc__law_value, od__law_value, .func (PySem.W.fnOf "_law_value" "_law_value" (defArgs s__law_value) (defBody s__law_value) (defScope s__law_value) .none kV__law_value dc__law_value pm__law_value an__law_value cd__law_value ct__law_value), sl__law_value⟩)
    (c__law_value : PySem.W.codeIn K cd__law_value "_law_value" = true)
    (k__law_value : PySem.W.keepIn K (.ref f__law_value) = true)
    (a__law_classes : PySem.W.nsIn K mainGlobals "_law_classes" = some (some (.ref f__law_classes)))
    (l__law_classes : K.lookup f__law_classes = some ⟨oc__law_classes, od__law_classes, .func (PySem.W.fnOf "_law_classes" "_law_classes" (defArgs s__law_classes) (defBody s__law_classes) (defScope s__law_classes) .none kV__law_classes dc__law_classes pm__law_classes an__law_classes cd__law_classes ct__law_classes), sl__law_classes⟩)
    (c__law_classes : PySem.W.codeIn K cd__law_classes "_law_classes" = true)
    (k__law_classes : PySem.W.keepIn K (.ref f__law_classes) = true)
    (a__law_errors : PySem.W.nsIn K mainGlobals "_law_errors" = some (some (.ref f__law_errors)))
    (l__law_errors : K.lookup f__law_errors = some ⟨oc__law_errors, od__law_errors, .func (PySem.W.fnOf "_law_errors" "_law_errors" (defArgs s__law_errors) (defBody s__law_errors) (defScope s__law_errors) .none kV__law_errors dc__law_errors pm__law_errors an__law_errors cd__law_errors ct__law_errors), sl__law_errors⟩)
    (c__law_errors : PySem.W.codeIn K cd__law_errors "_law_errors" = true)
    (k__law_errors : PySem.W.keepIn K (.ref f__law_errors) = true)
    (a_law : PySem.W.nsIn K mainGlobals "law" = some (some (.ref f_law)))
    (l_law : K.lookup f_law = some ⟨oc_law, od_law, .func (PySem.W.fnOf "law" "law" (defArgs s_law) (defBody s_law) (defScope s_law) .none kV_law dc_law pm_law an_law cd_law ct_law), sl_law⟩)
    (c_law : PySem.W.codeIn K cd_law "law" = true)
    (k_law : PySem.W.keepIn K (.ref f_law) = true)
    (n_ValueError : PySem.W.nsIn K mainGlobals "ValueError" = some none)
    (n_abs : PySem.W.nsIn K mainGlobals "abs" = some none)
    (n_bool : PySem.W.nsIn K mainGlobals "bool" = some none)
    (n_gcd : PySem.W.nsIn K mainGlobals "gcd" = some (some (.builtin "math.gcd")))
    (n_int : PySem.W.nsIn K mainGlobals "int" = some none)
    (n_isinstance : PySem.W.nsIn K mainGlobals "isinstance" = some none)
    (n_len : PySem.W.nsIn K mainGlobals "len" = some none)
    (n_list : PySem.W.nsIn K mainGlobals "list" = some none)
    (n_max : PySem.W.nsIn K mainGlobals "max" = some none)
    (n_range : PySem.W.nsIn K mainGlobals "range" = some none)
    (n_tuple : PySem.W.nsIn K mainGlobals "tuple" = some none)
    (g_HALF : PySem.W.nsIn K mainGlobals "HALF" = some (some (.ref C_HALF)))
    (h_HALF : K.lookup C_HALF = some ⟨.type "tuple", dC_HALF, .seq #[.int 1 t0_HALF, .int 2 t1_HALF] mC_HALF, qC_HALF⟩)
    (g_MOST_FIGURES : PySem.W.nsIn K mainGlobals "MOST_FIGURES" = some (some (.int 600 t_MOST_FIGURES)))
    (g_MOST_INPUTS : PySem.W.nsIn K mainGlobals "MOST_INPUTS" = some (some (.int 1000 t_MOST_INPUTS)))
    (g_ONE : PySem.W.nsIn K mainGlobals "ONE" = some (some (.ref C_ONE)))
    (h_ONE : K.lookup C_ONE = some ⟨.type "tuple", dC_ONE, .seq #[.int 1 t0_ONE, .int 1 t1_ONE] mC_ONE, qC_ONE⟩)
    (g_ZERO : PySem.W.nsIn K mainGlobals "ZERO" = some (some (.ref C_ZERO)))
    (h_ZERO : K.lookup C_ZERO = some ⟨.type "tuple", dC_ZERO, .seq #[.int 0 t0_ZERO, .int 1 t1_ZERO] mC_ZERO, qC_ZERO⟩)
    (xg_BadJoin : PySem.W.nsIn K mainGlobals "BadJoin" = some (some (.ref a_BadJoin)))
    (xx_BadJoin : PySem.W.excIn K a_BadJoin [.type "ValueError", .type "Exception", .type "BaseException", .type "object"] "ValueError.__new__" = true)
    (xk_BadJoin : PySem.W.keepIn K (.ref a_BadJoin) = true)
    (xb_BadJoin : PySem.W.subIn K (.ref a_BadJoin) (.type "BaseException") = some true)
    (xt_BadJoin : PySem.W.typeIn K (.ref a_BadJoin) = some (.type "type"))
    (xg_BadNetwork : PySem.W.nsIn K mainGlobals "BadNetwork" = some (some (.ref a_BadNetwork)))
    (xk_BadNetwork : PySem.W.keepIn K (.ref a_BadNetwork) = true)
    (xb_BadNetwork : PySem.W.subIn K (.ref a_BadNetwork) (.type "BaseException") = some true)
    (xt_BadNetwork : PySem.W.typeIn K (.ref a_BadNetwork) = some (.type "type"))
    (xg_BadPoint : PySem.W.nsIn K mainGlobals "BadPoint" = some (some (.ref a_BadPoint)))
    (xx_BadPoint : PySem.W.excIn K a_BadPoint [.type "ValueError", .type "Exception", .type "BaseException", .type "object"] "ValueError.__new__" = true)
    (xk_BadPoint : PySem.W.keepIn K (.ref a_BadPoint) = true)
    (xb_BadPoint : PySem.W.subIn K (.ref a_BadPoint) (.type "BaseException") = some true)
    (xt_BadPoint : PySem.W.typeIn K (.ref a_BadPoint) = some (.type "type"))
    (xg_BadRatio : PySem.W.nsIn K mainGlobals "BadRatio" = some (some (.ref a_BadRatio)))
    (xx_BadRatio : PySem.W.excIn K a_BadRatio [.type "ValueError", .type "Exception", .type "BaseException", .type "object"] "ValueError.__new__" = true)
    (xk_BadRatio : PySem.W.keepIn K (.ref a_BadRatio) = true)
    (xb_BadRatio : PySem.W.subIn K (.ref a_BadRatio) (.type "BaseException") = some true)
    (xt_BadRatio : PySem.W.typeIn K (.ref a_BadRatio) = some (.type "type"))
    (xg_BadText : PySem.W.nsIn K mainGlobals "BadText" = some (some (.ref a_BadText)))
    (xk_BadText : PySem.W.keepIn K (.ref a_BadText) = true)
    (xb_BadText : PySem.W.subIn K (.ref a_BadText) (.type "BaseException") = some true)
    (xt_BadText : PySem.W.typeIn K (.ref a_BadText) = some (.type "type"))
    (xg_ByZero : PySem.W.nsIn K mainGlobals "ByZero" = some (some (.ref a_ByZero)))
    (xx_ByZero : PySem.W.excIn K a_ByZero [.type "ValueError", .type "Exception", .type "BaseException", .type "object"] "ValueError.__new__" = true)
    (xk_ByZero : PySem.W.keepIn K (.ref a_ByZero) = true)
    (xb_ByZero : PySem.W.subIn K (.ref a_ByZero) (.type "BaseException") = some true)
    (xt_ByZero : PySem.W.typeIn K (.ref a_ByZero) = some (.type "type"))
    (xg_KinkError : PySem.W.nsIn K mainGlobals "KinkError" = some (some (.ref a_KinkError)))
    (xx_KinkError : PySem.W.excIn K a_KinkError [.type "ValueError", .type "Exception", .type "BaseException", .type "object"] "ValueError.__new__" = true)
    (xk_KinkError : PySem.W.keepIn K (.ref a_KinkError) = true)
    (xb_KinkError : PySem.W.subIn K (.ref a_KinkError) (.type "BaseException") = some true)
    (xt_KinkError : PySem.W.typeIn K (.ref a_KinkError) = some (.type "type"))
    (nsuper : PySem.W.nsIn K mainGlobals "super" = some none)
    (opq : PySem.W.nsIn K cStatics "thirdparty.any" = some none)
    (ptop : (P.main.scope.names.lookup ("super" : Str)).isSome = false)
    (iC_BadNetwork : PySem.W.findIn K (.ref a_BadNetwork) "__init__" = some (some (.ref fI_BadNetwork)))
    (tI_BadNetwork : PySem.W.typeIn K (.ref fI_BadNetwork) = some (.type "function"))
    (lI_BadNetwork : K.lookup fI_BadNetwork = some ⟨ocI_BadNetwork, odI_BadNetwork, .func (PySem.W.fnX "__init__" "BadNetwork.__init__" (defArgs s_init_BadNetwork) (defBody s_init_BadNetwork) (defScope s_init_BadNetwork) [("__class__", cc_BadNetwork)] .none .none dcI_BadNetwork pmI_BadNetwork anI_BadNetwork (.ref cd_BadNetwork) ctI_BadNetwork), slI_BadNetwork⟩)
    (cdI_BadNetwork : PySem.W.codeIn K (.ref cd_BadNetwork) "BadNetwork.__init__" = true)
    (ceI_BadNetwork : K.lookup cc_BadNetwork = some ⟨clI_BadNetwork, cldI_BadNetwork, .cell (some (.ref a_BadNetwork)), cslI_BadNetwork⟩)
    (coI_BadNetwork : K.lookup cd_BadNetwork = some ⟨ccI_BadNetwork, cddI_BadNetwork, .fields vsI_BadNetwork, ccsI_BadNetwork⟩)
    (fiI_BadNetwork : vsI_BadNetwork[2]? = some (.str fileI_BadNetwork tfI_BadNetwork))
    (fjI_BadNetwork : ((P.main.file : Str) == fileI_BadNetwork) = true)
    (oxI_BadNetwork : oexB K a_BadNetwork = true)
    (saI_BadNetwork : PySem.W.findIn K (.ref a_BadNetwork) "__setattr__" = some (some (.builtin "object.__setattr__")))
    (mrI_BadNetwork : PySem.W.mroIn K a_BadNetwork (.ref a_BadNetwork) = some true)
    (suI_BadNetwork : PySem.W.ks_superIn K a_BadNetwork a_BadNetwork "__init__" = some (some (.builtin "ValueError.__init__")))
    (veI_BadNetwork : PySem.W.subIn K (.ref a_BadNetwork) (.type "ValueError") = some true)
    (iC_BadText : PySem.W.findIn K (.ref a_BadText) "__init__" = some (some (.ref fI_BadText)))
    (tI_BadText : PySem.W.typeIn K (.ref fI_BadText) = some (.type "function"))
    (lI_BadText : K.lookup fI_BadText = some ⟨ocI_BadText, odI_BadText, .func (PySem.W.fnX "__init__" "BadText.__init__" (defArgs s_init_BadText) (defBody s_init_BadText) (defScope s_init_BadText) [("__class__", cc_BadText)] .none .none dcI_BadText pmI_BadText anI_BadText (.ref cd_BadText) ctI_BadText), slI_BadText⟩)
    (cdI_BadText : PySem.W.codeIn K (.ref cd_BadText) "BadText.__init__" = true)
    (ceI_BadText : K.lookup cc_BadText = some ⟨clI_BadText, cldI_BadText, .cell (some (.ref a_BadText)), cslI_BadText⟩)
    (coI_BadText : K.lookup cd_BadText = some ⟨ccI_BadText, cddI_BadText, .fields vsI_BadText, ccsI_BadText⟩)
    (fiI_BadText : vsI_BadText[2]? = some (.str fileI_BadText tfI_BadText))
    (fjI_BadText : ((P.main.file : Str) == fileI_BadText) = true)
    (oxI_BadText : oexB K a_BadText = true)
    (saI_BadText : PySem.W.findIn K (.ref a_BadText) "__setattr__" = some (some (.builtin "object.__setattr__")))
    (mrI_BadText : PySem.W.mroIn K a_BadText (.ref a_BadText) = some true)
    (suI_BadText : PySem.W.ks_superIn K a_BadText a_BadText "__init__" = some (some (.builtin "ValueError.__init__")))
    (veI_BadText : PySem.W.subIn K (.ref a_BadText) (.type "ValueError") = some true)
    (g_BadNetwork_layer : PySem.W.findIn K (.ref a_BadNetwork) "layer" = some none)
    (g_BadNetwork_reason : PySem.W.findIn K (.ref a_BadNetwork) "reason" = some none)
    (g_BadText_row : PySem.W.findIn K (.ref a_BadText) "row" = some none)
    (tx_BadNetwork : xfB K a_BadNetwork = true)
    (tx_BadText : xfB K a_BadText = true)
    (y_BadJoin : PySem.W.isClsIn K a_BadJoin = true)
    (y_BadNetwork : PySem.W.isClsIn K a_BadNetwork = true)
    (y_BadPoint : PySem.W.isClsIn K a_BadPoint = true)
    (y_BadRatio : PySem.W.isClsIn K a_BadRatio = true)
    (y_BadText : PySem.W.isClsIn K a_BadText = true)
    (y_ByZero : PySem.W.isClsIn K a_ByZero = true)
    (y_KinkError : PySem.W.isClsIn K a_KinkError = true)
    (ehg_BadJoin : PySem.W.findIn K (.ref a_BadJoin) "__getattribute__" = some (some (.builtin "BaseException.__getattribute__")))
    (ehk_BadJoin : PySem.W.findIn K (.ref a_BadJoin) "__getattr__" = some none)
    (ehs_BadJoin : PySem.W.subIn K (.ref a_BadJoin) (.type "BaseException") = some true)
    (ehd_BadJoin : PySem.W.hasDictIn K a_BadJoin = true)
    (eha_BadJoin : PySem.W.findIn K (.ref a_BadJoin) "__class__" = some (some (.builtin "object.__class__")))
    (ehn_BadJoin : PySem.W.specialIn K (.builtin "object.__class__") "__get__" = some (some (.builtin "getset_descriptor.__get__")))
    (eht_BadJoin : PySem.W.takesIn K (.builtin "object.__class__") = some true)
    (ehm_BadJoin : PySem.W.mroIn K a_BadJoin (.type "object") = some true)
    (ehg_BadNetwork : PySem.W.findIn K (.ref a_BadNetwork) "__getattribute__" = some (some (.builtin "BaseException.__getattribute__")))
    (ehk_BadNetwork : PySem.W.findIn K (.ref a_BadNetwork) "__getattr__" = some none)
    (ehs_BadNetwork : PySem.W.subIn K (.ref a_BadNetwork) (.type "BaseException") = some true)
    (ehd_BadNetwork : PySem.W.hasDictIn K a_BadNetwork = true)
    (eha_BadNetwork : PySem.W.findIn K (.ref a_BadNetwork) "__class__" = some (some (.builtin "object.__class__")))
    (ehn_BadNetwork : PySem.W.specialIn K (.builtin "object.__class__") "__get__" = some (some (.builtin "getset_descriptor.__get__")))
    (eht_BadNetwork : PySem.W.takesIn K (.builtin "object.__class__") = some true)
    (ehm_BadNetwork : PySem.W.mroIn K a_BadNetwork (.type "object") = some true)
    (ehg_BadPoint : PySem.W.findIn K (.ref a_BadPoint) "__getattribute__" = some (some (.builtin "BaseException.__getattribute__")))
    (ehk_BadPoint : PySem.W.findIn K (.ref a_BadPoint) "__getattr__" = some none)
    (ehs_BadPoint : PySem.W.subIn K (.ref a_BadPoint) (.type "BaseException") = some true)
    (ehd_BadPoint : PySem.W.hasDictIn K a_BadPoint = true)
    (eha_BadPoint : PySem.W.findIn K (.ref a_BadPoint) "__class__" = some (some (.builtin "object.__class__")))
    (ehn_BadPoint : PySem.W.specialIn K (.builtin "object.__class__") "__get__" = some (some (.builtin "getset_descriptor.__get__")))
    (eht_BadPoint : PySem.W.takesIn K (.builtin "object.__class__") = some true)
    (ehm_BadPoint : PySem.W.mroIn K a_BadPoint (.type "object") = some true)
    (ehg_BadRatio : PySem.W.findIn K (.ref a_BadRatio) "__getattribute__" = some (some (.builtin "BaseException.__getattribute__")))
    (ehk_BadRatio : PySem.W.findIn K (.ref a_BadRatio) "__getattr__" = some none)
    (ehs_BadRatio : PySem.W.subIn K (.ref a_BadRatio) (.type "BaseException") = some true)
    (ehd_BadRatio : PySem.W.hasDictIn K a_BadRatio = true)
    (eha_BadRatio : PySem.W.findIn K (.ref a_BadRatio) "__class__" = some (some (.builtin "object.__class__")))
    (ehn_BadRatio : PySem.W.specialIn K (.builtin "object.__class__") "__get__" = some (some (.builtin "getset_descriptor.__get__")))
    (eht_BadRatio : PySem.W.takesIn K (.builtin "object.__class__") = some true)
    (ehm_BadRatio : PySem.W.mroIn K a_BadRatio (.type "object") = some true)
    (ehg_BadText : PySem.W.findIn K (.ref a_BadText) "__getattribute__" = some (some (.builtin "BaseException.__getattribute__")))
    (ehk_BadText : PySem.W.findIn K (.ref a_BadText) "__getattr__" = some none)
    (ehs_BadText : PySem.W.subIn K (.ref a_BadText) (.type "BaseException") = some true)
    (ehd_BadText : PySem.W.hasDictIn K a_BadText = true)
    (eha_BadText : PySem.W.findIn K (.ref a_BadText) "__class__" = some (some (.builtin "object.__class__")))
    (ehn_BadText : PySem.W.specialIn K (.builtin "object.__class__") "__get__" = some (some (.builtin "getset_descriptor.__get__")))
    (eht_BadText : PySem.W.takesIn K (.builtin "object.__class__") = some true)
    (ehm_BadText : PySem.W.mroIn K a_BadText (.type "object") = some true)
    (ehg_ByZero : PySem.W.findIn K (.ref a_ByZero) "__getattribute__" = some (some (.builtin "BaseException.__getattribute__")))
    (ehk_ByZero : PySem.W.findIn K (.ref a_ByZero) "__getattr__" = some none)
    (ehs_ByZero : PySem.W.subIn K (.ref a_ByZero) (.type "BaseException") = some true)
    (ehd_ByZero : PySem.W.hasDictIn K a_ByZero = true)
    (eha_ByZero : PySem.W.findIn K (.ref a_ByZero) "__class__" = some (some (.builtin "object.__class__")))
    (ehn_ByZero : PySem.W.specialIn K (.builtin "object.__class__") "__get__" = some (some (.builtin "getset_descriptor.__get__")))
    (eht_ByZero : PySem.W.takesIn K (.builtin "object.__class__") = some true)
    (ehm_ByZero : PySem.W.mroIn K a_ByZero (.type "object") = some true)
    (vb_ByZero : PySem.W.subIn K (.ref a_ByZero) (.type "ValueError") = some true)
    (vb_BadRatio : PySem.W.subIn K (.ref a_BadRatio) (.type "ValueError") = some true)
    (vb_BadPoint : PySem.W.subIn K (.ref a_BadPoint) (.type "ValueError") = some true)
    (vb_BadJoin : PySem.W.subIn K (.ref a_BadJoin) (.type "ValueError") = some true)
    (vb_BadNetwork : PySem.W.subIn K (.ref a_BadNetwork) (.type "ValueError") = some true)
    (vb_BadText : PySem.W.subIn K (.ref a_BadText) (.type "ValueError") = some true)
    (w_BadJoin_BadJoin : PySem.W.subIn K (.ref a_BadJoin) (.ref a_BadJoin) = some true)
    (w_BadJoin_BadNetwork : PySem.W.subIn K (.ref a_BadJoin) (.ref a_BadNetwork) = some false)
    (v_BadJoin_BadNetwork : (Value.ref a_BadJoin == Value.ref a_BadNetwork) = false)
    (w_BadJoin_BadPoint : PySem.W.subIn K (.ref a_BadJoin) (.ref a_BadPoint) = some false)
    (v_BadJoin_BadPoint : (Value.ref a_BadJoin == Value.ref a_BadPoint) = false)
    (w_BadJoin_BadRatio : PySem.W.subIn K (.ref a_BadJoin) (.ref a_BadRatio) = some false)
    (v_BadJoin_BadRatio : (Value.ref a_BadJoin == Value.ref a_BadRatio) = false)
    (w_BadJoin_BadText : PySem.W.subIn K (.ref a_BadJoin) (.ref a_BadText) = some false)
    (v_BadJoin_BadText : (Value.ref a_BadJoin == Value.ref a_BadText) = false)
    (w_BadJoin_ByZero : PySem.W.subIn K (.ref a_BadJoin) (.ref a_ByZero) = some false)
    (v_BadJoin_ByZero : (Value.ref a_BadJoin == Value.ref a_ByZero) = false)
    (w_BadJoin_KinkError : PySem.W.subIn K (.ref a_BadJoin) (.ref a_KinkError) = some true)
    (w_BadNetwork_BadJoin : PySem.W.subIn K (.ref a_BadNetwork) (.ref a_BadJoin) = some false)
    (v_BadNetwork_BadJoin : (Value.ref a_BadNetwork == Value.ref a_BadJoin) = false)
    (w_BadNetwork_BadNetwork : PySem.W.subIn K (.ref a_BadNetwork) (.ref a_BadNetwork) = some true)
    (w_BadNetwork_BadPoint : PySem.W.subIn K (.ref a_BadNetwork) (.ref a_BadPoint) = some false)
    (v_BadNetwork_BadPoint : (Value.ref a_BadNetwork == Value.ref a_BadPoint) = false)
    (w_BadNetwork_BadRatio : PySem.W.subIn K (.ref a_BadNetwork) (.ref a_BadRatio) = some false)
    (v_BadNetwork_BadRatio : (Value.ref a_BadNetwork == Value.ref a_BadRatio) = false)
    (w_BadNetwork_BadText : PySem.W.subIn K (.ref a_BadNetwork) (.ref a_BadText) = some false)
    (v_BadNetwork_BadText : (Value.ref a_BadNetwork == Value.ref a_BadText) = false)
    (w_BadNetwork_ByZero : PySem.W.subIn K (.ref a_BadNetwork) (.ref a_ByZero) = some false)
    (v_BadNetwork_ByZero : (Value.ref a_BadNetwork == Value.ref a_ByZero) = false)
    (w_BadNetwork_KinkError : PySem.W.subIn K (.ref a_BadNetwork) (.ref a_KinkError) = some true)
    (w_BadPoint_BadJoin : PySem.W.subIn K (.ref a_BadPoint) (.ref a_BadJoin) = some false)
    (v_BadPoint_BadJoin : (Value.ref a_BadPoint == Value.ref a_BadJoin) = false)
    (w_BadPoint_BadNetwork : PySem.W.subIn K (.ref a_BadPoint) (.ref a_BadNetwork) = some false)
    (v_BadPoint_BadNetwork : (Value.ref a_BadPoint == Value.ref a_BadNetwork) = false)
    (w_BadPoint_BadPoint : PySem.W.subIn K (.ref a_BadPoint) (.ref a_BadPoint) = some true)
    (w_BadPoint_BadRatio : PySem.W.subIn K (.ref a_BadPoint) (.ref a_BadRatio) = some false)
    (v_BadPoint_BadRatio : (Value.ref a_BadPoint == Value.ref a_BadRatio) = false)
    (w_BadPoint_BadText : PySem.W.subIn K (.ref a_BadPoint) (.ref a_BadText) = some false)
    (v_BadPoint_BadText : (Value.ref a_BadPoint == Value.ref a_BadText) = false)
    (w_BadPoint_ByZero : PySem.W.subIn K (.ref a_BadPoint) (.ref a_ByZero) = some false)
    (v_BadPoint_ByZero : (Value.ref a_BadPoint == Value.ref a_ByZero) = false)
    (w_BadPoint_KinkError : PySem.W.subIn K (.ref a_BadPoint) (.ref a_KinkError) = some true)
    (w_BadRatio_BadJoin : PySem.W.subIn K (.ref a_BadRatio) (.ref a_BadJoin) = some false)
    (v_BadRatio_BadJoin : (Value.ref a_BadRatio == Value.ref a_BadJoin) = false)
    (w_BadRatio_BadNetwork : PySem.W.subIn K (.ref a_BadRatio) (.ref a_BadNetwork) = some false)
    (v_BadRatio_BadNetwork : (Value.ref a_BadRatio == Value.ref a_BadNetwork) = false)
    (w_BadRatio_BadPoint : PySem.W.subIn K (.ref a_BadRatio) (.ref a_BadPoint) = some false)
    (v_BadRatio_BadPoint : (Value.ref a_BadRatio == Value.ref a_BadPoint) = false)
    (w_BadRatio_BadRatio : PySem.W.subIn K (.ref a_BadRatio) (.ref a_BadRatio) = some true)
    (w_BadRatio_BadText : PySem.W.subIn K (.ref a_BadRatio) (.ref a_BadText) = some false)
    (v_BadRatio_BadText : (Value.ref a_BadRatio == Value.ref a_BadText) = false)
    (w_BadRatio_ByZero : PySem.W.subIn K (.ref a_BadRatio) (.ref a_ByZero) = some false)
    (v_BadRatio_ByZero : (Value.ref a_BadRatio == Value.ref a_ByZero) = false)
    (w_BadRatio_KinkError : PySem.W.subIn K (.ref a_BadRatio) (.ref a_KinkError) = some true)
    (w_BadText_BadJoin : PySem.W.subIn K (.ref a_BadText) (.ref a_BadJoin) = some false)
    (v_BadText_BadJoin : (Value.ref a_BadText == Value.ref a_BadJoin) = false)
    (w_BadText_BadNetwork : PySem.W.subIn K (.ref a_BadText) (.ref a_BadNetwork) = some false)
    (v_BadText_BadNetwork : (Value.ref a_BadText == Value.ref a_BadNetwork) = false)
    (w_BadText_BadPoint : PySem.W.subIn K (.ref a_BadText) (.ref a_BadPoint) = some false)
    (v_BadText_BadPoint : (Value.ref a_BadText == Value.ref a_BadPoint) = false)
    (w_BadText_BadRatio : PySem.W.subIn K (.ref a_BadText) (.ref a_BadRatio) = some false)
    (v_BadText_BadRatio : (Value.ref a_BadText == Value.ref a_BadRatio) = false)
    (w_BadText_BadText : PySem.W.subIn K (.ref a_BadText) (.ref a_BadText) = some true)
    (w_BadText_ByZero : PySem.W.subIn K (.ref a_BadText) (.ref a_ByZero) = some false)
    (v_BadText_ByZero : (Value.ref a_BadText == Value.ref a_ByZero) = false)
    (w_BadText_KinkError : PySem.W.subIn K (.ref a_BadText) (.ref a_KinkError) = some true)
    (w_ByZero_BadJoin : PySem.W.subIn K (.ref a_ByZero) (.ref a_BadJoin) = some false)
    (v_ByZero_BadJoin : (Value.ref a_ByZero == Value.ref a_BadJoin) = false)
    (w_ByZero_BadNetwork : PySem.W.subIn K (.ref a_ByZero) (.ref a_BadNetwork) = some false)
    (v_ByZero_BadNetwork : (Value.ref a_ByZero == Value.ref a_BadNetwork) = false)
    (w_ByZero_BadPoint : PySem.W.subIn K (.ref a_ByZero) (.ref a_BadPoint) = some false)
    (v_ByZero_BadPoint : (Value.ref a_ByZero == Value.ref a_BadPoint) = false)
    (w_ByZero_BadRatio : PySem.W.subIn K (.ref a_ByZero) (.ref a_BadRatio) = some false)
    (v_ByZero_BadRatio : (Value.ref a_ByZero == Value.ref a_BadRatio) = false)
    (w_ByZero_BadText : PySem.W.subIn K (.ref a_ByZero) (.ref a_BadText) = some false)
    (v_ByZero_BadText : (Value.ref a_ByZero == Value.ref a_BadText) = false)
    (w_ByZero_ByZero : PySem.W.subIn K (.ref a_ByZero) (.ref a_ByZero) = some true)
    (w_ByZero_KinkError : PySem.W.subIn K (.ref a_ByZero) (.ref a_KinkError) = some true)
    : ∃ fd : FuncData, (∀ (s : Shared) (u : Value), BindsTo s fd ⟨[u], []⟩ [("script", u)]) ∧ ∀ base : Heap, K.In base → base.Ns mainGlobals mg → FnOk P w K mg base (L2.CX P w) 4 fa fd ["script"] (@spLaw ⟨[]⟩ K) := by
  letI tbs : Tbs := ⟨[]⟩
  have e := hfa.symm.trans (PySem.W.mg_of X G a_law)
  cases e
  have U_is_integer := fun_mk (st := s_is_integer) l_is_integer c_is_integer k_is_integer
  have b_is_integer := U_is_integer.binds (ps := ["value"]) fun _ _ _ _ _ _ us hl => match us, hl with | [_], _ => rfl
  have U_is_ratio := fun_mk (st := s_is_ratio) l_is_ratio c_is_ratio k_is_ratio
  have b_is_ratio := U_is_ratio.binds (ps := ["value"]) fun _ _ _ _ _ _ us hl => match us, hl with | [_], _ => rfl
  have U__law_cell := fun_mk (st := s__law_cell) l__law_cell c__law_cell k__law_cell
  have b__law_cell := U__law_cell.binds (ps := ["script", "k"]) fun _ _ _ _ _ _ us hl => match us, hl with | [_, _], _ => rfl
  have U__law_common := fun_mk (st := s__law_common) l__law_common c__law_common k__law_common
  have b__law_common := U__law_common.binds (ps := ["one", "other"]) fun _ _ _ _ _ _ us hl => match us, hl with | [_, _], _ => rfl
  have U__law_lowest := fun_mk (st := s__law_lowest) l__law_lowest c__law_lowest k__law_lowest
  have b__law_lowest := U__law_lowest.binds (ps := ["above", "below"]) fun _ _ _ _ _ _ us hl => match us, hl with | [_, _], _ => rfl
  have U__law_is_ratio := fun_mk (st := s__law_is_ratio) l__law_is_ratio c__law_is_ratio k__law_is_ratio
  have b__law_is_ratio := U__law_is_ratio.binds (ps := ["value"]) fun _ _ _ _ _ _ us hl => match us, hl with | [_], _ => rfl
  have U__law_value := fun_mk (st := s__law_value) l__law_value c__law_value k__law_value
  have b__law_value := U__law_value.binds (ps := ["one", "other", "choice"]) fun _ _ _ _ _ _ us hl => match us, hl with | [_, _, _], _ => rfl
  have U__law_classes := fun_mk (st := s__law_classes) l__law_classes c__law_classes k__law_classes
  have b__law_classes := U__law_classes.binds (ps := ["error"]) fun _ _ _ _ _ _ us hl => match us, hl with | [_], _ => rfl
  have U__law_errors := fun_mk (st := s__law_errors) l__law_errors c__law_errors k__law_errors
  have b__law_errors := U__law_errors.binds (ps := []) fun _ _ _ _ _ _ us hl => match us, hl with | [], _ => rfl
  have U_law := fun_mk (st := s_law) l_law c_law k_law
  have m_ValueError := PySem.W.mg_none_of X G n_ValueError
  have m_abs := PySem.W.mg_none_of X G n_abs
  have m_bool := PySem.W.mg_none_of X G n_bool
  have m_gcd := PySem.W.mg_of X G n_gcd
  have m_int := PySem.W.mg_none_of X G n_int
  have m_isinstance := PySem.W.mg_none_of X G n_isinstance
  have m_len := PySem.W.mg_none_of X G n_len
  have m_list := PySem.W.mg_none_of X G n_list
  have m_max := PySem.W.mg_none_of X G n_max
  have m_range := PySem.W.mg_none_of X G n_range
  have m_tuple := PySem.W.mg_none_of X G n_tuple
  have c_HALF : GTup K mg "HALF" [1, 2] := ⟨C_HALF, _, _, mC_HALF, PySem.W.mg_of X G g_HALF, h_HALF, rfl, rfl, by show 2 ≤ sizeLine; decide, (.cons ⟨_, rfl⟩ (.cons ⟨_, rfl⟩ .nil))⟩
  have c_MOST_FIGURES : GInt mg "MOST_FIGURES" 600 := ⟨_, PySem.W.mg_of X G g_MOST_FIGURES⟩
  have c_MOST_INPUTS : GInt mg "MOST_INPUTS" 1000 := ⟨_, PySem.W.mg_of X G g_MOST_INPUTS⟩
  have c_ONE : GTup K mg "ONE" [1, 1] := ⟨C_ONE, _, _, mC_ONE, PySem.W.mg_of X G g_ONE, h_ONE, rfl, rfl, by show 2 ≤ sizeLine; decide, (.cons ⟨_, rfl⟩ (.cons ⟨_, rfl⟩ .nil))⟩
  have c_ZERO : GTup K mg "ZERO" [0, 1] := ⟨C_ZERO, _, _, mC_ZERO, PySem.W.mg_of X G g_ZERO, h_ZERO, rfl, rfl, by show 2 ≤ sizeLine; decide, (.cons ⟨_, rfl⟩ (.cons ⟨_, rfl⟩ .nil))⟩
  have x_BadJoin : XC K mg "BadJoin" a_BadJoin := ⟨PySem.W.mg_of X G xg_BadJoin, xx_BadJoin, xk_BadJoin, xb_BadJoin, xt_BadJoin⟩
  have x_BadNetwork : XC2 K mg "BadNetwork" a_BadNetwork := ⟨PySem.W.mg_of X G xg_BadNetwork, xk_BadNetwork, xb_BadNetwork, xt_BadNetwork⟩
  have x_BadPoint : XC K mg "BadPoint" a_BadPoint := ⟨PySem.W.mg_of X G xg_BadPoint, xx_BadPoint, xk_BadPoint, xb_BadPoint, xt_BadPoint⟩
  have x_BadRatio : XC K mg "BadRatio" a_BadRatio := ⟨PySem.W.mg_of X G xg_BadRatio, xx_BadRatio, xk_BadRatio, xb_BadRatio, xt_BadRatio⟩
  have x_BadText : XC2 K mg "BadText" a_BadText := ⟨PySem.W.mg_of X G xg_BadText, xk_BadText, xb_BadText, xt_BadText⟩
  have x_ByZero : XC K mg "ByZero" a_ByZero := ⟨PySem.W.mg_of X G xg_ByZero, xx_ByZero, xk_ByZero, xb_ByZero, xt_ByZero⟩
  have x_KinkError : XC K mg "KinkError" a_KinkError := ⟨PySem.W.mg_of X G xg_KinkError, xx_KinkError, xk_KinkError, xb_KinkError, xt_KinkError⟩
  have m_super := PySem.W.mg_none_of X G nsuper
  have T_BadNetwork := xfB_ok tx_BadNetwork
  have T_BadText := xfB_ok tx_BadText
  have e_BadJoin : ExcC K a_BadJoin := ⟨ehg_BadJoin, ehk_BadJoin, ehs_BadJoin, ehd_BadJoin, eha_BadJoin, ehn_BadJoin, eht_BadJoin, ehm_BadJoin⟩
  have e_BadNetwork : ExcC K a_BadNetwork := ⟨ehg_BadNetwork, ehk_BadNetwork, ehs_BadNetwork, ehd_BadNetwork, eha_BadNetwork, ehn_BadNetwork, eht_BadNetwork, ehm_BadNetwork⟩
  have e_BadPoint : ExcC K a_BadPoint := ⟨ehg_BadPoint, ehk_BadPoint, ehs_BadPoint, ehd_BadPoint, eha_BadPoint, ehn_BadPoint, eht_BadPoint, ehm_BadPoint⟩
  have e_BadRatio : ExcC K a_BadRatio := ⟨ehg_BadRatio, ehk_BadRatio, ehs_BadRatio, ehd_BadRatio, eha_BadRatio, ehn_BadRatio, eht_BadRatio, ehm_BadRatio⟩
  have e_BadText : ExcC K a_BadText := ⟨ehg_BadText, ehk_BadText, ehs_BadText, ehd_BadText, eha_BadText, ehn_BadText, eht_BadText, ehm_BadText⟩
  have e_ByZero : ExcC K a_ByZero := ⟨ehg_ByZero, ehk_ByZero, ehs_ByZero, ehd_ByZero, eha_ByZero, ehn_ByZero, eht_ByZero, ehm_ByZero⟩
  have vv_ByZero := kit_bt (T := "ValueError") (by decide +kernel) vb_ByZero
  have vv_BadRatio := kit_bt (T := "ValueError") (by decide +kernel) vb_BadRatio
  have vv_BadPoint := kit_bt (T := "ValueError") (by decide +kernel) vb_BadPoint
  have vv_BadJoin := kit_bt (T := "ValueError") (by decide +kernel) vb_BadJoin
  have vv_BadNetwork := kit_bt (T := "ValueError") (by decide +kernel) vb_BadNetwork
  have vv_BadText := kit_bt (T := "ValueError") (by decide +kernel) vb_BadText
  have i_BadJoin_BadJoin := kit_ofT y_BadJoin xt_BadJoin w_BadJoin_BadJoin
  have i_BadJoin_BadNetwork := kit_ofF v_BadJoin_BadNetwork y_BadNetwork xt_BadNetwork w_BadJoin_BadNetwork
  have i_BadJoin_BadPoint := kit_ofF v_BadJoin_BadPoint y_BadPoint xt_BadPoint w_BadJoin_BadPoint
  have i_BadJoin_BadRatio := kit_ofF v_BadJoin_BadRatio y_BadRatio xt_BadRatio w_BadJoin_BadRatio
  have i_BadJoin_BadText := kit_ofF v_BadJoin_BadText y_BadText xt_BadText w_BadJoin_BadText
  have i_BadJoin_ByZero := kit_ofF v_BadJoin_ByZero y_ByZero xt_ByZero w_BadJoin_ByZero
  have i_BadJoin_KinkError := kit_ofT y_KinkError xt_KinkError w_BadJoin_KinkError
  have i_BadNetwork_BadJoin := kit_ofF v_BadNetwork_BadJoin y_BadJoin xt_BadJoin w_BadNetwork_BadJoin
  have i_BadNetwork_BadNetwork := kit_ofT y_BadNetwork xt_BadNetwork w_BadNetwork_BadNetwork
  have i_BadNetwork_BadPoint := kit_ofF v_BadNetwork_BadPoint y_BadPoint xt_BadPoint w_BadNetwork_BadPoint
  have i_BadNetwork_BadRatio := kit_ofF v_BadNetwork_BadRatio y_BadRatio xt_BadRatio w_BadNetwork_BadRatio
  have i_BadNetwork_BadText := kit_ofF v_BadNetwork_BadText y_BadText xt_BadText w_BadNetwork_BadText
  have i_BadNetwork_ByZero := kit_ofF v_BadNetwork_ByZero y_ByZero xt_ByZero w_BadNetwork_ByZero
  have i_BadNetwork_KinkError := kit_ofT y_KinkError xt_KinkError w_BadNetwork_KinkError
  have i_BadPoint_BadJoin := kit_ofF v_BadPoint_BadJoin y_BadJoin xt_BadJoin w_BadPoint_BadJoin
  have i_BadPoint_BadNetwork := kit_ofF v_BadPoint_BadNetwork y_BadNetwork xt_BadNetwork w_BadPoint_BadNetwork
  have i_BadPoint_BadPoint := kit_ofT y_BadPoint xt_BadPoint w_BadPoint_BadPoint
  have i_BadPoint_BadRatio := kit_ofF v_BadPoint_BadRatio y_BadRatio xt_BadRatio w_BadPoint_BadRatio
  have i_BadPoint_BadText := kit_ofF v_BadPoint_BadText y_BadText xt_BadText w_BadPoint_BadText
  have i_BadPoint_ByZero := kit_ofF v_BadPoint_ByZero y_ByZero xt_ByZero w_BadPoint_ByZero
  have i_BadPoint_KinkError := kit_ofT y_KinkError xt_KinkError w_BadPoint_KinkError
  have i_BadRatio_BadJoin := kit_ofF v_BadRatio_BadJoin y_BadJoin xt_BadJoin w_BadRatio_BadJoin
  have i_BadRatio_BadNetwork := kit_ofF v_BadRatio_BadNetwork y_BadNetwork xt_BadNetwork w_BadRatio_BadNetwork
  have i_BadRatio_BadPoint := kit_ofF v_BadRatio_BadPoint y_BadPoint xt_BadPoint w_BadRatio_BadPoint
  have i_BadRatio_BadRatio := kit_ofT y_BadRatio xt_BadRatio w_BadRatio_BadRatio
  have i_BadRatio_BadText := kit_ofF v_BadRatio_BadText y_BadText xt_BadText w_BadRatio_BadText
  have i_BadRatio_ByZero := kit_ofF v_BadRatio_ByZero y_ByZero xt_ByZero w_BadRatio_ByZero
  have i_BadRatio_KinkError := kit_ofT y_KinkError xt_KinkError w_BadRatio_KinkError
  have i_BadText_BadJoin := kit_ofF v_BadText_BadJoin y_BadJoin xt_BadJoin w_BadText_BadJoin
  have i_BadText_BadNetwork := kit_ofF v_BadText_BadNetwork y_BadNetwork xt_BadNetwork w_BadText_BadNetwork
  have i_BadText_BadPoint := kit_ofF v_BadText_BadPoint y_BadPoint xt_BadPoint w_BadText_BadPoint
  have i_BadText_BadRatio := kit_ofF v_BadText_BadRatio y_BadRatio xt_BadRatio w_BadText_BadRatio
  have i_BadText_BadText := kit_ofT y_BadText xt_BadText w_BadText_BadText
  have i_BadText_ByZero := kit_ofF v_BadText_ByZero y_ByZero xt_ByZero w_BadText_ByZero
  have i_BadText_KinkError := kit_ofT y_KinkError xt_KinkError w_BadText_KinkError
  have i_ByZero_BadJoin := kit_ofF v_ByZero_BadJoin y_BadJoin xt_BadJoin w_ByZero_BadJoin
  have i_ByZero_BadNetwork := kit_ofF v_ByZero_BadNetwork y_BadNetwork xt_BadNetwork w_ByZero_BadNetwork
  have i_ByZero_BadPoint := kit_ofF v_ByZero_BadPoint y_BadPoint xt_BadPoint w_ByZero_BadPoint
  have i_ByZero_BadRatio := kit_ofF v_ByZero_BadRatio y_BadRatio xt_BadRatio w_ByZero_BadRatio
  have i_ByZero_BadText := kit_ofF v_ByZero_BadText y_BadText xt_BadText w_ByZero_BadText
  have i_ByZero_ByZero := kit_ofT y_ByZero xt_ByZero w_ByZero_ByZero
  have i_ByZero_KinkError := kit_ofT y_KinkError xt_KinkError w_ByZero_KinkError
  refine ⟨PySem.W.fnOf "law" "law" (defArgs s_law) (defBody s_law) (defScope s_law) .none kV_law dc_law pm_law an_law cd_law ct_law, fun s v => .of_eq rfl, fun base _ _ => ?_⟩
  have GI_BadNetwork : ErrK P K a_BadNetwork fI_BadNetwork cc_BadNetwork cd_BadNetwork _ "BadNetwork.__init__" "self" := ⟨⟨⟨_, _, _, lI_BadNetwork⟩, ⟨_, rfl, rfl⟩, ⟨_, _, _, _, _, _, coI_BadNetwork, fiI_BadNetwork, fjI_BadNetwork⟩, ptop, ⟨_, _, _, ceI_BadNetwork⟩, oexC_of oxI_BadNetwork saI_BadNetwork xb_BadNetwork xt_BadNetwork xk_BadNetwork, mrI_BadNetwork, suI_BadNetwork, opq, veI_BadNetwork⟩, cdI_BadNetwork, iC_BadNetwork, tI_BadNetwork⟩
  have E_BadNetwork : ErrC P w K mg base "BadNetwork" 1 (fun C => spErr2 K C "layer" "reason") := errC2_mk (pl := _) GI_BadNetwork x_BadNetwork.gg rfl (Binds.all fun us hl => match us, hl with | [_, _, _], _ => rfl) m_super (NdefX.nscope_by (by decide +kernel)) (by decide +kernel) (by decide +kernel) g_BadNetwork_layer g_BadNetwork_reason (by decide +kernel) (fun _ => rfl) (fun _ => rfl)
  have GI_BadText : ErrK P K a_BadText fI_BadText cc_BadText cd_BadText _ "BadText.__init__" "self" := ⟨⟨⟨_, _, _, lI_BadText⟩, ⟨_, rfl, rfl⟩, ⟨_, _, _, _, _, _, coI_BadText, fiI_BadText, fjI_BadText⟩, ptop, ⟨_, _, _, ceI_BadText⟩, oexC_of oxI_BadText saI_BadText xb_BadText xt_BadText xk_BadText, mrI_BadText, suI_BadText, opq, veI_BadText⟩, cdI_BadText, iC_BadText, tI_BadText⟩
  have E_BadText : ErrC P w K mg base "BadText" 1 (fun C => spErr1 K C "row") := errC1_mk (pl := _) GI_BadText x_BadText.gg rfl (Binds.all fun us hl => match us, hl with | [_, _], _ => rfl) m_super (NdefX.nscope_by (by decide +kernel)) (by decide +kernel) (by decide +kernel) g_BadText_row (by decide +kernel) (fun _ => rfl) (fun _ => rfl)
  have D_is_integer := ok_is_integer (P := P) (w := w) (base := base) U_is_integer b_is_integer (PySem.W.mg_of X G a_is_integer) m_bool m_int m_isinstance
  have D_is_ratio := ok_is_ratio (P := P) (w := w) (base := base) U_is_ratio b_is_ratio (PySem.W.mg_of X G a_is_ratio) D_is_integer m_gcd m_isinstance m_len m_tuple
  have D__law_cell := ok__law_cell (P := P) (w := w) (base := base) U__law_cell b__law_cell (PySem.W.mg_of X G a__law_cell) m_abs m_int m_len
  have D__law_common := ok__law_common (P := P) (w := w) (base := base) U__law_common b__law_common (PySem.W.mg_of X G a__law_common) m_abs m_int
  have D__law_lowest := ok__law_lowest (P := P) (w := w) (base := base) U__law_lowest b__law_lowest (PySem.W.mg_of X G a__law_lowest) D__law_common
  have D__law_is_ratio := ok__law_is_ratio (P := P) (w := w) (base := base) U__law_is_ratio b__law_is_ratio (PySem.W.mg_of X G a__law_is_ratio) D__law_common m_bool m_int m_isinstance m_len m_tuple
  have D__law_value := ok__law_value (P := P) (w := w) (base := base) U__law_value b__law_value (PySem.W.mg_of X G a__law_value) D__law_lowest m_abs m_int m_list
  have D__law_classes := ok__law_classes (P := P) (w := w) (base := base) U__law_classes b__law_classes (PySem.W.mg_of X G a__law_classes) m_isinstance x_BadJoin x_BadNetwork x_BadPoint x_BadRatio x_BadText x_ByZero e_BadJoin e_BadNetwork e_BadPoint e_BadRatio e_BadText e_ByZero i_ByZero_ByZero i_ByZero_BadRatio i_ByZero_BadPoint i_ByZero_BadJoin i_ByZero_BadNetwork i_ByZero_BadText i_BadRatio_ByZero i_BadRatio_BadRatio i_BadRatio_BadPoint i_BadRatio_BadJoin i_BadRatio_BadNetwork i_BadRatio_BadText i_BadPoint_ByZero i_BadPoint_BadRatio i_BadPoint_BadPoint i_BadPoint_BadJoin i_BadPoint_BadNetwork i_BadPoint_BadText i_BadJoin_ByZero i_BadJoin_BadRatio i_BadJoin_BadPoint i_BadJoin_BadJoin i_BadJoin_BadNetwork i_BadJoin_BadText i_BadNetwork_ByZero i_BadNetwork_BadRatio i_BadNetwork_BadPoint i_BadNetwork_BadJoin i_BadNetwork_BadNetwork i_BadNetwork_BadText i_BadText_ByZero i_BadText_BadRatio i_BadText_BadPoint i_BadText_BadJoin i_BadText_BadNetwork i_BadText_BadText
  have D__law_errors := ok__law_errors (P := P) (w := w) (base := base) U__law_errors b__law_errors (PySem.W.mg_of X G a__law_errors) D__law_classes m_ValueError m_isinstance m_len m_range x_BadJoin x_BadNetwork x_BadPoint x_BadRatio x_BadText x_ByZero x_KinkError E_BadNetwork E_BadText T_BadNetwork T_BadText g_BadNetwork_layer g_BadNetwork_reason g_BadText_row e_BadJoin e_BadNetwork e_BadPoint e_BadRatio e_BadText e_ByZero i_ByZero_KinkError i_BadRatio_KinkError i_BadPoint_KinkError i_BadJoin_KinkError i_BadNetwork_KinkError i_BadText_KinkError vv_ByZero vv_BadRatio vv_BadPoint vv_BadJoin vv_BadNetwork vv_BadText
  exact law_of (ok_law U_law D__law_cell D__law_errors D__law_is_ratio D__law_value D_is_integer D_is_ratio m_bool m_int m_isinstance m_len m_max m_range c_HALF c_MOST_FIGURES c_MOST_INPUTS c_ONE c_ZERO) law_true
end KM
open PySem PySem.W PyProof.Rows
set_option maxHeartbeats 0 in
theorem PySem.Challenge.cw_kinkmeasure_k00_errors_and_ratios_holds : PySem.Challenge.rw_kinkmeasure_k00_errors_and_ratios.Holds := by
  w_on; o_law; k_head; (case hw => w_witness2)
  k_fill
  refine L2.walk_ofB (l := PySem.Challenge.rw_kinkmeasure_k00_errors_and_ratios) (n := 63) (k := 4) (x := "script") (CX := fun w => L2.CX PySem.Challenge.rw_kinkmeasure_k00_errors_and_ratios.prog w) (sp := fun w => @PD.spLaw ⟨[]⟩ _) rfl (by decide) rfl ⟨rfl, by decide, by decide⟩ (fun w h Y => PySem.W.kIn_of Y) ?F (fun w H a ns hl hb _ hS => ⟨a, ns, rfl, (fun _ z => nomatch z), hS, hl, hb, fun _ => rfl⟩) (fun w H s e s' h => by obtain ⟨_, _, _, _, _, _, z⟩ := h; exact z.2.2.2.2.2.2)
  case F =>
    intro w mg fa h KX G hmg
    refine' KM.all_mk KX G hmg ?a_is_integer ?l_is_integer ?c_is_integer ?k_is_integer ?a_is_ratio ?l_is_ratio ?c_is_ratio ?k_is_ratio ?a__law_cell ?l__law_cell ?c__law_cell ?k__law_cell ?a__law_common ?l__law_common ?c__law_common ?k__law_common ?a__law_lowest ?l__law_lowest ?c__law_lowest ?k__law_lowest ?a__law_is_ratio ?l__law_is_ratio ?c__law_is_ratio ?k__law_is_ratio ?a__law_value ?l__law_value ?c__law_value ?k__law_value ?a__law_classes ?l__law_classes ?c__law_classes ?k__law_classes ?a__law_errors ?l__law_errors ?c__law_errors ?k__law_errors ?a_law ?l_law ?c_law ?k_law ?n_ValueError ?n_abs ?n_bool ?n_gcd ?n_int ?n_isinstance ?n_len ?n_list ?n_max ?n_range ?n_tuple ?g_HALF ?h_HALF ?g_MOST_FIGURES ?g_MOST_INPUTS ?g_ONE ?h_ONE ?g_ZERO ?h_ZERO ?xg_BadJoin ?xx_BadJoin ?xk_BadJoin ?xb_BadJoin ?xt_BadJoin ?xg_BadNetwork ?xk_BadNetwork ?xb_BadNetwork ?xt_BadNetwork ?xg_BadPoint ?xx_BadPoint ?xk_BadPoint ?xb_BadPoint ?xt_BadPoint ?xg_BadRatio ?xx_BadRatio ?xk_BadRatio ?xb_BadRatio ?xt_BadRatio ?xg_BadText ?xk_BadText ?xb_BadText ?xt_BadText ?xg_ByZero ?xx_ByZero ?xk_ByZero ?xb_ByZero ?xt_ByZero ?xg_KinkError ?xx_KinkError ?xk_KinkError ?xb_KinkError ?xt_KinkError ?nsuper ?opq ?ptop ?iC_BadNetwork ?tI_BadNetwork ?lI_BadNetwork ?cdI_BadNetwork ?ceI_BadNetwork ?coI_BadNetwork ?fiI_BadNetwork ?fjI_BadNetwork ?oxI_BadNetwork ?saI_BadNetwork ?mrI_BadNetwork ?suI_BadNetwork ?veI_BadNetwork ?iC_BadText ?tI_BadText ?lI_BadText ?cdI_BadText ?ceI_BadText ?coI_BadText ?fiI_BadText ?fjI_BadText ?oxI_BadText ?saI_BadText ?mrI_BadText ?suI_BadText ?veI_BadText ?g_BadNetwork_layer ?g_BadNetwork_reason ?g_BadText_row ?tx_BadNetwork ?tx_BadText ?y_BadJoin ?y_BadNetwork ?y_BadPoint ?y_BadRatio ?y_BadText ?y_ByZero ?y_KinkError ?ehg_BadJoin ?ehk_BadJoin ?ehs_BadJoin ?ehd_BadJoin ?eha_BadJoin ?ehn_BadJoin ?eht_BadJoin ?ehm_BadJoin ?ehg_BadNetwork ?ehk_BadNetwork ?ehs_BadNetwork ?ehd_BadNetwork ?eha_BadNetwork ?ehn_BadNetwork ?eht_BadNetwork ?ehm_BadNetwork ?ehg_BadPoint ?ehk_BadPoint ?ehs_BadPoint ?ehd_BadPoint ?eha_BadPoint ?ehn_BadPoint ?eht_BadPoint ?ehm_BadPoint ?ehg_BadRatio ?ehk_BadRatio ?ehs_BadRatio ?ehd_BadRatio ?eha_BadRatio ?ehn_BadRatio ?eht_BadRatio ?ehm_BadRatio ?ehg_BadText ?ehk_BadText ?ehs_BadText ?ehd_BadText ?eha_BadText ?ehn_BadText ?eht_BadText ?ehm_BadText ?ehg_ByZero ?ehk_ByZero ?ehs_ByZero ?ehd_ByZero ?eha_ByZero ?ehn_ByZero ?eht_ByZero ?ehm_ByZero ?vb_ByZero ?vb_BadRatio ?vb_BadPoint ?vb_BadJoin ?vb_BadNetwork ?vb_BadText ?w_BadJoin_BadJoin ?w_BadJoin_BadNetwork ?v_BadJoin_BadNetwork ?w_BadJoin_BadPoint ?v_BadJoin_BadPoint ?w_BadJoin_BadRatio ?v_BadJoin_BadRatio ?w_BadJoin_BadText ?v_BadJoin_BadText ?w_BadJoin_ByZero ?v_BadJoin_ByZero ?w_BadJoin_KinkError ?w_BadNetwork_BadJoin ?v_BadNetwork_BadJoin ?w_BadNetwork_BadNetwork ?w_BadNetwork_BadPoint ?v_BadNetwork_BadPoint ?w_BadNetwork_BadRatio ?v_BadNetwork_BadRatio ?w_BadNetwork_BadText ?v_BadNetwork_BadText ?w_BadNetwork_ByZero ?v_BadNetwork_ByZero ?w_BadNetwork_KinkError ?w_BadPoint_BadJoin ?v_BadPoint_BadJoin ?w_BadPoint_BadNetwork ?v_BadPoint_BadNetwork ?w_BadPoint_BadPoint ?w_BadPoint_BadRatio ?v_BadPoint_BadRatio ?w_BadPoint_BadText ?v_BadPoint_BadText ?w_BadPoint_ByZero ?v_BadPoint_ByZero ?w_BadPoint_KinkError ?w_BadRatio_BadJoin ?v_BadRatio_BadJoin ?w_BadRatio_BadNetwork ?v_BadRatio_BadNetwork ?w_BadRatio_BadPoint ?v_BadRatio_BadPoint ?w_BadRatio_BadRatio ?w_BadRatio_BadText ?v_BadRatio_BadText ?w_BadRatio_ByZero ?v_BadRatio_ByZero ?w_BadRatio_KinkError ?w_BadText_BadJoin ?v_BadText_BadJoin ?w_BadText_BadNetwork ?v_BadText_BadNetwork ?w_BadText_BadPoint ?v_BadText_BadPoint ?w_BadText_BadRatio ?v_BadText_BadRatio ?w_BadText_BadText ?w_BadText_ByZero ?v_BadText_ByZero ?w_BadText_KinkError ?w_ByZero_BadJoin ?v_ByZero_BadJoin ?w_ByZero_BadNetwork ?v_ByZero_BadNetwork ?w_ByZero_BadPoint ?v_ByZero_BadPoint ?w_ByZero_BadRatio ?v_ByZero_BadRatio ?w_ByZero_BadText ?v_ByZero_BadText ?w_ByZero_ByZero ?w_ByZero_KinkError
    case a_is_integer => k_is
    case l_is_integer => k_is
    case c_is_integer => k_is
    case k_is_integer => k_is
    case a_is_ratio => k_is
    case l_is_ratio => k_is
    case c_is_ratio => k_is
    case k_is_ratio => k_is
    case a__law_cell => k_is
    case l__law_cell => k_is
    case c__law_cell => k_is
    case k__law_cell => k_is
    case a__law_common => k_is
    case l__law_common => k_is
    case c__law_common => k_is
    case k__law_common => k_is
    case a__law_lowest => k_is
    case l__law_lowest => k_is
    case c__law_lowest => k_is
    case k__law_lowest => k_is
    case a__law_is_ratio => k_is
    case l__law_is_ratio => k_is
    case c__law_is_ratio => k_is
    case k__law_is_ratio => k_is
    case a__law_value => k_is
    case l__law_value => k_is
    case c__law_value => k_is
    case k__law_value => k_is
    case a__law_classes => k_is
    case l__law_classes => k_is
    case c__law_classes => k_is
    case k__law_classes => k_is
    case a__law_errors => k_is
    case l__law_errors => k_is
    case c__law_errors => k_is
    case k__law_errors => k_is
    case a_law => k_is
    case l_law => k_is
    case c_law => k_is
    case k_law => k_is
    case n_ValueError => k_is
    case n_abs => k_is
    case n_bool => k_is
    case n_gcd => k_is
    case n_int => k_is
    case n_isinstance => k_is
    case n_len => k_is
    case n_list => k_is
    case n_max => k_is
    case n_range => k_is
    case n_tuple => k_is
    case g_HALF => k_is
    case h_HALF => k_is
    case g_MOST_FIGURES => k_is
    case g_MOST_INPUTS => k_is
    case g_ONE => k_is
    case h_ONE => k_is
    case g_ZERO => k_is
    case h_ZERO => k_is
    case xg_BadJoin => k_is
    case xx_BadJoin => k_exc
    case xk_BadJoin => k_is
    case xb_BadJoin => k_is
    case xt_BadJoin => k_is
    case xg_BadNetwork => k_is
    case xk_BadNetwork => k_is
    case xb_BadNetwork => k_is
    case xt_BadNetwork => k_is
    case xg_BadPoint => k_is
    case xx_BadPoint => k_exc
    case xk_BadPoint => k_is
    case xb_BadPoint => k_is
    case xt_BadPoint => k_is
    case xg_BadRatio => k_is
    case xx_BadRatio => k_exc
    case xk_BadRatio => k_is
    case xb_BadRatio => k_is
    case xt_BadRatio => k_is
    case xg_BadText => k_is
    case xk_BadText => k_is
    case xb_BadText => k_is
    case xt_BadText => k_is
    case xg_ByZero => k_is
    case xx_ByZero => k_exc
    case xk_ByZero => k_is
    case xb_ByZero => k_is
    case xt_ByZero => k_is
    case xg_KinkError => k_is
    case xx_KinkError => k_exc
    case xk_KinkError => k_is
    case xb_KinkError => k_is
    case xt_KinkError => k_is
    case nsuper => k_is
    case opq => first | k_is | rfl | kernel_rfl | decide +kernel
    case ptop => first | rfl | decide +kernel
    case iC_BadNetwork => k_is
    case tI_BadNetwork => first | k_is | rfl | kernel_rfl | decide +kernel
    case lI_BadNetwork => first | k_is | rfl | kernel_rfl | decide +kernel
    case cdI_BadNetwork => first | k_is | rfl | kernel_rfl | decide +kernel
    case ceI_BadNetwork => first | k_is | rfl | kernel_rfl | decide +kernel
    case coI_BadNetwork => first | k_is | rfl | kernel_rfl | decide +kernel
    case fiI_BadNetwork => first | rfl | kernel_rfl
    case fjI_BadNetwork => first | rfl | decide +kernel
    case oxI_BadNetwork => first | k_is | rfl | kernel_rfl | decide +kernel
    case saI_BadNetwork => first | k_is | rfl | kernel_rfl | decide +kernel
    case mrI_BadNetwork => first | k_is | rfl | kernel_rfl | decide +kernel
    case suI_BadNetwork => first | ks_is | rfl | kernel_rfl | decide +kernel
    case veI_BadNetwork => first | k_is | rfl | kernel_rfl | decide +kernel
    case iC_BadText => k_is
    case tI_BadText => first | k_is | rfl | kernel_rfl | decide +kernel
    case lI_BadText => first | k_is | rfl | kernel_rfl | decide +kernel
    case cdI_BadText => first | k_is | rfl | kernel_rfl | decide +kernel
    case ceI_BadText => first | k_is | rfl | kernel_rfl | decide +kernel
    case coI_BadText => first | k_is | rfl | kernel_rfl | decide +kernel
    case fiI_BadText => first | rfl | kernel_rfl
    case fjI_BadText => first | rfl | decide +kernel
    case oxI_BadText => first | k_is | rfl | kernel_rfl | decide +kernel
    case saI_BadText => first | k_is | rfl | kernel_rfl | decide +kernel
    case mrI_BadText => first | k_is | rfl | kernel_rfl | decide +kernel
    case suI_BadText => first | ks_is | rfl | kernel_rfl | decide +kernel
    case veI_BadText => first | k_is | rfl | kernel_rfl | decide +kernel
    case g_BadNetwork_layer => k_is
    case g_BadNetwork_reason => k_is
    case g_BadText_row => k_is
    case tx_BadNetwork => first | k_is | rfl | kernel_rfl | decide +kernel
    case tx_BadText => first | k_is | rfl | kernel_rfl | decide +kernel
    case y_BadJoin => k_is
    case y_BadNetwork => k_is
    case y_BadPoint => k_is
    case y_BadRatio => k_is
    case y_BadText => k_is
    case y_ByZero => k_is
    case y_KinkError => k_is
    case ehg_BadJoin => k_is
    case ehk_BadJoin => k_is
    case ehs_BadJoin => k_is
    case ehd_BadJoin => k_is
    case eha_BadJoin => k_is
    case ehn_BadJoin => k_is
    case eht_BadJoin => k_is
    case ehm_BadJoin => k_is
    case ehg_BadNetwork => k_is
    case ehk_BadNetwork => k_is
    case ehs_BadNetwork => k_is
    case ehd_BadNetwork => k_is
    case eha_BadNetwork => k_is
    case ehn_BadNetwork => k_is
    case eht_BadNetwork => k_is
    case ehm_BadNetwork => k_is
    case ehg_BadPoint => k_is
    case ehk_BadPoint => k_is
    case ehs_BadPoint => k_is
    case ehd_BadPoint => k_is
    case eha_BadPoint => k_is
    case ehn_BadPoint => k_is
    case eht_BadPoint => k_is
    case ehm_BadPoint => k_is
    case ehg_BadRatio => k_is
    case ehk_BadRatio => k_is
    case ehs_BadRatio => k_is
    case ehd_BadRatio => k_is
    case eha_BadRatio => k_is
    case ehn_BadRatio => k_is
    case eht_BadRatio => k_is
    case ehm_BadRatio => k_is
    case ehg_BadText => k_is
    case ehk_BadText => k_is
    case ehs_BadText => k_is
    case ehd_BadText => k_is
    case eha_BadText => k_is
    case ehn_BadText => k_is
    case eht_BadText => k_is
    case ehm_BadText => k_is
    case ehg_ByZero => k_is
    case ehk_ByZero => k_is
    case ehs_ByZero => k_is
    case ehd_ByZero => k_is
    case eha_ByZero => k_is
    case ehn_ByZero => k_is
    case eht_ByZero => k_is
    case ehm_ByZero => k_is
    case vb_ByZero => first | rfl | k_is
    case vb_BadRatio => first | rfl | k_is
    case vb_BadPoint => first | rfl | k_is
    case vb_BadJoin => first | rfl | k_is
    case vb_BadNetwork => first | rfl | k_is
    case vb_BadText => first | rfl | k_is
    case w_BadJoin_BadJoin => first | rfl | k_is
    case w_BadJoin_BadNetwork => first | rfl | k_is
    case v_BadJoin_BadNetwork => decide
    case w_BadJoin_BadPoint => first | rfl | k_is
    case v_BadJoin_BadPoint => decide
    case w_BadJoin_BadRatio => first | rfl | k_is
    case v_BadJoin_BadRatio => decide
    case w_BadJoin_BadText => first | rfl | k_is
    case v_BadJoin_BadText => decide
    case w_BadJoin_ByZero => first | rfl | k_is
    case v_BadJoin_ByZero => decide
    case w_BadJoin_KinkError => first | rfl | k_is
    case w_BadNetwork_BadJoin => first | rfl | k_is
    case v_BadNetwork_BadJoin => decide
    case w_BadNetwork_BadNetwork => first | rfl | k_is
    case w_BadNetwork_BadPoint => first | rfl | k_is
    case v_BadNetwork_BadPoint => decide
    case w_BadNetwork_BadRatio => first | rfl | k_is
    case v_BadNetwork_BadRatio => decide
    case w_BadNetwork_BadText => first | rfl | k_is
    case v_BadNetwork_BadText => decide
    case w_BadNetwork_ByZero => first | rfl | k_is
    case v_BadNetwork_ByZero => decide
    case w_BadNetwork_KinkError => first | rfl | k_is
    case w_BadPoint_BadJoin => first | rfl | k_is
    case v_BadPoint_BadJoin => decide
    case w_BadPoint_BadNetwork => first | rfl | k_is
    case v_BadPoint_BadNetwork => decide
    case w_BadPoint_BadPoint => first | rfl | k_is
    case w_BadPoint_BadRatio => first | rfl | k_is
    case v_BadPoint_BadRatio => decide
    case w_BadPoint_BadText => first | rfl | k_is
    case v_BadPoint_BadText => decide
    case w_BadPoint_ByZero => first | rfl | k_is
    case v_BadPoint_ByZero => decide
    case w_BadPoint_KinkError => first | rfl | k_is
    case w_BadRatio_BadJoin => first | rfl | k_is
    case v_BadRatio_BadJoin => decide
    case w_BadRatio_BadNetwork => first | rfl | k_is
    case v_BadRatio_BadNetwork => decide
    case w_BadRatio_BadPoint => first | rfl | k_is
    case v_BadRatio_BadPoint => decide
    case w_BadRatio_BadRatio => first | rfl | k_is
    case w_BadRatio_BadText => first | rfl | k_is
    case v_BadRatio_BadText => decide
    case w_BadRatio_ByZero => first | rfl | k_is
    case v_BadRatio_ByZero => decide
    case w_BadRatio_KinkError => first | rfl | k_is
    case w_BadText_BadJoin => first | rfl | k_is
    case v_BadText_BadJoin => decide
    case w_BadText_BadNetwork => first | rfl | k_is
    case v_BadText_BadNetwork => decide
    case w_BadText_BadPoint => first | rfl | k_is
    case v_BadText_BadPoint => decide
    case w_BadText_BadRatio => first | rfl | k_is
    case v_BadText_BadRatio => decide
    case w_BadText_BadText => first | rfl | k_is
    case w_BadText_ByZero => first | rfl | k_is
    case v_BadText_ByZero => decide
    case w_BadText_KinkError => first | rfl | k_is
    case w_ByZero_BadJoin => first | rfl | k_is
    case v_ByZero_BadJoin => decide
    case w_ByZero_BadNetwork => first | rfl | k_is
    case v_ByZero_BadNetwork => decide
    case w_ByZero_BadPoint => first | rfl | k_is
    case v_ByZero_BadPoint => decide
    case w_ByZero_BadRatio => first | rfl | k_is
    case v_ByZero_BadRatio => decide
    case w_ByZero_BadText => first | rfl | k_is
    case v_ByZero_BadText => decide
    case w_ByZero_ByZero => first | rfl | k_is
    case w_ByZero_KinkError => first | rfl | k_is

