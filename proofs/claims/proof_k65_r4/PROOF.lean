import PyProof.Rows.All
import Wide.All
import OpenK.AllK
import Wide.FinOn
import HandS.ForMost
import HandS.ForExc
import HandS.Gcd
import HandS.Wide
import HandS.TupAny
import HandS.TupMul
import HandS.IsInst
import HandS.Defaults
import HandS.AnyAll
import HandS.Style
import HandS.Zip
import HandS.EndBits
import HandS.Small
import HandS.ExcIs
import HandS.ExcField
import HandS.Deep
import KE.GoesZip
import KE.GoesMore
import HandS.GenList
import HandS.MakeKwOnly
import HandS.EndTab
import KE.KNestM
import HandS.TryOnly
import HandS.Iter
import PyProof.Rows.NestShow
import PyProof.ReprRoads
import PyProof.AutoSeq1
import KE.KDictZip
import HandS.ListItems
import HandS.Conv
import KE.GoesEnum
import HandS.Codes
import HandS.WideBits
import PySem.Challenge.RW_kinkmeasure_k65_runs_of_code
set_option Elab.async false
set_option linter.all false
set_option maxRecDepth 100000
set_option maxHeartbeats 4000000
/-! A layer of values without a heap: what an expression is worth, what a statement does, as plain functions. -/
namespace PD
open PySem PySem.Spec PyProof.Rows L2

/-! ### outcomes -/
abbrev Flds := List (Str × PyData)
inductive RO (α : Type) where
  | ok (a : α)
  | er (c : Str) (fl : Flds)
  | no
def RO.bind {α β : Type} (r : RO α) (f : α → RO β) : RO β := match r with
  | .ok a => f a
  | .er c fl => .er c fl
  | .no => .no
instance : Monad RO where
  pure := .ok
  bind := RO.bind
theorem RO.bind_ok {α β : Type} (a : α) (f : α → RO β) : ((RO.ok a) >>= f) = f a := rfl
theorem RO.bind_er {α β : Type} (c : Str) (fl : Flds) (f : α → RO β) : ((RO.er c fl : RO α) >>= f) = .er c fl := rfl
theorem RO.pure_ok {α : Type} (a : α) : (pure a : RO α) = .ok a := rfl

/-- a slot: a value that nobody changes, or a list that this frame alone holds -/
inductive SV where
  | fz (d : PyData)
  | own (ds : List PyData)
  | ob (c : Str) (fs : List (Str × PyData))
abbrev Env := List (Option SV)
abbrev Sg := L2.St
abbrev E := Env → RO PyData
abbrev T := Env → RO Bool
inductive SO where
  | nx (e : Env)
  | rt (d : PyData)
  | bk (e : Env)
  | ct (e : Env)
  | er (e : Env) (c : Str) (fl : Flds)
  | no
abbrev S := Env → SO

/-! ### heaps that grow -/
def Ext (H H' : Hp) : Prop := ∀ a o, H a = some o → H' a = some o ∨ ∃ ps more, o = .tbl ps ∧ H' a = some (.tbl (ps ++ more)) ∧ (TriplesOk ps.toList → TriplesOk (ps ++ more).toList)
theorem Ext.refl (H : Hp) : Ext H H := fun _ _ h => .inl h
theorem Ext.trans {H H1 H2 : Hp} (a : Ext H H1) (b : Ext H1 H2) : Ext H H2 := fun x o h => by
  rcases a x o h with h1 | ⟨ps, more, rfl, h1, t1⟩
  · exact b x o h1
  · rcases b x _ h1 with h2 | ⟨ps2, more2, e, h2, t2⟩
    · exact .inr ⟨ps, more, rfl, h2, t1⟩
    · injection e with e
      subst e
      exact .inr ⟨ps, more ++ more2, rfl, by rw [h2, Array.append_assoc], fun t => by rw [← Array.append_assoc]; exact t2 (t1 t)⟩
theorem Ext.new {H : Hp} {p : Addr} {o : HO} (h : H p = none) : Ext H (upd H p o) := fun a u e => .inl (by
  rw [upd_ne (ne_of_none e h)]
  exact e)
theorem Ext.fresh {H H' : Hp} {p : Addr} (e : Ext H H') (h : H' p = none) : H p = none := by
  cases h1 : H p with
  | none => rfl
  | some o =>
    rcases e p o h1 with h2 | ⟨_, _, _, h2, _⟩ <;> rw [h] at h2 <;> cases h2
theorem Ext.lst {H H' : Hp} (e : Ext H H') {a : Addr} {xs : List V} (h : H a = some (.lst xs)) : H' a = some (.lst xs) := by
  rcases e a _ h with h | ⟨_, _, q, _⟩
  · exact h
  · cases q
theorem Ext.at {H H' : Hp} (e : Ext H H') {a : Addr} {o : HO} (h : H a = some o) (n : ∀ ps, o ≠ .tbl ps) : H' a = some o := by
  rcases e a _ h with h | ⟨ps, _, q, _⟩
  · exact h
  · exact absurd q (n ps)
/-- without the addresses in O -/
def hid (O : List Addr) (H : Hp) : Hp := fun a => if a ∈ O then none else H a
theorem hid_in {O : List Addr} {H : Hp} {a : Addr} (h : a ∈ O) : hid O H a = none := if_pos h
theorem hid_out {O : List Addr} {H : Hp} {a : Addr} (h : a ∉ O) : hid O H a = H a := if_neg h
theorem hid_some {O : List Addr} {H : Hp} {a : Addr} {o : HO} (h : hid O H a = some o) : a ∉ O ∧ H a = some o := by
  unfold hid at h
  split at h
  · cases h
  · exact ⟨by assumption, h⟩
theorem hid_nil {H : Hp} : hid [] H = H := by
  funext a
  exact hid_out (by simp)
theorem Ext.hid {H H' : Hp} (e : Ext H H') (O : List Addr) : Ext (hid O H) (hid O H') := fun a o h => by
  obtain ⟨n, h⟩ := hid_some h
  rw [hid_out n]
  exact e a o h
theorem Ext.unhid {O : List Addr} {H : Hp} : Ext (PD.hid O H) H := fun a o h => .inl (hid_some h).2
theorem Ext.hid_sub {O O' : List Addr} {H : Hp} (h : ∀ a ∈ O', a ∈ O) : Ext (PD.hid O H) (PD.hid O' H) := fun a o e => by
  obtain ⟨n, e⟩ := hid_some e
  exact .inl (by rw [hid_out fun z => n (h a z)]; exact e)
/-- a new address may be hidden -/
theorem Ext.hid_new {O : List Addr} {H : Hp} {p : Addr} {o : HO} (h : H p = none) : Ext (PD.hid O H) (PD.hid (p :: O) (upd H p o)) := fun a u e => by
  obtain ⟨n, e⟩ := hid_some e
  have np : a ≠ p := ne_of_none e h
  refine .inl ?_
  rw [hid_out (by simp [np, n]), upd_ne np]
  exact e
/-- an object that is hidden may change -/
theorem Ext.hid_upd {O : List Addr} {H : Hp} {p : Addr} {o : HO} (h : p ∈ O) : Ext (PD.hid O H) (PD.hid O (upd H p o)) := fun a u e => by
  obtain ⟨n, e⟩ := hid_some e
  have np : a ≠ p := fun z => n (z ▸ h)
  refine .inl ?_
  rw [hid_out n, upd_ne np]
  exact e

section
variable {K : PySem.W.Frag} {H H' : Hp}
theorem Ext.rd (e : Ext H H') {a : Addr} {u : HO} (n : ∀ ps, u ≠ .tbl ps) (h : Rd H a u) : Rd H' a u := by
  rcases h with h | ⟨o, h⟩
  · exact .inl (e.at h n)
  · exact .inr ⟨o, e.at h fun _ => by intro z; cases z⟩
theorem Ext.sl (e : Ext H H') {a : Addr} {xs : List V} (h : SqL K H a xs) : SqL K H' a xs := by
  rcases h with h | h
  · exact .inl (e.rd (fun _ => by intro z; cases z) h)
  · exact .inr h
theorem Ext.st (e : Ext H H') {a : Addr} {xs : List V} (h : SqT K H a xs) : SqT K H' a xs := by
  rcases h with h | h
  · exact .inl (e.rd (fun _ => by intro z; cases z) h)
  · exact .inr h
mutual
theorem Ext.dp (e : Ext H H') : ∀ {d : PyData} {v : V}, Dp K H v d → Dp K H' v d
  | _, _, .non => .non
  | _, _, .bl b => .bl b
  | _, _, .int i => .int i
  | _, _, .str x => .str x
  | _, _, .lst h a => .lst (e.sl h) (Ext.dpa e a)
  | _, _, .tup h a => .tup (e.st h) (Ext.dpa e a)
theorem Ext.dpa (e : Ext H H') : ∀ {ds : List PyData} {vs : List V}, DpAll K H vs ds → DpAll K H' vs ds
  | _, _, .nil => .nil
  | _, _, .cons h t => .cons (Ext.dp e h) (Ext.dpa e t)
end
theorem dpa_len : ∀ {vs : List V} {ds : List PyData}, DpAll K H vs ds → vs.length = ds.length
  | _, _, .nil => rfl
  | _, _, .cons _ t => congrArg Nat.succ (dpa_len t)
theorem dpa_get : ∀ {vs : List V} {ds : List PyData} {i : Nat} {d : PyData}, DpAll K H vs ds → ds[i]? = some d → ∃ v, vs[i]? = some v ∧ Dp K H v d
  | _, _, _, _, .nil, e => by simp at e
  | _, _, 0, _, .cons h _, e => by simp at e; subst e; exact ⟨_, rfl, h⟩
  | _, _, i + 1, _, .cons _ t, e => by
    obtain ⟨v, h1, h2⟩ := dpa_get (i := i) t (by simpa using e)
    exact ⟨v, by simpa using h1, h2⟩
theorem dpa_app : ∀ {vs ws : List V} {ds es : List PyData}, DpAll K H vs ds → DpAll K H ws es → DpAll K H (vs ++ ws) (ds ++ es)
  | _, _, _, _, .nil, h => h
  | _, _, _, _, .cons h t, k => .cons h (dpa_app t k)
theorem dpa_take : ∀ {vs : List V} {ds : List PyData} (n : Nat), DpAll K H vs ds → DpAll K H (vs.take n) (ds.take n)
  | _, _, 0, _ => .nil
  | _, _, _ + 1, .nil => .nil
  | _, _, n + 1, .cons h t => .cons h (dpa_take n t)
theorem dpa_drop : ∀ {vs : List V} {ds : List PyData} (n : Nat), DpAll K H vs ds → DpAll K H (vs.drop n) (ds.drop n)
  | _, _, 0, h => h
  | _, _, _ + 1, .nil => .nil
  | _, _, n + 1, .cons _ t => dpa_drop n t
theorem dpa_set {v : V} {d : PyData} (h : Dp K H v d) : ∀ {vs : List V} {ds : List PyData} (n : Nat), DpAll K H vs ds → DpAll K H (vs.set n v) (ds.set n d)
  | _, _, _, .nil => .nil
  | _, _, 0, .cons _ t => .cons h t
  | _, _, n + 1, .cons h' t => .cons h' (dpa_set h n t)
theorem dp_int {i : Int} {v : V} (h : Dp K H v (.int i)) : v = .int i := by cases h; rfl
theorem dp_str {i : Str} {v : V} (h : Dp K H v (.str i)) : v = .str i := by cases h; rfl
theorem dp_bool {i : Bool} {v : V} (h : Dp K H v (.bool i)) : v = .bl i := by cases h; rfl
theorem dp_none {v : V} (h : Dp K H v .none) : v = .non := by cases h; rfl
theorem dp_tup {ds : List PyData} {v : V} (h : Dp K H v (.tuple ds)) : ∃ a xs, v = .ref a ∧ SqT K H a xs ∧ DpAll K H xs ds := by cases h with | tup a b => exact ⟨_, _, rfl, a, b⟩
theorem dp_lst {ds : List PyData} {v : V} (h : Dp K H v (.list ds)) : ∃ a xs, v = .ref a ∧ SqL K H a xs ∧ DpAll K H xs ds := by cases h with | lst a b => exact ⟨_, _, rfl, a, b⟩
end

/-! ### frames -/
/-- the entry: the heap, what the caller hides -/
structure Zn where
  H0 : Hp
  Oc : List Addr
/-- an instance of the class that the name c holds, with fields that nobody changes -/
def ObR (K : PySem.W.Frag) (H : Hp) (v : V) (c : Str) (fs : List (Str × PyData)) : Prop := ∃ a C dx fvs, v = .ref a ∧ H a = some (.ins C dx fvs) ∧ PySem.W.nsIn K mainGlobals c = some (some (.ref C)) ∧ ∀ f d, fs.lookup f = some d → ∃ x, fvs.lookup f = some x ∧ Dp K H x d
theorem Ext.ob {K : PySem.W.Frag} {H H' : Hp} (e : Ext H H') {v : V} {c : Str} {fs : List (Str × PyData)} : ObR K H v c fs → ObR K H' v c fs := fun ⟨a, C, dx, fvs, h1, h2, h3, h4⟩ =>
  ⟨a, C, dx, fvs, h1, e.at h2 (fun _ z => by cases z), h3, fun f d l => let ⟨x, g1, g2⟩ := h4 f d l; ⟨x, g1, e.dp g2⟩⟩
def SRep (K : PySem.W.Frag) (Oc : List Addr) (H : Hp) (O : List Addr) (v : V) : SV → Prop
  | .fz d => Dp K (hid O H) v d
  | .own ds => ∃ a vs, v = .ref a ∧ a ∈ O ∧ a ∉ Oc ∧ H a = some (.lst vs) ∧ DpAll K (hid O H) vs ds
  | .ob c fs => ObR K (hid O H) v c fs
/-- the tables of code objects that a generator expression may fill -/
class Tbs where
  l : List Addr
theorem tabG_ext {H H' : Hp} (e : Ext H H') {P : Addr} (h : GxR.TabG H P) : GxR.TabG H' P := by
  obtain ⟨ps, h1, h2⟩ := h
  rcases e P _ h1 with h3 | ⟨qs, more, e1, h3, h4⟩
  · exact ⟨ps, h3, h2⟩
  · cases e1
    exact ⟨ps ++ more, h3, h4 h2⟩
structure Rep [Tbs] (K : PySem.W.Frag) (Z : Zn) (env : Env) (σ : Sg) (H : Hp) (O : List Addr) : Prop where
  ex : Ext (hid Z.Oc Z.H0) (hid O H)
  sub : ∀ a ∈ Z.Oc, a ∈ O
  kp : ∀ a ∈ Z.Oc, H a = Z.H0 a
  len : env.length = σ.length
  sl : ∀ (i : Nat) (s : SV), env[i]? = some (some s) → ∃ v, σ[i]? = some (some v) ∧ SRep K Z.Oc H O v s
  nd : ∀ (i j : Nat) (a : Addr) (di dj : List PyData), env[i]? = some (some (.own di)) → env[j]? = some (some (.own dj)) → σ[i]? = some (some (.ref a)) → σ[j]? = some (some (.ref a)) → i = j
  lv : ∀ a ∈ O, ∃ vs, H a = some (.lst vs)
  tb : ∀ P ∈ Tbs.l, GxR.TabG H P
section
variable {K : PySem.W.Frag} {Z : Zn} {H H' : Hp} {env : Env} {σ : Sg} {O : List Addr}
variable [Tbs]
theorem SRep.mono {Oc : List Addr} (e : Ext H H') {v : V} : ∀ {s : SV}, SRep K Oc H O v s → SRep K Oc H' O v s
  | .fz _, h => (e.hid O).dp h
  | .own _, ⟨a, vs, h1, h2, h2', h3, h4⟩ => ⟨a, vs, h1, h2, h2', e.lst h3, (e.hid O).dpa h4⟩
  | .ob _ _, h => (e.hid O).ob h
theorem Rep.mono (e : Ext H H') (r : Rep K Z env σ H O) : Rep K Z env σ H' O :=
  ⟨r.ex.trans (e.hid O), r.sub, fun a ha => by
    obtain ⟨vs, h⟩ := r.lv a (r.sub a ha)
    rw [e.lst h, ← r.kp a ha, h], r.len, fun i s h => let ⟨v, h1, h2⟩ := r.sl i s h; ⟨v, h1, h2.mono e⟩, r.nd, fun a ha => let ⟨vs, h⟩ := r.lv a ha; ⟨vs, e.lst h⟩, fun P hP => tabG_ext e (r.tb P hP)⟩
theorem Rep.notin (r : Rep K Z env σ H O) {p : Addr} (h : H p = none) : p ∉ O := fun z => by
  obtain ⟨vs, q⟩ := r.lv p z
  rw [h] at q; cases q
/-- what stood at the entry stands -/
theorem Rep.whole (r : Rep K Z env σ H O) : Ext Z.H0 H := fun a o h => by
  by_cases ha : a ∈ Z.Oc
  · exact .inl (by rw [r.kp a ha]; exact h)
  · have h1 : hid Z.Oc Z.H0 a = some o := by rw [hid_out ha]; exact h
    exact (r.ex.trans Ext.unhid) a o h1
theorem set_some {α : Type} {l : List (Option α)} {i j : Nat} {x : Option α} {s : α} (e : (l.set i x)[j]? = some (some s)) : (j = i ∧ j < l.length ∧ x = some s) ∨ (j ≠ i ∧ l[j]? = some (some s)) := by
  by_cases hj : j = i
  · subst hj
    by_cases z : j < l.length
    · rw [List.getElem?_set_self z] at e
      exact .inl ⟨rfl, z, Option.some.inj e⟩
    · rw [List.getElem?_eq_none (by simpa using z)] at e; cases e
  · rw [List.getElem?_set_ne (Ne.symm hj)] at e
    exact .inr ⟨hj, e⟩
/-- a name is stored -/
theorem Rep.setFz (r : Rep K Z env σ H O) (i : Nat) {v : V} {d : PyData} (h : Dp K (hid O H) v d) : Rep K Z (env.set i (some (.fz d))) (σ.set i (some v)) H O := by
  refine ⟨r.ex, r.sub, r.kp, by simp [r.len], fun j s e => ?_, fun j k a dj dk e1 e2 s1 s2 => ?_, r.lv, r.tb⟩
  · rcases set_some e with ⟨rfl, hl, e⟩ | ⟨hj, e⟩
    · cases e
      exact ⟨v, List.getElem?_set_self (by rw [← r.len]; exact hl), h⟩
    · obtain ⟨w, h1, h2⟩ := r.sl j s e
      exact ⟨w, by rw [List.getElem?_set_ne (Ne.symm hj)]; exact h1, h2⟩
  · rcases set_some e1 with ⟨_, _, e⟩ | ⟨n1, e1⟩
    · cases e
    rcases set_some e2 with ⟨_, _, e⟩ | ⟨n2, e2⟩
    · cases e
    rw [List.getElem?_set_ne (Ne.symm n1)] at s1
    rw [List.getElem?_set_ne (Ne.symm n2)] at s2
    exact r.nd j k a dj dk e1 e2 s1 s2
theorem Rep.setNone (r : Rep K Z env σ H O) (i : Nat) (x : Option V) : Rep K Z (env.set i none) (σ.set i x) H O := by
  refine ⟨r.ex, r.sub, r.kp, by simp [r.len], fun j s e => ?_, fun j k a dj dk e1 e2 s1 s2 => ?_, r.lv, r.tb⟩
  · rcases set_some e with ⟨_, _, e⟩ | ⟨hj, e⟩
    · cases e
    obtain ⟨w, h1, h2⟩ := r.sl j s e
    exact ⟨w, by rw [List.getElem?_set_ne (Ne.symm hj)]; exact h1, h2⟩
  · rcases set_some e1 with ⟨_, _, e⟩ | ⟨n1, e1⟩
    · cases e
    rcases set_some e2 with ⟨_, _, e⟩ | ⟨n2, e2⟩
    · cases e
    rw [List.getElem?_set_ne (Ne.symm n1)] at s1
    rw [List.getElem?_set_ne (Ne.symm n2)] at s2
    exact r.nd j k a dj dk e1 e2 s1 s2
/-- a new list of this frame's own is stored -/
theorem Rep.setOwn (r : Rep K Z env σ H O) (i : Nat) {p : Addr} {vs : List V} {ds : List PyData} (hp : H p = none) (h : DpAll K (hid O H) vs ds) : Rep K Z (env.set i (some (.own ds))) (σ.set i (some (.ref p))) (upd H p (.lst vs)) (p :: O) := by
  have np := r.notin hp
  have ex1 : Ext (hid O H) (hid (p :: O) (upd H p (.lst vs))) := Ext.hid_new hp
  have old : ∀ {j : Nat} {a : Addr} {dj : List PyData}, env[j]? = some (some (.own dj)) → σ[j]? = some (some (.ref a)) → a ≠ p := fun {j a dj} e s z => by
    obtain ⟨v, h1, b, ws, rfl, hb, _, h3, _⟩ := r.sl j _ e
    rw [s] at h1
    have e1 : a = b := by injection h1 with h1; injection h1 with h1; injection h1
    rw [← e1, z] at h3
    rw [hp] at h3; cases h3
  refine ⟨r.ex.trans ex1, fun a ha => List.mem_cons_of_mem _ (r.sub a ha), fun a ha => ?_, by simp [r.len], fun j s e => ?_, fun j k a dj dk e1 e2 s1 s2 => ?_, fun a ha => ?_, fun P hP => tabG_ext (Ext.new hp) (r.tb P hP)⟩
  · obtain ⟨ws, h3⟩ := r.lv a (r.sub a ha)
    rw [upd_ne (ne_of_none h3 hp)]
    exact r.kp a ha
  · rcases set_some e with ⟨rfl, hl, e⟩ | ⟨hj, e⟩
    · cases e
      exact ⟨.ref p, List.getElem?_set_self (by rw [← r.len]; exact hl), p, vs, rfl, List.mem_cons_self, fun z => np (r.sub p z), upd_same, ex1.dpa h⟩
    · obtain ⟨w, h1, h2⟩ := r.sl j s e
      refine ⟨w, by rw [List.getElem?_set_ne (Ne.symm hj)]; exact h1, ?_⟩
      cases s with
      | fz d => exact ex1.dp h2
      | ob c fs => exact ex1.ob h2
      | own dj =>
        obtain ⟨b, ws, e1, hb, hc, h3, h4⟩ := h2
        exact ⟨b, ws, e1, List.mem_cons_of_mem _ hb, hc, by rw [upd_ne (ne_of_none h3 hp)]; exact h3, ex1.dpa h4⟩
  · have own_p : ∀ {j : Nat} {a : Addr}, j < env.length → (σ.set j (some (V.ref p)))[j]? = some (some (V.ref a)) → a = p := fun {j a} hl s => by
      rw [List.getElem?_set_self (by rw [← r.len]; exact hl)] at s
      injection s with s; injection s with s; injection s with s; exact s.symm
    rcases set_some e1 with ⟨rfl, l1, _⟩ | ⟨n1, f1⟩
    · rcases set_some e2 with ⟨rfl, l2, _⟩ | ⟨n2, f2⟩
      · rfl
      · rw [List.getElem?_set_ne (Ne.symm n2)] at s2
        exact absurd (own_p l1 s1) (old f2 s2)
    · rcases set_some e2 with ⟨rfl, l2, _⟩ | ⟨n2, f2⟩
      · rw [List.getElem?_set_ne (Ne.symm n1)] at s1
        exact absurd (own_p l2 s2) (old f1 s1)
      · rw [List.getElem?_set_ne (Ne.symm n1)] at s1
        rw [List.getElem?_set_ne (Ne.symm n2)] at s2
        exact r.nd j k a dj dk f1 f2 s1 s2
  · rcases List.mem_cons.mp ha with e | ha
    · exact ⟨vs, by rw [e, upd_same]⟩
    · obtain ⟨ws, h3⟩ := r.lv a ha
      exact ⟨ws, by rw [upd_ne (ne_of_none h3 hp)]; exact h3⟩
/-- the own list of slot i becomes another -/
theorem Rep.mutOwn (r : Rep K Z env σ H O) {i : Nat} {p : Addr} {vs : List V} {ds0 ds : List PyData} (he : env[i]? = some (some (.own ds0))) (hs : σ[i]? = some (some (.ref p))) (h : DpAll K (hid O H) vs ds) :
    Rep K Z (env.set i (some (.own ds))) σ (upd H p (.lst vs)) O := by
  obtain ⟨v, h1, a, ws, rfl, ha, hc, h3, _⟩ := r.sl i _ he
  rw [hs] at h1
  have e1 : p = a := by injection h1 with h1; injection h1 with h1; injection h1
  subst e1
  have ex1 : Ext (hid O H) (hid O (upd H p (.lst vs))) := Ext.hid_upd ha
  have back : ∀ {j : Nat} {dj : List PyData}, (env.set i (some (.own ds)))[j]? = some (some (.own dj)) → ∃ dj', env[j]? = some (some (.own dj')) := fun {j dj} e => by
    rcases set_some e with ⟨rfl, _, _⟩ | ⟨_, e⟩
    · exact ⟨_, he⟩
    · exact ⟨_, e⟩
  refine ⟨r.ex.trans ex1, r.sub, fun a ha' => ?_, by simp [r.len], fun j s e => ?_, fun j k a dj dk e1 e2 s1 s2 => ?_, fun a ha' => ?_, fun P hP => by
    obtain ⟨ps, q1, q2⟩ := r.tb P hP
    obtain ⟨ws', q3⟩ := r.lv p ha
    exact ⟨ps, by rw [upd_ne (ne_of q1 q3 (fun z => by cases z))]; exact q1, q2⟩⟩
  · rw [upd_ne (show a ≠ p from fun z => hc (z ▸ ha'))]
    exact r.kp a ha'
  · rcases set_some e with ⟨rfl, _, e⟩ | ⟨hj, e⟩
    · cases e
      exact ⟨.ref p, hs, p, vs, rfl, ha, hc, upd_same, ex1.dpa h⟩
    · obtain ⟨w, h1, h2⟩ := r.sl j s e
      refine ⟨w, h1, ?_⟩
      cases s with
      | fz d => exact ex1.dp h2
      | ob c fs => exact ex1.ob h2
      | own dj =>
        obtain ⟨b, ws, e1, hb, hcb, h3', h4⟩ := h2
        refine ⟨b, ws, e1, hb, hcb, ?_, ex1.dpa h4⟩
        have nb : b ≠ p := fun z => hj (r.nd j i p dj ds0 e he (by rw [h1, e1, z]) hs)
        rw [upd_ne nb]
        exact h3'
  · obtain ⟨x1, y1⟩ := back e1
    obtain ⟨x2, y2⟩ := back e2
    exact r.nd j k a x1 x2 y1 y2 s1 s2
  · by_cases z : a = p
    · exact ⟨vs, by rw [z, upd_same]⟩
    · obtain ⟨ws, h3⟩ := r.lv a ha'
      exact ⟨ws, by rw [upd_ne z]; exact h3⟩
/-- the own list of slot i is changed no more -/
theorem Rep.freeze (r : Rep K Z env σ H O) {i : Nat} {ds : List PyData} (he : env[i]? = some (some (.own ds))) : ∃ O', Rep K Z (env.set i (some (.fz (.list ds)))) σ H O' ∧ (∀ a ∈ O', a ∈ O) := by
  obtain ⟨v, h1, p, ws, rfl, ha, hc, h3, h4⟩ := r.sl i _ he
  have sub' : ∀ a ∈ O.filter (fun b => decide (b ≠ p)), a ∈ O := fun a ha => (List.mem_filter.mp ha).1
  have np : p ∉ O.filter (fun b => decide (b ≠ p)) := fun z => by
    have := (List.mem_filter.mp z).2
    simp at this
  have ex1 : Ext (hid O H) (hid (O.filter (fun b => decide (b ≠ p))) H) := Ext.hid_sub sub'
  refine ⟨O.filter (fun b => decide (b ≠ p)), ⟨r.ex.trans ex1, fun a ha' => List.mem_filter.mpr ⟨r.sub a ha', decide_eq_true fun (z : a = p) => hc (z ▸ ha')⟩, r.kp, by simp [r.len], fun j s e => ?_, fun j k a dj dk e1 e2 s1 s2 => ?_, fun a ha' => r.lv a (sub' a ha'), r.tb⟩, sub'⟩
  · rcases set_some e with ⟨rfl, _, e⟩ | ⟨hj, e⟩
    · cases e
      refine ⟨.ref p, h1, .lst (SqL.of ?_) (ex1.dpa h4)⟩
      rw [hid_out np]
      exact h3
    · obtain ⟨w, h1', h2⟩ := r.sl j s e
      refine ⟨w, h1', ?_⟩
      cases s with
      | fz d => exact ex1.dp h2
      | ob c fs => exact ex1.ob h2
      | own dj =>
        obtain ⟨b, ws', e1, hb, hcb, h3', h4'⟩ := h2
        have nb : b ≠ p := fun z => hj (r.nd j i p dj ds e he (by rw [h1', e1, z]) h1)
        exact ⟨b, ws', e1, List.mem_filter.mpr ⟨hb, by simpa using nb⟩, hcb, h3', ex1.dpa h4'⟩
  · rcases set_some e1 with ⟨_, _, e⟩ | ⟨n1, e1⟩
    · cases e
    rcases set_some e2 with ⟨_, _, e⟩ | ⟨n2, e2⟩
    · cases e
    exact r.nd j k a dj dk e1 e2 s1 s2
end
end PD
set_option Elab.async false
set_option linter.all false
set_option maxRecDepth 100000
set_option maxHeartbeats 4000000
namespace PD
open PySem PySem.Spec PyProof.Rows L2

/-! ### the machine's own readings -/
section
variable (X : Cx)
def wpE (e : Expr) : TE := fun σ H Q => ∀ pins s, Inv X pins σ H s → wpAny (model X.prog X.w) X.A (eval e X.env) (EP X pins σ Q) X.xe s
def wpT (e : Expr) : TT := fun σ H Q => ∀ pins s, Inv X pins σ H s → wpAny (model X.prog X.w) X.A (isTrue e X.env (eval e X.env)) (TP X pins σ Q) X.xe s
def wpW (e : Expr) : TT := fun σ H Q => ∀ whole pins s, Inv X pins σ H s → wpAny (model X.prog X.w) X.A (isTrue e X.env whole) (TP X pins σ Q) X.xe s
def wpA (es : List Expr) : TA := fun σ H Q => ∀ pos pins s, Inv X pins σ H s → wpAny (model X.prog X.w) X.A (spliced (backTo pos (starEach es X.env))) (AP X pins σ Q) X.xe s
def wpS (st : Stmt) : TS := fun D σ H => ∀ pins s, Inv X pins σ H s → wpAny (model X.prog X.w) X.A (exec st X.env) (SP X pins D) X.xe s
def wpSs (st : List Stmt) : TS := fun D σ H => ∀ pins s, Inv X pins σ H s → wpAny (model X.prog X.w) X.A (execs st X.env) (SP X pins D) X.xe s
def wpG (tg : Expr) : TG := fun v σ H Q => ∀ pins s u, Inv X pins σ H s → RelV v u → wpAny (model X.prog X.w) X.A (assign tg X.env u) (fun _ s' => ∃ σ' H', Inv X pins σ' H' s' ∧ Q σ' H') X.xe s
def wpI (tg iter : Expr) : TI := fun σ H R => ∀ pins s, Inv X pins σ H s → wpAny (model X.prog X.w) X.A (eval iter X.env) (fun v s1 => wpAny (model X.prog X.w) X.A (pyIter v) (PIE X pins σ tg R) X.xe s1) X.xe s
end
section
variable {X : Cx} {e : Expr} {es : List Expr} {st : Stmt} {sts : List Stmt} {tg iter : Expr}
variable [Tbs]
theorem pe_wp : PE X e (wpE X e) := ⟨fun pins s _ _ _ I h => h pins s I⟩
theorem pt_wp : PT X e (wpT X e) := ⟨fun pins s _ _ _ I h => h pins s I⟩
theorem pw_wp : PW X e (wpW X e) := ⟨fun wh pins s _ _ _ I h => h wh pins s I⟩
theorem pa_wp : PA X es (wpA X es) := ⟨fun pos pins s _ _ _ I h => h pos pins s I⟩
theorem ps_wp : PS X st (wpS X st) := ⟨fun pins s _ _ _ I h => h pins s I⟩
theorem pss_wp : PSs X sts (wpSs X sts) := ⟨fun pins s _ _ _ I h => h pins s I⟩
theorem pg_wp : PG X tg (wpG X tg) := ⟨fun pins s _ _ _ u _ I r h => h pins s u I r⟩
theorem pi_wp : PI X tg iter (wpI X tg iter) := ⟨fun pins s _ _ _ I h => h pins s I⟩
variable {σ : Sg} {H : Hp}
theorem wp_e {t : TE} (p : PE X e t) {Q : VK} (h : t σ H Q) : wpE X e σ H Q := fun pins s I => p.run pins s σ H Q I h
theorem wp_t {t : TT} (p : PT X e t) {Q : Bool → Hp → Prop} (h : t σ H Q) : wpT X e σ H Q := fun pins s I => p.run pins s σ H Q I h
theorem wp_w {t : TT} (p : PW X e t) {Q : Bool → Hp → Prop} (h : t σ H Q) : wpW X e σ H Q := fun wh pins s I => p.run wh pins s σ H Q I h
theorem wp_a {t : TA} (p : PA X es t) {Q : List V → Hp → Prop} (h : t σ H Q) : wpA X es σ H Q := fun pos pins s I => p.run pos pins s σ H Q I h
theorem wp_s {t : TS} (p : PS X st t) {D : Ends} (h : t D σ H) : wpS X st D σ H := fun pins s I => p.run pins s σ H D I h
theorem wp_ss {t : TS} (p : PSs X sts t) {D : Ends} (h : t D σ H) : wpSs X sts D σ H := fun pins s I => p.run pins s σ H D I h
theorem wp_g {t : TG} (p : PG X tg t) {v : V} {Q : L2.St → Hp → Prop} (h : t v σ H Q) : wpG X tg v σ H Q := fun pins s u I r => p.run pins s σ H v u Q I r h
theorem wp_i {t : TI} (p : PI X tg iter t) {R : It → Hp → Prop} (h : t σ H R) : wpI X tg iter σ H R := fun pins s I => p.run pins s σ H R I h
end

/-! ### an exception by its class's name and its fields -/
def ExR (mg : Str → Option Value) (K : PySem.W.Frag) (H : Hp) (c : Str) (fl : Flds) (C : Value) (od : Option Addr) : Prop :=
  mg c = some C ∧ ((fl = [] ∧ od = none) ∨ (fl ≠ [] ∧ ∃ d fs, od = some d ∧ H d = some (.xd fs) ∧ fs.map (·.1) = fl.map (·.1) ∧ DpAll K H (fs.map (·.2)) (fl.map (·.2))))
theorem ExR.mono {mg : Str → Option Value} {K : PySem.W.Frag} {H H' : Hp} {c : Str} {fl : Flds} {C : Value} {od : Option Addr} (e : Ext H H') (h : ExR mg K H c fl C od) : ExR mg K H' c fl C od := by
  refine ⟨h.1, ?_⟩
  rcases h.2 with h | ⟨n, d, fs, e1, e2, e3, e4⟩
  · exact .inl h
  · exact .inr ⟨n, d, fs, e1, e.at e2 (by intro ps z; cases z), e3, e.dpa e4⟩

/-- what an outcome asks -/
def ROk {α : Type} (X : Cx) (W : WX) (σ : Sg) (O : List Addr) (P : α → Hp → Prop) (H : Hp) : RO α → Prop
  | .ok a => ∀ H', Ext H H' → P a H'
  | .er c fl => ∀ C od H', Ext H H' → ExR X.mg X.K (hid O H') c fl C od → W C od σ H'
  | .no => False
theorem ROk.mono {α : Type} {X : Cx} {W : WX} {σ : Sg} {O : List Addr} {P : α → Hp → Prop} {H H' : Hp} (e : Ext H H') : ∀ {r : RO α}, ROk X W σ O P H r → ROk X W σ O P H' r
  | .ok _, h => fun H2 e2 => h H2 (e.trans e2)
  | .er _ _, h => fun C od H2 e2 => h C od H2 (e.trans e2)
  | .no, h => h
/-- a value, its data frozen; a value, its data as they stand -/
def VQ (K : PySem.W.Frag) (O : List Addr) (Q : VK) (d : PyData) (H : Hp) : Prop := ∀ v, Dp K (hid O H) v d → Q v H

def AQ (K : PySem.W.Frag) (O : List Addr) (Q : List V → Hp → Prop) (ds : List PyData) (H : Hp) : Prop := ∀ vs, DpAll K (hid O H) vs ds → Q vs H

def CE [Tbs] (X : Cx) (W : WX) (e : Expr) (f : E) : Prop := ∀ Z env σ H O Q, Rep X.K Z env σ H O → ROk X W σ O (VQ X.K O Q) H (f env) → wpE X e σ H Q
def CB [Tbs] (X : Cx) (W : WX) (e : Expr) (f : E) : Prop := ∀ Z env σ H O Q, Rep X.K Z env σ H O → ROk X W σ O (VQ X.K Z.Oc Q) H (f env) → wpE X e σ H Q
def CT [Tbs] (X : Cx) (W : WX) (e : Expr) (f : T) : Prop := ∀ Z env σ H O Q, Rep X.K Z env σ H O → ROk X W σ O Q H (f env) → wpT X e σ H Q
def CW [Tbs] (X : Cx) (W : WX) (e : Expr) (f : T) : Prop := ∀ Z env σ H O Q, Rep X.K Z env σ H O → ROk X W σ O Q H (f env) → wpW X e σ H Q
def CA [Tbs] (X : Cx) (W : WX) (es : List Expr) (f : Env → RO (List PyData)) : Prop := ∀ Z env σ H O Q, Rep X.K Z env σ H O → ROk X W σ O (AQ X.K O Q) H (f env) → wpA X es σ H Q
/-- a new list that nobody else holds -/
def LQ (K : PySem.W.Frag) (O : List Addr) (Q : VK) (ds : List PyData) (H : Hp) : Prop := ∀ p vs, H p = none → DpAll K (hid O H) vs ds → Q (.ref p) (upd H p (.lst vs))
def CL [Tbs] (X : Cx) (W : WX) (e : Expr) (f : Env → RO (List PyData)) : Prop := ∀ Z env σ H O Q, Rep X.K Z env σ H O → ROk X W σ O (LQ X.K O Q) H (f env) → wpE X e σ H Q

section
variable {X : Cx} {W : WX} {e a b : Expr} {es : List Expr} {f fa fb : E} {Z : Zn} {env : Env} {σ : Sg} {H : Hp} {O : List Addr}
variable [Tbs]
/-- what follows a part -/
theorem ROk.then {α β : Type} {r : RO α} {g : α → RO β} {P : β → Hp → Prop} {P' : α → Hp → Prop} (q : ROk X W σ O P H (r >>= g)) (h : ∀ d H1, r = .ok d → Ext H H1 → ROk X W σ O P H1 (g d) → P' d H1) : ROk X W σ O P' H r := by
  cases r with
  | ok d => exact fun H1 e1 => h d H1 rfl e1 (ROk.mono e1 q)
  | er c fl => exact q
  | no => exact q
theorem CE.go {β : Type} {g : PyData → RO β} {P : β → Hp → Prop} {Q : VK} (h : CE X W e f) (r : Rep X.K Z env σ H O) (q : ROk X W σ O P H (f env >>= g))
    (k : ∀ d v H1, Ext H H1 → Dp X.K (hid O H1) v d → Rep X.K Z env σ H1 O → ROk X W σ O P H1 (g d) → Q v H1) : wpE X e σ H Q :=
  h Z env σ H O Q r (q.then fun d H1 _ e1 q1 v hv => k d v H1 e1 hv (r.mono e1) q1)
theorem CB.go {β : Type} {g : PyData → RO β} {P : β → Hp → Prop} {Q : VK} (h : CB X W e f) (r : Rep X.K Z env σ H O) (q : ROk X W σ O P H (f env >>= g))
    (k : ∀ d v H1, Ext H H1 → Dp X.K (hid Z.Oc H1) v d → Rep X.K Z env σ H1 O → ROk X W σ O P H1 (g d) → Q v H1) : wpE X e σ H Q :=
  h Z env σ H O Q r (q.then fun d H1 _ e1 q1 v hv => k d v H1 e1 hv (r.mono e1) q1)
theorem CT.go {β : Type} {ft : T} {g : Bool → RO β} {P : β → Hp → Prop} {Q : Bool → Hp → Prop} (h : CT X W e ft) (r : Rep X.K Z env σ H O) (q : ROk X W σ O P H (ft env >>= g))
    (k : ∀ d H1, Ext H H1 → Rep X.K Z env σ H1 O → ROk X W σ O P H1 (g d) → Q d H1) : wpT X e σ H Q :=
  h Z env σ H O Q r (q.then fun d H1 _ e1 q1 => k d H1 e1 (r.mono e1) q1)
theorem CW.go {β : Type} {ft : T} {g : Bool → RO β} {P : β → Hp → Prop} {Q : Bool → Hp → Prop} (h : CW X W e ft) (r : Rep X.K Z env σ H O) (q : ROk X W σ O P H (ft env >>= g))
    (k : ∀ d H1, Ext H H1 → Rep X.K Z env σ H1 O → ROk X W σ O P H1 (g d) → Q d H1) : wpW X e σ H Q :=
  h Z env σ H O Q r (q.then fun d H1 _ e1 q1 => k d H1 e1 (r.mono e1) q1)
theorem CA.go {β : Type} {ft : Env → RO (List PyData)} {g : List PyData → RO β} {P : β → Hp → Prop} {Q : List V → Hp → Prop} (h : CA X W es ft) (r : Rep X.K Z env σ H O) (q : ROk X W σ O P H (ft env >>= g))
    (k : ∀ d v H1, Ext H H1 → DpAll X.K (hid O H1) v d → Rep X.K Z env σ H1 O → ROk X W σ O P H1 (g d) → Q v H1) : wpA X es σ H Q :=
  h Z env σ H O Q r (q.then fun d H1 _ e1 q1 v hv => k d v H1 e1 hv (r.mono e1) q1)
/-- the outcome as it stands -/
theorem ROk.self {α : Type} {r : RO α} {P : α → Hp → Prop} (q : ROk X W σ O P H r) : ROk X W σ O P H (r >>= fun x => .ok x) := by
  cases r <;> exact q
theorem ROk.here {α : Type} {x : α} {P : α → Hp → Prop} (q : ROk X W σ O P H (.ok x)) : P x H := q H (Ext.refl H)
theorem CE.cb (h : CE X W e f) : CB X W e f := fun Z env σ H O Q r q => h Z env σ H O Q r (by
  cases hf : f env with
  | ok d => rw [hf] at q; exact fun H1 e1 v hv => q H1 e1 v ((Ext.hid_sub r.sub).dp hv)
  | er c fl => rw [hf] at q; exact q
  | no => rw [hf] at q; exact q)
theorem CE.of_eq (h : CE X W e f) {g : E} (hg : g = f) : CE X W e g := hg ▸ h

/-! ### names, constants -/
def gv (env : Env) (i : Nat) : RO PyData := match env[i]? with
  | some (some (.fz d)) => .ok d
  | _ => .no
def gvo (env : Env) (i : Nat) : RO (List PyData) := match env[i]? with
  | some (some (.own d)) => .ok d
  | _ => .no
def eVar (i : Nat) : E := fun env => gv env i
def eC (d : PyData) : E := fun _ => .ok d
theorem gv_ok {i : Nat} {d : PyData} (h : gv env i = .ok d) : env[i]? = some (some (.fz d)) := by
  unfold gv at h
  split at h
  · cases h; assumption
  · cases h
theorem gvo_ok {i : Nat} {d : List PyData} (h : gvo env i = .ok d) : env[i]? = some (some (.own d)) := by
  unfold gvo at h
  split at h
  · cases h; assumption
  · cases h
theorem gv_cases (env : Env) (i : Nat) : (∃ d, gv env i = .ok d) ∨ gv env i = .no := by
  unfold gv
  split
  · exact .inl ⟨_, rfl⟩
  · exact .inr rfl
theorem gvo_cases (env : Env) (i : Nat) : (∃ d, gvo env i = .ok d) ∨ gvo env i = .no := by
  unfold gvo
  split
  · exact .inl ⟨_, rfl⟩
  · exact .inr rfl
theorem ce_var (i : Nat) {x : Str} {pos : Pos} (hN : X.N[i]? = some x := by rfl) (hv : Vis X.env.scope x := by first | exact Or.inl rfl | exact Or.inr (Or.inl rfl) | exact Or.inr (Or.inr rfl)) (hd : (x == ("__debug__" : Str)) = false := by decide)
    (hcd : (x == ("__classdict__" : Str)) = false := by decide) : CE X W (.Name x pos) (eVar i) := fun Z env σ H O Q r q => by
  refine wp_e (pe_var hN hv hd hcd) ?_
  rcases gv_cases env i with ⟨d, e⟩ | e
  · obtain ⟨v, h1, h2⟩ := r.sl i _ (gv_ok e)
    have q' : ROk X W σ O (VQ X.K O Q) H (.ok d) := by rw [← e]; exact q
    exact ⟨v, h1, q'.here v h2⟩
  · have q' : ROk X W σ O (VQ X.K O Q) H (.no) := by rw [← e]; exact q
    exact q'.elim
theorem ce_int {i : Int} {j pos} : CE X W (.Constant (.int i) j pos) (eC (.int i)) := fun Z env σ H O Q r q => wp_e pe_int (ROk.here q _ (.int i))
theorem ce_str {i : Str} {j pos} : CE X W (.Constant (.str i) j pos) (eC (.str i)) := fun Z env σ H O Q r q => wp_e pe_str (ROk.here q _ (.str i))
theorem ce_bl {i : Bool} {j pos} : CE X W (.Constant (.bool i) j pos) (eC (.bool i)) := fun Z env σ H O Q r q => wp_e pe_bl (ROk.here q _ (.bl i))
theorem ce_non {j pos} : CE X W (.Constant .none j pos) (eC .none) := fun Z env σ H O Q r q => wp_e pe_non (ROk.here q _ .non)

/-! ### operators -/
def ofO {α : Type} : Option α → RO α
  | some a => .ok a
  | none => .no
/-- all that is hidden stands -/
abbrev Lv (O : List Addr) (H : Hp) : Prop := ∀ a ∈ O, ∃ vs, H a = some (.lst vs)
theorem Lv.out {O : List Addr} {H : Hp} (l : Lv O H) {p : Addr} (h : H p = none) : p ∉ O := fun z => by
  obtain ⟨vs, q⟩ := l p z
  rw [h] at q; cases q
/-- a new tuple, a new list, seen behind what is hidden -/
theorem dp_newT {K : PySem.W.Frag} (l : Lv O H) {p : Addr} (hp : H p = none) {vs : List V} {ds : List PyData} (h : DpAll K (hid O H) vs ds) : Dp K (hid O (upd H p (.tup vs))) (.ref p) (.tuple ds) := by
  have np := l.out hp
  refine .tup (SqT.of ?_) (((Ext.new hp).hid O).dpa h)
  rw [hid_out np, upd_same]
theorem dp_newL {K : PySem.W.Frag} (l : Lv O H) {p : Addr} (hp : H p = none) {vs : List V} {ds : List PyData} (h : DpAll K (hid O H) vs ds) : Dp K (hid O (upd H p (.lst vs))) (.ref p) (.list ds) := by
  have np := l.out hp
  refine .lst (SqL.of ?_) (((Ext.new hp).hid O).dpa h)
  rw [hid_out np, upd_same]
theorem CL.ce {fl : Env → RO (List PyData)} (h : CL X W e fl) : CE X W e (fun env => fl env >>= fun ds => .ok (.list ds)) := fun Z env σ H O Q r q =>
  h Z env σ H O Q r (q.then fun ds H1 _ e1 q1 p vs hp hd => q1 _ (Ext.new hp) _ (dp_newL (r.mono e1).lv hp hd))

/-- an operation on values, by their data -/
def BinR (X : Cx) (f : Value → Value → Sem Value) (b : PyData → PyData → Option PyData) : Prop := ∀ dx dy d, b dx dy = some d → ∃ r : R2, OpR X f r ∧
  ∀ O H vx vy Q, Lv O H → Dp X.K (hid O H) vx dx → Dp X.K (hid O H) vy dy → (∀ v H', Ext H H' → Dp X.K (hid O H') v d → Q v H') → r vx vy H Q
/-- the same where the data may be a list of the frame's own, and the answer is none -/
def BinB (X : Cx) (f : Value → Value → Sem Value) (b : PyData → PyData → Option PyData) : Prop := ∀ dx dy d, b dx dy = some d → ∃ r : R2, OpR X f r ∧
  ∀ H vx vy Q, Dp X.K H vx dx → Dp X.K H vy dy → (∀ v, (∀ H', Dp X.K H' v d) → Q v H) → r vx vy H Q
theorem ce_op [Tbs] {op : Operator} {bi : PyData → PyData → Option PyData} {pos : Pos} (ho : BinR X (binaryOp op) bi) (ha : CE X W a fa) (hb : CE X W b fb) :
    CE X W (.BinOp a op b pos) (fun env => fa env >>= fun x => fb env >>= fun y => ofO (bi x y)) := fun Z env σ H O Q r q => by
  have key : ∀ dx dy, (∃ d, bi dx dy = some d) ∨ bi dx dy = none := fun dx dy => by
    cases bi dx dy with
    | some d => exact .inl ⟨d, rfl⟩
    | none => exact .inr rfl
  -- the operation's reading is one for all values
  let R : R2 := fun vx vy H Q => ∃ (r : R2), OpR X (binaryOp op) r ∧ r vx vy H Q
  have hR : OpR X (binaryOp op) R := fun pins s σ H x y v u Q I rx ry ⟨r, h1, h2⟩ => h1 pins s σ H x y v u Q I rx ry h2
  refine wp_e (pe_op hR pe_wp pe_wp) ?_
  refine ha.go r q fun dx vx H1 e1 d1 r1 q1 => ?_
  refine hb.go r1 q1 fun dy vy H2 e2 d2 r2 q2 => ?_
  rcases key dx dy with ⟨d, e⟩ | e
  · rw [e] at q2
    obtain ⟨rr, h1, h2⟩ := ho dx dy d e
    exact ⟨rr, h1, h2 O H2 vx vy Q r2.lv ((e2.hid O).dp d1) d2 fun v H' e' hv => q2 H' e' v hv⟩
  · rw [e] at q2
    exact q2.elim
theorem ce_cmp [Tbs] {op : CmpOp} {bi : PyData → PyData → Option PyData} {pos : Pos} (ho : BinB X (compareOp op) bi) (ha : CB X W a fa) (hb : CB X W b fb) (hm : behindInMarks op b = false := by first | exact nobehind _ (by decide) (by decide) | rfl) :
    CE X W (.Compare a [op] [b] pos) (fun env => fa env >>= fun x => fb env >>= fun y => ofO (bi x y)) := fun Z env σ H O Q r q => by
  let R : R2 := fun vx vy H Q => ∃ (r : R2), OpR X (compareOp op) r ∧ r vx vy H Q
  have hR : OpR X (compareOp op) R := fun pins s σ H x y v u Q I rx ry ⟨r, h1, h2⟩ => h1 pins s σ H x y v u Q I rx ry h2
  refine wp_e (pe_cmpR hR pe_wp pe_wp hm) ?_
  refine ha.go r q fun dx vx H1 e1 d1 r1 q1 => ?_
  refine hb.go r1 q1 fun dy vy H2 e2 d2 r2 q2 => ?_
  cases e : bi dx dy with
  | some d =>
    rw [e] at q2
    obtain ⟨rr, h1, h2⟩ := ho dx dy d e
    exact ⟨rr, h1, h2 H2 vx vy Q (e2.dp (Ext.unhid.dp d1)) (Ext.unhid.dp d2) fun v hv => q2.here v (hv _)⟩
  | none =>
    rw [e] at q2
    exact q2.elim
def tb (d : PyData) : RO Bool := match d with
  | .bool b => .ok b
  | _ => .no
theorem ct_cmp [Tbs] {op : CmpOp} {bi : PyData → PyData → Option PyData} {pos : Pos} (ho : BinB X (compareOp op) bi) (ha : CB X W a fa) (hb : CB X W b fb) (hm : behindInMarks op b = false := by first | exact nobehind _ (by decide) (by decide) | rfl) :
    CT X W (.Compare a [op] [b] pos) (fun env => fa env >>= fun x => fb env >>= fun y => ofO (bi x y) >>= tb) := fun Z env σ H O Q r q => by
  let R : R2 := fun vx vy H Q => ∃ (r : R2), OpR X (compareOp op) r ∧ r vx vy H Q
  have hR : OpR X (compareOp op) R := fun pins s σ H x y v u Q I rx ry ⟨r, h1, h2⟩ => h1 pins s σ H x y v u Q I rx ry h2
  refine wp_t (pt_cmpR hR pe_wp pe_wp hm) ?_
  refine ha.go r q fun dx vx H1 e1 d1 r1 q1 => ?_
  refine hb.go r1 q1 fun dy vy H2 e2 d2 r2 q2 => ?_
  cases e : bi dx dy with
  | some d =>
    rw [e] at q2
    obtain ⟨rr, h1, h2⟩ := ho dx dy d e
    refine ⟨rr, h1, h2 H2 vx vy _ (e2.dp (Ext.unhid.dp d1)) (Ext.unhid.dp d2) fun v hv => ?_⟩
    cases d with
    | bool k =>
      have := dp_bool (hv H2)
      subst this
      exact ⟨k, rfl, q2.here⟩
    | _ => exact q2.elim
  | none =>
    rw [e] at q2
    exact q2.elim
/-- -a and the like -/
def UnD (X : Cx) (f : Value → Sem Value) (b : PyData → Option PyData) : Prop := ∀ dx d, b dx = some d → ∃ r : V → Hp → VK → Prop, UnR X f r ∧
  ∀ H vx Q, Dp X.K H vx dx → (∀ v, (∀ H', Dp X.K H' v d) → Q v H) → r vx H Q
theorem ce_un [Tbs] {op : UnaryOp} {bi : PyData → Option PyData} {pos : Pos} (ho : UnD X (unaryOp op) bi) (ha : CE X W a fa) : CE X W (.UnaryOp op a pos) (fun env => fa env >>= fun x => ofO (bi x)) := fun Z env σ H O Q r q => by
  let R : V → Hp → VK → Prop := fun vx H Q => ∃ (r : V → Hp → VK → Prop), UnR X (unaryOp op) r ∧ r vx H Q
  have hR : UnR X (unaryOp op) R := fun pins s σ H x v Q I rx ⟨r, h1, h2⟩ => h1 pins s σ H x v Q I rx h2
  refine wp_e (pe_un hR pe_wp) ?_
  refine ha.go r q fun dx vx H1 e1 d1 r1 q1 => ?_
  cases e : bi dx with
  | some d =>
    rw [e] at q1
    obtain ⟨rr, h1, h2⟩ := ho dx d e
    exact ⟨rr, h1, h2 H1 vx Q (Ext.unhid.dp d1) fun v hv => q1.here v (hv _)⟩
  | none =>
    rw [e] at q1
    exact q1.elim

/-! ### tests -/
variable {ft fu : T} {rest : List Expr} {pos : Pos}
/-- a value's truth -/
def tru (d : PyData) : RO Bool := match d with
  | .none => .ok false
  | .bool b => .ok b
  | .int i => .ok (i != 0)
  | .str y => if y.length ≤ sizeLine then .ok ((y.length : Int) != 0) else .no
  | .list xs => .ok (!xs.isEmpty)
  | .tuple xs => .ok (!xs.isEmpty)
  | _ => .no
theorem ct_tru [Tbs] (h : CB X W e f) (he : ∀ whole, isTrue e X.env whole = (do let v ← whole; standAt e.pos; holding [v] (truthy v)) := by intro _; rfl) : CT X W e (fun env => f env >>= tru) := fun Z env σ H O Q r q => by
  refine wp_t (pt_truth pe_wp he) ?_
  refine h.go r q fun d v H1 e1 d1 r1 q1 => ?_
  have em : ∀ {vs : List V} {ds : List PyData}, DpAll X.K (hid Z.Oc H1) vs ds → (!ds.isEmpty) = !vs.isEmpty := fun h => by cases h <;> rfl
  cases d with
  | none => cases dp_none d1; exact ⟨false, rfl, q1.here⟩
  | bool k => cases dp_bool d1; exact ⟨k, rfl, q1.here⟩
  | int k => cases dp_int d1; exact ⟨_, rfl, q1.here⟩
  | str k =>
    cases dp_str d1
    by_cases z : k.length ≤ sizeLine
    · have q2 : ROk X W σ O Q H1 (if k.length ≤ sizeLine then .ok ((k.length : Int) != 0) else .no) := q1
      rw [if_pos z] at q2
      exact ⟨_, ⟨z, rfl⟩, q2.here⟩
    · have q2 : ROk X W σ O Q H1 (if k.length ≤ sizeLine then .ok ((k.length : Int) != 0) else .no) := q1
      rw [if_neg z] at q2
      exact q2.elim
  | list xs =>
    obtain ⟨p, vs, rfl, h1, h2⟩ := dp_lst d1
    exact ⟨_, .inl ⟨vs, Ext.unhid.sl h1, em h2⟩, q1.here⟩
  | tuple xs =>
    obtain ⟨p, vs, rfl, h1, h2⟩ := dp_tup d1
    exact ⟨_, .inr (.inl ⟨vs, Ext.unhid.st h1, em h2⟩), q1.here⟩
  | dict _ => exact q1.elim
theorem CW.ct (h : CW X W e ft) : CT X W e ft := fun Z env σ H O Q r q => wp_t pw_wp.pt (h Z env σ H O Q r q)
def tNt (t : T) : T := fun env => t env >>= fun b => .ok (!b)
def tAn (t u : T) : T := fun env => t env >>= fun b => if b = true then u env else .ok false
def tOr (t u : T) : T := fun env => t env >>= fun b => if b = true then .ok true else u env
theorem ct_not [Tbs] (h : CT X W a ft) : CT X W (.UnaryOp .Not a pos) (tNt ft) := fun Z env σ H O Q r q => by
  refine wp_t (pt_not pt_wp) ?_
  exact h.go r q fun d H1 e1 r1 q1 => q1.here
theorem cw_or1 (h : CT X W a ft) : CW X W (.BoolOp .Or [a] pos) ft := fun Z env σ H O Q r q => wp_w (pw_or1 pt_wp) (h Z env σ H O Q r q)
theorem cw_or [Tbs] (h : CT X W a ft) (k : CW X W (.BoolOp .Or (b :: rest) pos) fu) : CW X W (.BoolOp .Or (a :: b :: rest) pos) (tOr ft fu) := fun Z env σ H O Q r q => by
  refine wp_w (pw_or pt_wp pw_wp) ?_
  refine h.go r q fun d H1 e1 r1 q1 => ?_
  cases d with
  | true => exact q1.here
  | false => exact k Z env σ H1 O Q r1 q1
/-- .. as values (bools) -/
def eNt (f : E) : E := fun env => f env >>= tb >>= fun b => .ok (.bool !b)
def eAn (f g : E) : E := fun env => f env >>= tb >>= fun b => if b = true then g env else .ok (.bool false)
def eOr (f g : E) : E := fun env => f env >>= tb >>= fun b => if b = true then .ok (.bool true) else g env
theorem RO.assoc {α β γ : Type} (r : RO α) (g : α → RO β) (k : β → RO γ) : (r >>= g >>= k) = (r >>= fun x => g x >>= k) := by cases r <;> rfl
theorem ce_not [Tbs] (h : CE X W a fa) : CE X W (.UnaryOp .Not a pos) (eNt fa) := fun Z env σ H O Q r q => by
  refine wp_e (pe_not pe_wp) ?_
  unfold eNt at q
  rw [RO.assoc] at q
  refine h.go r q fun d v H1 e1 d1 r1 q1 => ?_
  cases d with
  | bool k =>
    have := dp_bool d1
    subst this
    exact ⟨k, rfl, q1.here _ (.bl _)⟩
  | _ => exact q1.elim
theorem ce_one {op} (h : CE X W a fa) : CE X W (.BoolOp op [a] pos) fa := fun Z env σ H O Q r q => wp_e (pe_one pe_wp) (h Z env σ H O Q r q)
theorem ce_and [Tbs] (h : CE X W a fa) (k : CE X W (.BoolOp .And (b :: rest) pos) fb) : CE X W (.BoolOp .And (a :: b :: rest) pos) (eAn fa fb) := fun Z env σ H O Q r q => by
  refine wp_e (pe_and pe_wp pe_wp) ?_
  unfold eAn at q
  rw [RO.assoc] at q
  refine h.go r q fun d v H1 e1 d1 r1 q1 => ?_
  cases d with
  | bool c =>
    have := dp_bool d1
    subst this
    refine ⟨c, rfl, ?_⟩
    cases c with
    | true => exact k Z env σ H1 O Q r1 q1
    | false => exact q1.here _ (.bl _)
  | _ => exact q1.elim
/-- a if t else b -/
def eIf (t : T) (f g : E) : E := fun env => t env >>= fun b => if b = true then f env else g env
theorem ce_if [Tbs] {c : Expr} (h : CT X W c ft) (h1 : CE X W a fa) (h2 : CE X W b fb) : CE X W (.IfExp c a b pos) (eIf ft fa fb) := fun Z env σ H O Q r q => by
  refine wp_e (pe_ifExp pt_wp pe_wp pe_wp) ?_
  refine h.go r q fun d H1 e1 r1 q1 => ?_
  cases d with
  | true => exact h1 Z env σ H1 O Q r1 q1
  | false => exact h2 Z env σ H1 O Q r1 q1

/-! ### argument lists, tuples, lists -/
def aNil : Env → RO (List PyData) := fun _ => .ok []
def aCons (f : E) (g : Env → RO (List PyData)) : Env → RO (List PyData) := fun env => f env >>= fun x => g env >>= fun xs => .ok (x :: xs)
variable {g : Env → RO (List PyData)}
theorem ca_nil : CA X W [] aNil := fun Z env σ H O Q r q => wp_a pa_nil (ROk.here q _ .nil)
theorem ca_cons [Tbs] (h : CE X W e f) (k : CA X W es g) (hs : starEach (e :: es) X.env = (false, eval e X.env) :: starEach es X.env := by rfl) : CA X W (e :: es) (aCons f g) := fun Z env σ H O Q r q => by
  refine wp_a (pa_cons pe_wp pa_wp hs) ?_
  refine h.go r q fun d v H1 e1 d1 r1 q1 => ?_
  refine k.go r1 q1 fun ds vs H2 e2 d2 r2 q2 => ?_
  exact q2.here _ (.cons ((e2.hid O).dp d1) d2)
def eTup (g : Env → RO (List PyData)) : E := fun env => g env >>= fun xs => if xs.length ≤ sizeLine then .ok (.tuple xs) else .no
def lLst (g : Env → RO (List PyData)) : Env → RO (List PyData) := fun env => g env >>= fun xs => if xs.length ≤ sizeLine then .ok xs else .no
theorem ce_tup [Tbs] {x1} (h : CA X W es g) : CE X W (.Tuple es x1 pos) (eTup g) := fun Z env σ H O Q r q => by
  refine wp_e (pe_tup pa_wp) ?_
  refine h.go r q fun ds vs H1 e1 d1 r1 q1 => ?_
  by_cases z : ds.length ≤ sizeLine
  · rw [if_pos z] at q1
    exact ⟨by rw [dpa_len d1]; exact z, fun p hp => q1 _ (Ext.new hp) _ (dp_newT r1.lv hp d1)⟩
  · rw [if_neg z] at q1
    exact q1.elim
theorem cl_lst [Tbs] (h : CA X W es g) : CL X W (.List es pos) (lLst g) := fun Z env σ H O Q r q => by
  refine wp_e (pe_lst pa_wp) ?_
  refine h.go r q fun ds vs H1 e1 d1 r1 q1 => ?_
  by_cases z : ds.length ≤ sizeLine
  · rw [if_pos z] at q1
    exact ⟨by rw [dpa_len d1]; exact z, fun p hp => q1.here p vs hp d1⟩
  · rw [if_neg z] at q1
    exact q1.elim

/-! ### calls of built-ins, by values -/
/-- a call whose answer is told by the data -/
def CalR (X : Cx) (f : Value) (b : List PyData → Option PyData) : Prop := ∀ ds d, b ds = some d → ∃ r : List V → Hp → VK → Prop, CallR X f r ∧
  ∀ O H vs Q, Lv O H → DpAll X.K (hid O H) vs ds → (∀ v H', Ext H H' → Dp X.K (hid O H') v d → Q v H') → r vs H Q
/-- the same over data as they stand (a list of the frame's own) -/
def CalB (X : Cx) (f : Value) (b : List PyData → Option PyData) : Prop := ∀ ds d, b ds = some d → ∃ r : List V → Hp → VK → Prop, CallR X f r ∧
  ∀ H vs Q, DpAll X.K H vs ds → (∀ v, (∀ H', Dp X.K H' v d) → Q v H) → r vs H Q
theorem CalB.cal {f : Value} {bi : List PyData → Option PyData} (h : CalB X f bi) : CalR X f bi := fun ds d e => by
  obtain ⟨r, h1, h2⟩ := h ds d e
  exact ⟨r, h1, fun O H vs Q _ hv k => h2 H vs Q (Ext.unhid.dpa hv) fun v hd => k v H (Ext.refl H) (hd _)⟩
section
variable {x : Str} {p : Pos} {id T : String} {bi : List PyData → Option PyData}
theorem any_call {fv : Value} : CallR X fv (fun vs H Q => ∃ r : List V → Hp → VK → Prop, CallR X fv r ∧ r vs H Q) := fun pins s σ H xs us Q I rv ⟨r, h1, h2⟩ => h1 pins s σ H xs us Q I rv h2
theorem go_call {fv : Value} {t : TE} (hc : CalR X fv bi) (k : CA X W (e :: es) g) (r : Rep X.K Z env σ H O) {Q : VK} (q : ROk X W σ O (VQ X.K O Q) H (g env >>= fun ds => ofO (bi ds))) :
    tCB (fun vs H Q => ∃ r : List V → Hp → VK → Prop, CallR X fv r ∧ r vs H Q) (wpA X (e :: es)) σ H Q := by
  refine k.go r q fun ds vs H1 e1 d1 r1 q1 => ?_
  cases eb : bi ds with
  | some d =>
    rw [eb] at q1
    obtain ⟨rr, h1, h2⟩ := hc ds d eb
    exact ⟨rr, h1, h2 O H1 vs Q r1.lv d1 fun v H' e' hv => q1 H' e' v hv⟩
  | none =>
    rw [eb] at q1
    exact q1.elim
/-- f(e, ..), f a built-in function -/
theorem ce_bf (hc : CalR X (.builtin id) bi) (hg : Gl X x) (hm : X.mg x = none) (hv : bootBuiltins x = some (.builtin id)) (ha : CA X W (e :: es) g) (hn : x ≠ "__name__" := by decide) (hdb : (x == ("__debug__" : Str)) = false := by decide)
    (he : starEach (e :: es) X.env = (false, eval e X.env) :: starEach es X.env := by rfl) (hpl : (backTo pos (starEach es X.env)).any (·.1) = false := by rfl) : CE X W (.Call (.Name x p) (e :: es) [] pos) (fun env => g env >>= fun ds => ofO (bi ds)) :=
  fun Z env σ H O Q r q => wp_e (pe_callB any_call hg hm hv pa_wp hn hdb he hpl) (go_call (t := wpE X e) hc ha r q)
/-- T(e, ..), T a built-in type -/
theorem ce_ty (hc : CalR X (.type T) bi) (hg : Gl X x) (hm : X.mg x = none) (hv : bootBuiltins x = some (.type T)) (ha : CA X W (e :: es) g) (hn : x ≠ "__name__" := by decide) (hdb : (x == ("__debug__" : Str)) = false := by decide)
    (he : starEach (e :: es) X.env = (false, eval e X.env) :: starEach es X.env := by rfl) (hpl : (backTo pos (starEach es X.env)).any (·.1) = false := by rfl) : CE X W (.Call (.Name x p) (e :: es) [] pos) (fun env => g env >>= fun ds => ofO (bi ds)) :=
  fun Z env σ H O Q r q => wp_e (pe_callTy any_call hg hm hv pa_wp hn hdb he hpl) (go_call (t := wpE X e) hc ha r q)
end
end
end PD
set_option Elab.async false
set_option linter.all false
set_option maxRecDepth 100000
set_option maxHeartbeats 4000000
namespace PD
open PySem PySem.Spec PyProof.Rows L2

/-! ### ints -/
def mulOk (i j : Int) : Bool := decide (i.natAbs.log2 + j.natAbs.log2 < 100000000)
theorem mulOk_ok {i j : Int} (h : mulOk i j = true) : IntMulOk i j := by
  have b : ∀ x : Int, Builtin.Int.intBits x ≤ x.natAbs.log2 + 1 := fun x => by
    unfold Builtin.Int.intBits
    split <;> omega
  have h1 := b i
  have h2 := b j
  have h3 : i.natAbs.log2 + j.natAbs.log2 < 100000000 := of_decide_eq_true h
  have e : bitsLine = 134217728 := by decide
  unfold IntMulOk
  intro z
  rw [Bool.and_eq_true] at z
  have z2 := z.2
  unfold Builtin.Int.intTooBig at z2
  have z3 := of_decide_eq_true z2
  rw [e] at z3
  omega
def divOk (j : Int) : Bool := decide (j ≠ 0) && decide (j.natAbs.log2 < 9000)
section
variable {X : Cx}
variable [Tbs]
theorem op_mulG : OpR X (binaryOp .Mult) (rI (fun i j => mulOk i j = true) fun i j => .int (i * j)) := opI fun _ _ _ _ _ _ _ hc q => mul_int q (mulOk_ok hc)
theorem op_fdivG : OpR X (binaryOp .FloorDiv) (rI (fun _ j => divOk j = true) fun i j => .int (i.fdiv j)) := opI fun i j _ _ _ _ _ hc q => by
  unfold divOk at hc
  simp only [Bool.and_eq_true, decide_eq_true_eq] at hc
  exact floordiv_int hc.1 q (.inl (PyProof.noPylong_of_log2 hc.2))
def powOk (i j : Int) : Bool := decide (0 ≤ j) && decide ((Builtin.Int.intBits i : Int) * j ≤ 2 ^ 27)
theorem op_powG : OpR X (binaryOp .Pow) (rI (fun i j => powOk i j = true) fun i j => .int (i ^ j.toNat)) := opI fun i j _ _ _ _ _ hc q => by
  unfold powOk at hc
  simp only [Bool.and_eq_true, decide_eq_true_eq] at hc
  exact pow_int hc.1 hc.2 q

def dAdd : PyData → PyData → Option PyData
  | .int i, .int j => some (.int (i + j))
  | .str i, .str j => if i.length + j.length ≤ sizeLine then some (.str (i ++ j)) else none
  | .tuple a, .tuple b => if a.length + b.length ≤ sizeLine then some (.tuple (a ++ b)) else none
  | _, _ => none
theorem bin_add : BinR X (binaryOp .Add) dAdd := fun dx dy d e => by
  cases dx <;> cases dy <;> first | (simp only [dAdd] at e; cases e; done) | skip
  · rename_i i j
    simp only [dAdd, Option.some.injEq] at e
    subst e
    refine ⟨_, op_add, fun O H vx vy Q l hx hy k => ?_⟩
    cases dp_int hx
    cases dp_int hy
    exact ⟨i, j, rfl, rfl, k _ H (Ext.refl H) (.int _)⟩
  · rename_i i j
    simp only [dAdd] at e
    split at e
    · rename_i hz
      cases e
      refine ⟨_, op_add_str, fun O H vx vy Q l hx hy k => ?_⟩
      cases dp_str hx
      cases dp_str hy
      exact ⟨i, j, rfl, rfl, hz, k _ H (Ext.refl H) (.str _)⟩
    · cases e
  · rename_i i j
    simp only [dAdd] at e
    split at e
    · rename_i hz
      cases e
      refine ⟨_, op_catA, fun O H vx vy Q l hx hy k => ?_⟩
      obtain ⟨p, xs, rfl, p1, p2⟩ := dp_tup hx
      obtain ⟨p', ys, rfl, p1', p2'⟩ := dp_tup hy
      refine ⟨p, p', xs, ys, rfl, rfl, Ext.unhid.st p1, Ext.unhid.st p1', by rw [dpa_len p2, dpa_len p2']; exact hz, fun e0 => ?_, fun _ e0 => ?_, fun _ _ q hq => ?_⟩
      · subst e0
        cases p2
        exact k _ H (Ext.refl H) hy
      · subst e0
        cases p2'
        rw [List.append_nil] at k
        exact k _ H (Ext.refl H) hx
      · exact k _ _ (Ext.new hq) (dp_newT l hq (dpa_app p2 p2'))
    · cases e
def dSub : PyData → PyData → Option PyData
  | .int i, .int j => some (.int (i - j))
  | _, _ => none
theorem bin_sub : BinR X (binaryOp .Sub) dSub := fun dx dy d e => by
  cases dx <;> cases dy <;> first | (simp only [dSub] at e; cases e; done) | skip
  rename_i i j
  simp only [dSub, Option.some.injEq] at e
  subst e
  refine ⟨_, op_sub, fun O H vx vy Q l hx hy k => ?_⟩
  cases dp_int hx
  cases dp_int hy
  exact ⟨i, j, rfl, rfl, k _ H (Ext.refl H) (.int _)⟩
def dMul : PyData → PyData → Option PyData
  | .int i, .int j => if mulOk i j = true then some (.int (i * j)) else none
  | .tuple a, .int k => if a ≠ [] ∧ 2 ≤ k ∧ k ≤ 1000 ∧ a.length ≤ 1000 then some (.tuple (List.replicate k.toNat a).flatten) else none
  | _, _ => none
theorem dpa_repl {K : PySem.W.Frag} {H : Hp} {vs : List V} {ds : List PyData} (h : DpAll K H vs ds) : ∀ n : Nat, DpAll K H (List.replicate n vs).flatten (List.replicate n ds).flatten
  | 0 => .nil
  | n + 1 => by
    rw [List.replicate_succ, List.replicate_succ, List.flatten_cons, List.flatten_cons]
    exact dpa_app h (dpa_repl h n)
theorem bin_mul : BinR X (binaryOp .Mult) dMul := fun dx dy d e => by
  cases dx <;> cases dy <;> first | (simp only [dMul] at e; cases e; done) | skip
  · rename_i i j
    simp only [dMul] at e
    split at e
    · rename_i hz
      cases e
      refine ⟨_, op_mulG, fun O H vx vy Q l hx hy k => ?_⟩
      cases dp_int hx
      cases dp_int hy
      exact ⟨i, j, rfl, rfl, hz, k _ H (Ext.refl H) (.int _)⟩
    · cases e
  · rename_i a j
    simp only [dMul] at e
    split at e
    · rename_i hz
      obtain ⟨h0, h1, h2, h3⟩ := hz
      cases e
      refine ⟨_, op_repT, fun O H vx vy Q l hx hy k => ?_⟩
      obtain ⟨p, xs, rfl, p1, p2⟩ := dp_tup hx
      cases dp_int hy
      have hl := dpa_len p2
      refine ⟨p, j, xs, rfl, rfl, Ext.unhid.st p1, fun z => h0 (by subst z; cases p2; rfl), h1, h2, by omega, fun q hq => ?_⟩
      exact k _ _ (Ext.new hq) (dp_newT l hq (dpa_repl p2 _))
    · cases e
def dDiv : PyData → PyData → Option PyData
  | .int i, .int j => if divOk j = true then some (.int (i.fdiv j)) else none
  | _, _ => none
theorem bin_div : BinR X (binaryOp .FloorDiv) dDiv := fun dx dy d e => by
  cases dx <;> cases dy <;> first | (simp only [dDiv] at e; cases e; done) | skip
  rename_i i j
  simp only [dDiv] at e
  split at e
  · rename_i hz
    cases e
    refine ⟨_, op_fdivG, fun O H vx vy Q l hx hy k => ?_⟩
    cases dp_int hx
    cases dp_int hy
    exact ⟨i, j, rfl, rfl, hz, k _ H (Ext.refl H) (.int _)⟩
  · cases e
def dMod : PyData → PyData → Option PyData
  | .int i, .int j => if 0 < j then some (.int (i % j)) else none
  | _, _ => none
theorem bin_mod : BinR X (binaryOp .Mod) dMod := fun dx dy d e => by
  cases dx <;> cases dy <;> first | (simp only [dMod] at e; cases e; done) | skip
  rename_i i j
  simp only [dMod] at e
  split at e
  · rename_i hz
    cases e
    refine ⟨_, op_mod, fun O H vx vy Q l hx hy k => ?_⟩
    cases dp_int hx
    cases dp_int hy
    exact ⟨i, j, rfl, rfl, hz, k _ H (Ext.refl H) (.int _)⟩
  · cases e
def dPow : PyData → PyData → Option PyData
  | .int i, .int j => if powOk i j = true then some (.int (i ^ j.toNat)) else none
  | _, _ => none
theorem bin_pow : BinR X (binaryOp .Pow) dPow := fun dx dy d e => by
  cases dx <;> cases dy <;> first | (simp only [dPow] at e; cases e; done) | skip
  rename_i i j
  simp only [dPow] at e
  split at e
  · rename_i hz
    cases e
    refine ⟨_, op_powG, fun O H vx vy Q l hx hy k => ?_⟩
    cases dp_int hx
    cases dp_int hy
    exact ⟨i, j, rfl, rfl, hz, k _ H (Ext.refl H) (.int _)⟩
  · cases e
def dNeg : PyData → Option PyData
  | .int i => some (.int (-i))
  | _ => none
theorem un_negD : UnD X (unaryOp .USub) dNeg := fun dx d e => by
  cases dx <;> first | (simp only [dNeg] at e; cases e; done) | skip
  rename_i i
  simp only [dNeg, Option.some.injEq] at e
  subst e
  refine ⟨_, un_neg, fun H vx Q hx k => ?_⟩
  cases dp_int hx
  exact ⟨i, rfl, k _ fun H' => .int _⟩

/-! ### comparisons -/
def dCmp (p : Int → Int → Bool) : PyData → PyData → Option PyData
  | .int i, .int j => some (.bool (p i j))
  | _, _ => none
theorem bin_cmp {op : CmpOp} {p : Int → Int → Bool} (ho : OpR X (compareOp op) (rI0 fun i j => .bl (p i j))) : BinB X (compareOp op) (dCmp p) := fun dx dy d e => by
  cases dx <;> cases dy <;> first | (simp only [dCmp] at e; cases e; done) | skip
  rename_i i j
  simp only [dCmp, Option.some.injEq] at e
  subst e
  refine ⟨_, ho, fun H vx vy Q hx hy k => ?_⟩
  cases dp_int hx
  cases dp_int hy
  exact ⟨i, j, rfl, rfl, k _ fun H' => .bl _⟩
abbrev dLt := dCmp fun i j => decide (i < j)
abbrev dLe := dCmp fun i j => decide (i ≤ j)
abbrev dGt := dCmp fun i j => decide (j < i)
abbrev dGe := dCmp fun i j => decide (j ≤ i)
theorem bin_lt : BinB X (compareOp .Lt) dLt := bin_cmp op_lt
theorem bin_le : BinB X (compareOp .LtE) dLe := bin_cmp op_le
theorem bin_gt : BinB X (compareOp .Gt) dGt := bin_cmp op_gt
theorem bin_ge : BinB X (compareOp .GtE) dGe := bin_cmp op_ge
def dEq : PyData → PyData → Option PyData
  | .int i, .int j => some (.bool (decide (i = j)))
  | .str i, .str j => some (.bool (decide (i = j)))
  | .bool i, .bool j => some (.bool (decide (i = j)))
  | x, y => if SeqAt.shaped x = true ∧ SeqAt.shaped y = true then some (.bool (PyData.eqv x y)) else none
def dNe (x y : PyData) : Option PyData := match dEq x y with
  | some (.bool b) => some (.bool !b)
  | _ => none
theorem dEq_deep (hu : X.A.units + 64 < cLine) {dx dy : PyData} (h1 : SeqAt.shaped dx = true) (h2 : SeqAt.shaped dy = true) : ∃ r : R2, OpR X (compareOp .Eq) r ∧
    ∀ H vx vy Q, Dp X.K H vx dx → Dp X.K H vy dy → (∀ v, (∀ H', Dp X.K H' v (.bool (PyData.eqv dx dy))) → Q v H) → r vx vy H Q :=
  ⟨_, op_eqD hu, fun H vx vy Q hx hy k => ⟨dx, dy, hx, hy, h1, h2, k _ fun H' => .bl _⟩⟩
theorem dNe_deep (hu : X.A.units + 64 < cLine) {dx dy : PyData} (h1 : SeqAt.shaped dx = true) (h2 : SeqAt.shaped dy = true) : ∃ r : R2, OpR X (compareOp .NotEq) r ∧
    ∀ H vx vy Q, Dp X.K H vx dx → Dp X.K H vy dy → (∀ v, (∀ H', Dp X.K H' v (.bool (!PyData.eqv dx dy))) → Q v H) → r vx vy H Q :=
  ⟨_, op_neD hu, fun H vx vy Q hx hy k => ⟨dx, dy, hx, hy, h1, h2, k _ fun H' => .bl _⟩⟩
theorem bin_eq (hu : X.A.units + 64 < cLine) : BinB X (compareOp .Eq) dEq := fun dx dy d e => by
  cases dx <;> cases dy
  all_goals try (
    simp only [dEq] at e
    split at e
    · rename_i hz
      cases e
      exact dEq_deep hu hz.1 hz.2
    · cases e
    done)
  all_goals (
    simp only [dEq, Option.some.injEq] at e
    subst e
    refine ⟨_, op_eq, fun H vx vy Q hx hy k => ?_⟩
    cases hx
    cases hy
    refine ⟨rfl, ?_⟩
    simp only [V.int.injEq, V.str.injEq, V.bl.injEq]
    exact k _ fun H' => .bl _)
theorem bin_ne (hu : X.A.units + 64 < cLine) : BinB X (compareOp .NotEq) dNe := fun dx dy d e => by
  cases dx <;> cases dy
  all_goals try (
    simp only [dNe, dEq] at e
    split at e
    · rename_i b hz
      cases e
      split at hz
      · rename_i hz2
        cases hz
        exact dNe_deep hu hz2.1 hz2.2
      · cases hz
    · cases e
    done)
  all_goals (
    simp only [dNe, dEq, Option.some.injEq] at e
    subst e
    refine ⟨_, op_ne, fun H vx vy Q hx hy k => ?_⟩
    cases hx
    cases hy
    refine ⟨rfl, ?_⟩
    simp only [V.int.injEq, V.str.injEq, V.bl.injEq]
    exact k _ fun H' => .bl _)
def isNon : PyData → Bool
  | .none => true
  | _ => false
/-- is None, is True -/
def dIs : PyData → PyData → Option PyData
  | .bool a, .bool b => some (.bool (decide (a = b)))
  | x, .none => some (.bool (isNon x))
  | .none, .bool _ => some (.bool false)
  | _, _ => none
def dIsN (x y : PyData) : Option PyData := match dIs x y with
  | some (.bool b) => some (.bool !b)
  | _ => none
theorem dp_isnon {K : PySem.W.Frag} {H : Hp} {v : V} {d : PyData} (h : Dp K H v d) : decide (v = .non) = isNon d := by
  cases h <;> rfl
theorem op_isNB : OpR X (compareOp .Is) (fun x y H Q => x = .non ∧ (∃ b, y = .bl b) ∧ Q (.bl false) H) := by
  intro pins s σ H x y v u Q I rx ry h
  obtain ⟨rfl, ⟨b, rfl⟩, q⟩ := h
  cases (show v = Value.none from rx)
  cases (show u = Value.bool b from ry)
  exact wpAny_is_other rfl (fun z => nomatch z) ⟨.bl false, H, I, rfl, q⟩
theorem op_notNB : OpR X (compareOp .IsNot) (fun x y H Q => x = .non ∧ (∃ b, y = .bl b) ∧ Q (.bl true) H) := by
  intro pins s σ H x y v u Q I rx ry h
  obtain ⟨rfl, ⟨b, rfl⟩, q⟩ := h
  cases (show v = Value.none from rx)
  cases (show u = Value.bool b from ry)
  exact wpAny_isNot_other rfl (fun z => nomatch z) ⟨.bl true, H, I, rfl, q⟩
theorem bin_is : BinB X (compareOp .Is) dIs := fun dx dy d e => by
  cases dy with
  | none =>
    have e' : some (PyData.bool (isNon dx)) = some d := by cases dx <;> exact e
    cases e'
    refine ⟨_, op_isN, fun H vx vy Q hx hy k => ?_⟩
    cases dp_none hy
    refine ⟨rfl, ?_⟩
    rw [dp_isnon hx]
    exact k _ fun H' => .bl _
  | bool b =>
    cases dx with
    | bool a =>
      simp only [dIs, Option.some.injEq] at e
      subst e
      refine ⟨_, op_isBl, fun H vx vy Q hx hy k => ?_⟩
      cases dp_bool hx
      cases dp_bool hy
      exact ⟨a, b, rfl, rfl, k _ fun H' => .bl _⟩
    | none =>
      cases e
      refine ⟨_, op_isNB, fun H vx vy Q hx hy k => ?_⟩
      cases dp_none hx
      cases dp_bool hy
      exact ⟨rfl, ⟨_, rfl⟩, k _ fun H' => .bl _⟩
    | _ => cases e
  | _ => cases dx <;> cases e
theorem bin_isn : BinB X (compareOp .IsNot) dIsN := fun dx dy d e => by
  cases dy with
  | none =>
    have e' : some (PyData.bool (!(isNon dx))) = some d := by cases dx <;> exact e
    cases e'
    refine ⟨_, op_notN, fun H vx vy Q hx hy k => ?_⟩
    cases dp_none hy
    refine ⟨rfl, ?_⟩
    rw [dp_isnon hx]
    exact k _ fun H' => .bl _
  | bool b =>
    cases dx with
    | bool a =>
      simp only [dIsN, dIs, Option.some.injEq] at e
      subst e
      refine ⟨_, op_notBl, fun H vx vy Q hx hy k => ?_⟩
      cases dp_bool hx
      cases dp_bool hy
      exact ⟨a, b, rfl, rfl, k _ fun H' => .bl _⟩
    | none =>
      cases e
      refine ⟨_, op_notNB, fun H vx vy Q hx hy k => ?_⟩
      cases dp_none hx
      cases dp_bool hy
      exact ⟨rfl, ⟨_, rfl⟩, k _ fun H' => .bl _⟩
    | _ => cases e
  | _ => cases dx <;> cases e

/-! ### calls -/
def cLen : List PyData → Option PyData
  | [.list xs] => some (.int xs.length)
  | [.tuple xs] => some (.int xs.length)
  | [.str x] => if x.length ≤ sizeLine then some (.int x.length) else none
  | _ => none
theorem dpa1 {K : PySem.W.Frag} {H : Hp} {vs : List V} {d : PyData} (h : DpAll K H vs [d]) : ∃ v, vs = [v] ∧ Dp K H v d := by
  cases h with
  | cons a b => cases b; exact ⟨_, rfl, a⟩
theorem dpa2 {K : PySem.W.Frag} {H : Hp} {vs : List V} {d e : PyData} (h : DpAll K H vs [d, e]) : ∃ v u, vs = [v, u] ∧ Dp K H v d ∧ Dp K H u e := by
  cases h with
  | cons a b =>
    obtain ⟨u, rfl, c⟩ := dpa1 b
    exact ⟨_, u, rfl, a, c⟩
theorem cal_len : CalB X (.builtin "len") cLen := fun ds d e => by
  refine ⟨_, call_len, fun H vs Q hv k => ?_⟩
  rcases ds with _ | ⟨x, _ | ⟨y, r⟩⟩
  · cases e
  · obtain ⟨v, rfl, hx⟩ := dpa1 hv
    cases x with
    | list xs =>
      obtain ⟨p, ys, rfl, p1, p2⟩ := dp_lst hx
      simp only [cLen, Option.some.injEq] at e
      subst e
      refine ⟨_, ys.length, rfl, .inl ⟨ys, p1, rfl⟩, ?_⟩
      rw [dpa_len p2]
      exact k _ fun H' => .int _
    | tuple xs =>
      obtain ⟨p, ys, rfl, p1, p2⟩ := dp_tup hx
      simp only [cLen, Option.some.injEq] at e
      subst e
      refine ⟨_, ys.length, rfl, .inr ⟨ys, p1, rfl⟩, ?_⟩
      rw [dpa_len p2]
      exact k _ fun H' => .int _
    | str z =>
      cases dp_str hx
      simp only [cLen] at e
      split at e
      · rename_i hz
        cases e
        exact ⟨_, z.length, rfl, ⟨hz, rfl⟩, k _ fun H' => .int _⟩
      · cases e
    | _ => cases e
  · cases x <;> cases e
def cAbs : List PyData → Option PyData
  | [.int i] => some (.int (if i < 0 then -i else i))
  | _ => none
def cInt : List PyData → Option PyData
  | [.int i] => some (.int i)
  | [.bool b] => some (.int (if b then 1 else 0))
  | _ => none
theorem cal_int : CalB X (.type "int") cInt := fun ds d e => by
  refine ⟨_, call_int1, fun H vs Q hv k => ?_⟩
  rcases ds with _ | ⟨x, _ | ⟨y, r⟩⟩
  · cases e
  · obtain ⟨v, rfl, hx⟩ := dpa1 hv
    cases x with
    | int i =>
      cases dp_int hx
      simp only [cInt, Option.some.injEq] at e
      subst e
      exact .inl ⟨i, rfl, k _ fun H' => .int _⟩
    | bool i =>
      cases dp_bool hx
      simp only [cInt, Option.some.injEq] at e
      subst e
      exact .inr ⟨i, rfl, k _ fun H' => .int _⟩
    | _ => cases e
  · cases x <;> cases e
def cGcd : List PyData → Option PyData
  | [.int i, .int j] => some (.int (Nat.gcd i.natAbs j.natAbs : Nat))
  | _ => none
def cMax : List PyData → Option PyData
  | [.int i, .int j] => some (.int (if j > i then j else i))
  | _ => none
def cMin : List PyData → Option PyData
  | [.int i, .int j] => some (.int (if j < i then j else i))
  | _ => none
theorem cal_max (hc : X.calm = true) : CalB X (.builtin "max") cMax := fun ds d e => by
  refine ⟨_, call_max2 hc, fun H vs Q hv k => ?_⟩
  rcases ds with _ | ⟨x, _ | ⟨y, _ | ⟨z, r⟩⟩⟩
  · cases e
  · cases x <;> cases e
  · obtain ⟨v, u, rfl, hx, hy⟩ := dpa2 hv
    cases x <;> first | (cases e; done) | skip
    cases y <;> first | (cases e; done) | skip
    cases dp_int hx
    cases dp_int hy
    simp only [cMax, Option.some.injEq] at e
    subst e
    exact ⟨_, _, rfl, k _ fun H' => .int _⟩
  · cases x <;> cases y <;> cases e
theorem cal_min (hc : X.calm = true) : CalB X (.builtin "min") cMin := fun ds d e => by
  refine ⟨_, call_min2 hc, fun H vs Q hv k => ?_⟩
  rcases ds with _ | ⟨x, _ | ⟨y, _ | ⟨z, r⟩⟩⟩
  · cases e
  · cases x <;> cases e
  · obtain ⟨v, u, rfl, hx, hy⟩ := dpa2 hv
    cases x <;> first | (cases e; done) | skip
    cases y <;> first | (cases e; done) | skip
    cases dp_int hx
    cases dp_int hy
    simp only [cMin, Option.some.injEq] at e
    subst e
    exact ⟨_, _, rfl, k _ fun H' => .int _⟩
  · cases x <;> cases y <;> cases e
/-- any, all of a list of bools -/
def bools : List PyData → Option (List Bool)
  | [] => some []
  | .bool b :: r => (bools r).map (b :: ·)
  | _ => none
theorem dpa_bools {K : PySem.W.Frag} {H : Hp} : ∀ {ds : List PyData} {vs : List V} {bs : List Bool}, DpAll K H vs ds → bools ds = some bs → vs = bs.map V.bl
  | [], _, _, .nil, e => by cases e; rfl
  | d :: ds, _, bs, .cons h t, e => by
    cases d with
    | bool b =>
      cases dp_bool h
      simp only [bools] at e
      cases hb : bools ds with
      | none => rw [hb] at e; cases e
      | some bs' =>
        rw [hb] at e
        cases e
        rw [dpa_bools t hb]
        rfl
    | _ => cases e
def cAll : List PyData → Option PyData
  | [.list xs] => (bools xs).map fun bs => .bool (bs.all id)
  | _ => none
theorem cal_all (hc : X.calm = true) : CalB X (.builtin "all") cAll := fun ds d e => by
  refine ⟨_, cr_all hc, fun H vs Q hv k => ?_⟩
  rcases ds with _ | ⟨x, _ | ⟨y, r⟩⟩
  · cases e
  · obtain ⟨v, rfl, hx⟩ := dpa1 hv
    cases x with
    | list xs =>
      obtain ⟨p, ys, rfl, p1, p2⟩ := dp_lst hx
      simp only [cAll] at e
      cases hb : bools xs with
      | none => rw [hb] at e; cases e
      | some bs =>
        rw [hb] at e
        cases e
        have e2 := dpa_bools p2 hb
        subst e2
        exact ⟨p, bs, rfl, p1, k _ fun H' => .bl _⟩
    | _ => cases e
  · cases x <;> cases e
end

/-! ### kinds of values -/
def tyName : PyData → String
  | .none => "NoneType"
  | .bool _ => "bool"
  | .int _ => "int"
  | .str _ => "str"
  | .list _ => "list"
  | .tuple _ => "tuple"
  | .dict _ => "dict"
theorem dp_ty {K : PySem.W.Frag} {H : Hp} {v : V} {d : PyData} (h : Dp K H v d) : TyX K H v (.type (tyName d)) := by
  cases h with
  | non => exact .base .non
  | bl b => exact .base (.bl b)
  | int b => exact .base (.int b)
  | str b => exact .base (.str b)
  | lst h _ =>
    rcases h with (h | ⟨o, h⟩) | ⟨o, its, n, h1, h2, _⟩
    · exact .base (.lst h)
    · exact .base (.frz h)
    · exact .kList h1 h2
  | tup h _ =>
    rcases h with (h | ⟨o, h⟩) | ⟨o, its, n, h1, h2, _⟩
    · exact .base (.tup h)
    · exact .fTuple h
    · exact .kTuple h1 h2
def isiD (T : String) (d : PyData) : Bool := match T, d with
  | "int", .int _ => true
  | "int", .bool _ => true
  | "bool", .bool _ => true
  | "str", .str _ => true
  | "list", .list _ => true
  | "tuple", .tuple _ => true
  | _, _ => false
/-- the types that isiD knows -/
def isiT (T : String) : Bool := T == "int" || T == "bool" || T == "str" || T == "list" || T == "tuple"
theorem isiD_ok {T : String} (h : isiT T = true) (d : PyData) (hd : ∀ kv, d ≠ .dict kv) : kitB (tyName d) T = some (isiD T d) := by
  unfold isiT at h
  simp only [Bool.or_eq_true, beq_iff_eq] at h
  rcases h with (((h | h) | h) | h) | h <;> subst h <;> cases d <;> first | exact absurd rfl (hd _) | rfl | decide +kernel
def isiO (T : String) : PyData → Option PyData
  | .dict _ => none
  | d => some (.bool (isiD T d))
section
variable {X : Cx} {W : WX} {e : Expr} {f : E} {pos p p2 p3 : Pos} {T : String}
variable [Tbs]
theorem ce_isi {x : Str} (hT : isiT T = true) (hg : Gl X "isinstance") (hm : X.mg "isinstance" = none) (hg2 : Gl X x) (hm2 : X.mg x = none) (hv2 : bootBuiltins x = some (.type T)) (hn2 : x ≠ "__name__") (hd2 : (x == ("__debug__" : Str)) = false)
    (h : CB X W e f) (he : starEach [e, .Name x p2] X.env = (false, eval e X.env) :: starEach [.Name x p2] X.env := by rfl) (he2 : starEach [.Name x p2] X.env = (false, eval (.Name x p2) X.env) :: starEach [] X.env := by rfl)
    (hpl : (backTo pos (starEach [.Name x p2] X.env)).any (·.1) = false := by rfl) :
    CE X W (.Call (.Name "isinstance" p) [e, .Name x p2] [] pos) (fun env => f env >>= fun d => ofO (isiO T d)) := fun Z env σ H O Q r q => by
  have hb : PE X (.Name x p2) (tC (.ty T)) := pe_bltn hg2 hm2 hv2 rfl hn2 hd2
  refine wp_e (pe_callB call_isi hg hm (by decide +kernel) (pa_cons pe_wp (pa_cons hb pa_nil he2) he) (by decide) (by decide) he hpl) ?_
  refine h.go r q fun d v H1 e1 d1 r1 q1 => ?_
  cases d with
  | dict _ => exact q1.elim
  | _ => exact ⟨v, .ty T, _, .type T, _, rfl, .ty T, dp_ty (Ext.unhid.dp d1), kit_ty (isiD_ok hT _ (by intro _ z; cases z)), q1.here _ (.bl _)⟩
end
end PD
set_option Elab.async false
set_option linter.all false
set_option maxRecDepth 100000
set_option maxHeartbeats 4000000
namespace PD
open PySem PySem.Spec PyProof.Rows L2

section
variable {X : Cx} {W : WX} {e a b : Expr} {es : List Expr} {f fa fb : E} {Z : Zn} {env : Env} {σ : Sg} {H : Hp} {O : List Addr} {pos : Pos}
variable [Tbs]

/-! ### a list of the frame's own, read -/
theorem own_read {i : Nat} {x : Str} {pos : Pos} {ds : List PyData} {Q : VK} (r : Rep X.K Z env σ H O) (he : env[i]? = some (some (.own ds))) (hN : X.N[i]? = some x) (hv : Vis X.env.scope x) (hd : (x == ("__debug__" : Str)) = false) (hcd : (x == ("__classdict__" : Str)) = false)
    (k : ∀ p vs, σ[i]? = some (some (.ref p)) → p ∈ O → p ∉ Z.Oc → H p = some (.lst vs) → DpAll X.K (hid O H) vs ds → Q (.ref p) H) : wpE X (.Name x pos) σ H Q := by
  obtain ⟨v, h1, p, vs, rfl, h2, h3, h4, h5⟩ := r.sl i _ he
  exact wp_e (pe_var hN hv hd hcd) ⟨_, h1, k p vs h1 h2 h3 h4 h5⟩
/-- a name, whatever it holds, for a reader that keeps nothing of it -/
def gb (env : Env) (i : Nat) : RO PyData := match env[i]? with
  | some (some (.fz d)) => .ok d
  | some (some (.own ds)) => .ok (.list ds)
  | _ => .no
theorem cb_var (i : Nat) {x : Str} {pos : Pos} (hN : X.N[i]? = some x := by rfl) (hv : Vis X.env.scope x := by first | exact Or.inl rfl | exact Or.inr (Or.inl rfl) | exact Or.inr (Or.inr rfl)) (hd : (x == ("__debug__" : Str)) = false := by decide)
    (hcd : (x == ("__classdict__" : Str)) = false := by decide) : CB X W (.Name x pos) (fun env => gb env i) := fun Z env σ H O Q r q => by
  have q : ROk X W σ O (VQ X.K Z.Oc Q) H (gb env i) := q
  unfold gb at q
  cases he : env[i]? with
  | none => rw [he] at q; exact q.elim
  | some s =>
    cases s with
    | none => rw [he] at q; exact q.elim
    | some s =>
      cases s with
      | fz d =>
        rw [he] at q
        obtain ⟨v, h1, h2⟩ := r.sl i _ he
        exact wp_e (pe_var hN hv hd hcd) ⟨v, h1, q.here v ((Ext.hid_sub r.sub).dp h2)⟩
      | ob c fs => rw [he] at q; exact q.elim
      | own ds =>
        rw [he] at q
        refine own_read r he hN hv hd hcd fun p vs h1 h2 h3 h4 h5 => q.here _ (.lst (SqL.of ?_) ((Ext.hid_sub r.sub).dpa h5))
        rw [hid_out h3]
        exact h4

/-! ### a[b] -/
def dIx : PyData → PyData → Option PyData
  | .list xs, .int i => atI xs i
  | .tuple xs, .int i => atI xs i
  | .str z, .int i => if z.length ≤ sizeLine then (atI z.cps.toList i).map fun c => .str ⟨#[c]⟩ else none
  | _, _ => none
theorem at_dpa {K : PySem.W.Frag} {vs : List V} {ds : List PyData} {i : Int} {d : PyData} (h : DpAll K H vs ds) (e : atI ds i = some d) : ∃ v, atI vs i = some v ∧ Dp K H v d := by
  unfold atI at e ⊢
  rw [dpa_len h]
  cases hj : ixN ds.length i with
  | none => rw [hj] at e; cases e
  | some j =>
    rw [hj] at e
    obtain ⟨v, h1, h2⟩ := dpa_get h e
    exact ⟨v, h1, h2⟩
theorem ix_ok {K : PySem.W.Frag} {vx : V} {dx d : PyData} {i : Int} {Q : VK} (hx : Dp K (hid O H) vx dx) (e : dIx dx (.int i) = some d) (k : ∀ v, Dp K (hid O H) v d → Q v H) : rIx K vx (.int i) H Q := by
  cases dx with
  | list xs =>
    obtain ⟨p, vs, rfl, h1, h2⟩ := dp_lst hx
    obtain ⟨v, e1, e2⟩ := at_dpa h2 e
    exact .inl ⟨p, vs, i, v, rfl, rfl, Ext.unhid.sl h1, e1, k v e2⟩
  | tuple xs =>
    obtain ⟨p, vs, rfl, h1, h2⟩ := dp_tup hx
    obtain ⟨v, e1, e2⟩ := at_dpa h2 e
    exact .inr (.inl ⟨p, vs, i, v, rfl, rfl, Ext.unhid.st h1, e1, k v e2⟩)
  | str z =>
    cases dp_str hx
    simp only [dIx] at e
    split at e
    · rename_i hz
      cases hc : atI z.cps.toList i with
      | none => rw [hc] at e; cases e
      | some c =>
        rw [hc] at e
        cases e
        exact .inr (.inr ⟨z, i, c, rfl, rfl, hz, hc, k _ (.str _)⟩)
    · cases e
  | _ => cases e
theorem ce_ix (ha : CE X W a fa) (hb : CE X W b fb) (hs : PlainIx b := by exact fun _ _ => rfl) : CE X W (.Subscript a b pos) (fun env => fa env >>= fun x => fb env >>= fun y => ofO (dIx x y)) := fun Z env σ H O Q r q => by
  refine wp_e (pe_ix ix_seq pe_wp pe_wp hs) ?_
  refine ha.go r q fun dx vx H1 e1 d1 r1 q1 => ?_
  refine hb.go r1 q1 fun dy vy H2 e2 d2 r2 q2 => ?_
  cases e : dIx dx dy with
  | none => rw [e] at q2; exact q2.elim
  | some d =>
    rw [e] at q2
    cases dy with
    | int i =>
      cases dp_int d2
      exact ix_ok ((e2.hid O).dp d1) e fun v hv => q2.here v hv
    | _ => cases dx <;> cases e
/-- the same of a list of the frame's own -/
theorem ce_ixO (i : Nat) {x : Str} {p : Pos} (hb : CE X W b fb) (hN : X.N[i]? = some x := by rfl) (hv : Vis X.env.scope x := by first | exact Or.inl rfl | exact Or.inr (Or.inl rfl) | exact Or.inr (Or.inr rfl)) (hd : (x == ("__debug__" : Str)) = false := by decide)
    (hcd : (x == ("__classdict__" : Str)) = false := by decide) (hs : PlainIx b := by exact fun _ _ => rfl) : CE X W (.Subscript (.Name x p) b pos) (fun env => gvo env i >>= fun xs => fb env >>= fun y => ofO (dIx (.list xs) y)) := fun Z env σ H O Q r q => by
  refine wp_e (pe_ix ix_seq pe_wp pe_wp hs) ?_
  rcases gvo_cases env i with ⟨ds, he⟩ | he
  · dsimp only at q
    rw [he] at q
    have q' : ROk X W σ O (VQ X.K O Q) H (fb env >>= fun y => ofO (dIx (.list ds) y)) := q
    refine own_read r (gvo_ok he) hN hv hd hcd fun p vs h1 h2 h3 h4 h5 => ?_
    refine hb.go r q' fun dy vy H2 e2 d2 r2 q2 => ?_
    cases e : dIx (.list ds) dy with
    | none => rw [e] at q2; exact q2.elim
    | some d =>
      rw [e] at q2
      cases dy with
      | int i =>
        cases dp_int d2
        obtain ⟨v, e3, e4⟩ := at_dpa ((e2.hid O).dpa h5) e
        exact .inl ⟨p, vs, i, v, rfl, rfl, SqL.of (e2.lst h4), e3, q2.here v e4⟩
      | _ => cases e
  · dsimp only at q
    rw [he] at q
    exact q.elim

/-! ### slices -/
def cutD {α : Type} (xs : List α) (lo hi : Option Int) : List α := (xs.drop (HT.sIx xs.length 0 lo)).take (HT.sIx xs.length xs.length hi - HT.sIx xs.length 0 lo)
theorem cut_dpa {K : PySem.W.Frag} {vs : List V} {ds : List PyData} (h : DpAll K H vs ds) (lo hi : Option Int) : DpAll K H (cutV vs lo hi) (cutD ds lo hi) := by
  unfold cutV cutD
  rw [dpa_len h]
  exact dpa_take _ (dpa_drop _ h)
/-- a part of a slice -/
def CO (X : Cx) (W : WX) (e : Option Expr) (f : Env → RO (Option Int)) : Prop := ∀ Z env σ H O Q, Rep X.K Z env σ H O → ROk X W σ O Q H (f env) → ∃ t, PO X e t ∧ t σ H Q
def tI (d : PyData) : RO Int := match d with
  | .int i => .ok i
  | _ => .no
theorem co_none : CO X W none (fun _ => .ok none) := fun Z env σ H O Q r q => ⟨_, po_none, q.here⟩
theorem co_some (h : CE X W e f) : CO X W (some e) (fun env => f env >>= tI >>= fun i => .ok (some i)) := fun Z env σ H O Q r q => by
  refine ⟨_, po_some pe_wp, ?_⟩
  dsimp only at q
  rw [RO.assoc] at q
  refine h.go r q fun d v H1 e1 d1 r1 q1 => ?_
  cases d with
  | int i =>
    cases dp_int d1
    exact ⟨i, rfl, q1.here⟩
  | _ => exact q1.elim
def wpO (X : Cx) (e : Option Expr) : TO := fun σ H Q => ∀ pins s, Inv X pins σ H s → wpAny (model X.prog X.w) X.A (evalPart e X.env) (fun u s' => ∃ o H', Inv X pins σ H' s' ∧ IsPart u o ∧ Q o H') X.xe s
theorem po_wp {e : Option Expr} : PO X e (wpO X e) := ⟨fun pins s _ _ _ I h => h pins s I⟩
theorem CO.go {β : Type} {eo : Option Expr} {fo : Env → RO (Option Int)} {g : Option Int → RO β} {P : β → Hp → Prop} {Q : Option Int → Hp → Prop} (h : CO X W eo fo) (r : Rep X.K Z env σ H O) (q : ROk X W σ O P H (fo env >>= g))
    (k : ∀ d H1, Ext H H1 → Rep X.K Z env σ H1 O → ROk X W σ O P H1 (g d) → Q d H1) : wpO X eo σ H Q := by
  obtain ⟨t, h1, h2⟩ := h Z env σ H O Q r (q.then fun d H1 _ e1 q1 => k d H1 e1 (r.mono e1) q1)
  exact fun pins s I => h1.run pins s σ H Q I h2
def dCut (x : PyData) (lo hi : Option Int) : RO PyData := match x with
  | .list xs => .ok (.list (cutD xs lo hi))
  | .tuple xs => .ok (.tuple (cutD xs lo hi))
  | .str z => if z.length ≤ sizeLine then .ok (.str (cutS z lo hi)) else .no
  | _ => .no
variable {lo hi : Option Expr} {fl fh : Env → RO (Option Int)} {p2 : Pos}
abbrev rSl3 (K : PySem.W.Frag) : V → Option Int → Option Int → Hp → VK → Prop := fun x l h H Q => rSlL K x l h H Q ∨ (rSlA K x l h H Q ∨ rSlS x l h H Q)
theorem cut_whole {xs : List PyData} {l h : Option Int} (e : HT.sIx xs.length 0 l = 0 ∧ HT.sIx xs.length xs.length h = xs.length) : cutD xs l h = xs := by
  unfold cutD
  rw [e.1, e.2, Nat.sub_zero, List.drop_zero, List.take_length]
theorem ce_slice (ha : CE X W a fa) (h1 : CO X W lo fl) (h2 : CO X W hi fh) : CE X W (.Subscript a (.Slice lo hi none p2) pos) (fun env => fa env >>= fun x => fl env >>= fun l => fh env >>= fun u => dCut x l u) := fun Z env σ H O Q r q => by
  refine wp_e (pe_slice (r := rSl3 X.K) (sl_list.or (sl_tupA.or sl_str)) pe_wp po_wp po_wp) ?_
  refine ha.go r q fun dx vx H1 e1 d1 r1 q1 => ?_
  refine h1.go r1 q1 fun l H2 e2 r2 q2 => ?_
  refine h2.go r2 q2 fun u H3 e3 r3 q3 => ?_
  have d3 := ((e2.trans e3).hid O).dp d1
  cases dx with
  | list xs =>
    obtain ⟨p, vs, rfl, p1, p2⟩ := dp_lst d3
    exact .inl ⟨p, vs, rfl, Ext.unhid.sl p1, fun t ht => q3 _ (Ext.new ht) _ (dp_newL r3.lv ht (cut_dpa p2 l u))⟩
  | tuple xs =>
    obtain ⟨p, vs, rfl, p1, p2⟩ := dp_tup d3
    refine .inr (.inl ⟨p, vs, rfl, Ext.unhid.st p1, fun hw => q3.here _ ?_, fun _ t ht => q3 _ (Ext.new ht) _ (dp_newT r3.lv ht (cut_dpa p2 l u))⟩)
    rw [dpa_len p2] at hw
    rw [cut_whole hw]
    exact d3
  | str z =>
    cases dp_str d3
    have q4 : ROk X W σ O (VQ X.K O Q) H3 (if z.length ≤ sizeLine then .ok (.str (cutS z l u)) else .no) := q3
    by_cases hz : z.length ≤ sizeLine
    · rw [if_pos hz] at q4
      exact .inr (.inr ⟨z, rfl, hz, q4.here _ (.str _)⟩)
    · rw [if_neg hz] at q4
      exact q4.elim
  | _ => exact q3.elim
/-! ### tuple(x), list(x) -/
section
variable {x : Str} {p : Pos}
def dSeq (d : PyData) : RO (List PyData) := match d with
  | .list xs => .ok xs
  | .tuple xs => .ok xs
  | _ => .no
theorem cl_list (h : CE X W e f) (hg : Gl X "list") (hm : X.mg "list" = none) (he : starEach [e] X.env = (false, eval e X.env) :: starEach [] X.env := by rfl) (hpl : (backTo pos (starEach [] X.env)).any (·.1) = false := by rfl) :
    CL X W (.Call (.Name "list" p) [e] [] pos) (fun env => f env >>= dSeq) := fun Z env σ H O Q r q => by
  refine wp_e (pe_callTy call_list_of hg hm (by decide +kernel) (pa_cons pe_wp pa_nil he) (by decide) (by decide) he hpl) ?_
  refine h.go r q fun d v H1 e1 d1 r1 q1 => ?_
  cases d with
  | list xs =>
    obtain ⟨p, vs, rfl, p1, p2⟩ := dp_lst d1
    exact ⟨p, vs, rfl, .inl (Ext.unhid.sl p1), fun t ht => q1.here t _ ht p2⟩
  | tuple xs =>
    obtain ⟨p, vs, rfl, p1, p2⟩ := dp_tup d1
    exact ⟨p, vs, rfl, .inr (Ext.unhid.st p1), fun t ht => q1.here t _ ht p2⟩
  | _ => exact q1.elim
theorem ce_tuple (h : CE X W e f) (hg : Gl X "tuple") (hm : X.mg "tuple" = none) (he : starEach [e] X.env = (false, eval e X.env) :: starEach [] X.env := by rfl) (hpl : (backTo pos (starEach [] X.env)).any (·.1) = false := by rfl) :
    CE X W (.Call (.Name "tuple" p) [e] [] pos) (fun env => f env >>= dSeq >>= fun xs => .ok (.tuple xs)) := fun Z env σ H O Q r q => by
  dsimp only at q
  rw [RO.assoc] at q
  refine wp_e (pe_callTy call_tuple_of hg hm (by decide +kernel) (pa_cons pe_wp pa_nil he) (by decide) (by decide) he hpl) ?_
  refine h.go r q fun d v H1 e1 d1 r1 q1 => ?_
  cases d with
  | list xs =>
    obtain ⟨p, vs, rfl, p1, p2⟩ := dp_lst d1
    exact ⟨p, vs, rfl, .inl ⟨Ext.unhid.sl p1, fun t ht => q1 _ (Ext.new ht) _ (dp_newT r1.lv ht p2)⟩⟩
  | tuple xs =>
    obtain ⟨p, vs, rfl, p1, p2⟩ := dp_tup d1
    exact ⟨p, vs, rfl, .inr ⟨Ext.unhid.st p1, q1.here _ d1⟩⟩
  | _ => exact q1.elim
theorem ce_tupleO (i : Nat) {p2 : Pos} (hg : Gl X "tuple") (hm : X.mg "tuple" = none) (hN : X.N[i]? = some x := by rfl) (hv : Vis X.env.scope x := by first | exact Or.inl rfl | exact Or.inr (Or.inl rfl) | exact Or.inr (Or.inr rfl)) (hd : (x == ("__debug__" : Str)) = false := by decide)
    (hcd : (x == ("__classdict__" : Str)) = false := by decide) (he : starEach [.Name x p2] X.env = (false, eval (.Name x p2) X.env) :: starEach [] X.env := by rfl) (hpl : (backTo pos (starEach [] X.env)).any (·.1) = false := by rfl) :
    CE X W (.Call (.Name "tuple" p) [.Name x p2] [] pos) (fun env => gvo env i >>= fun xs => .ok (.tuple xs)) := fun Z env σ H O Q r q => by
  refine wp_e (pe_callTy call_tuple_of hg hm (by decide +kernel) (pa_cons pe_wp pa_nil he) (by decide) (by decide) he hpl) ?_
  rcases gvo_cases env i with ⟨ds, hi⟩ | hi
  · dsimp only at q
    rw [hi] at q
    exact own_read r (gvo_ok hi) hN hv hd hcd fun p vs s1 s2 s3 s4 s5 => ⟨p, vs, rfl, .inl ⟨SqL.of s4, fun t ht => q _ (Ext.new ht) _ (dp_newT r.lv ht s5)⟩⟩
  · dsimp only at q
    rw [hi] at q
    exact q.elim
end
end
end PD
set_option Elab.async false
set_option linter.all false
set_option maxRecDepth 100000
set_option maxHeartbeats 4000000
namespace PD
open PySem PySem.Spec PyProof.Rows L2

/-! ### targets -/
def GOk (r : RO Env) (P : Env → Prop) : Prop := match r with
  | .ok e => P e
  | _ => False
abbrev G := PyData → Env → RO Env
abbrev Gs := List PyData → Env → RO Env
def wpGs (X : Cx) (ts : List Expr) : TGs := fun vs σ H Q => ∀ pins s us, Inv X pins σ H s → Vals vs us → wpAny (model X.prog X.w) X.A (assignInOrder ((assignEach ts X.env).map (·.2)) us) (fun _ s' => ∃ σ' H', Inv X pins σ' H' s' ∧ Q σ' H') X.xe s
def CG [Tbs] (X : Cx) (tg : Expr) (is : List Nat) (g : G) : Prop := ∀ Z env σ H O v d (Q : L2.St → Hp → Prop), Rep X.K Z env σ H O → Dp X.K (hid O H) v d →
  GOk (g d env) (fun env' => ∀ σ' : Sg, Rep X.K Z env' σ' H O → σ'.length = σ.length → (∀ j, j ∉ is → σ'[j]? = σ[j]?) → Q σ' H) → wpG X tg v σ H Q
def CGs [Tbs] (X : Cx) (ts : List Expr) (is : List Nat) (g : Gs) : Prop := ∀ Z env σ H O vs ds (Q : L2.St → Hp → Prop), Rep X.K Z env σ H O → DpAll X.K (hid O H) vs ds →
  GOk (g ds env) (fun env' => ∀ σ' : Sg, Rep X.K Z env' σ' H O → σ'.length = σ.length → (∀ j, j ∉ is → σ'[j]? = σ[j]?) → Q σ' H) → wpGs X ts vs σ H Q
section
variable {X : Cx} {W : WX} {pos : Pos} {t : Expr} {ts : List Expr} {g : G} {gs : Gs} {is js : List Nat}
variable [Tbs]
theorem pgs_wp : PGs X ts (wpGs X ts) := ⟨fun pins s _ _ _ us _ I r h => h pins s us I r⟩
def gN (i : Nat) : G := fun d env => .ok (env.set i (some (.fz d)))
def gsN : Gs := fun ds env => match ds with
  | [] => .ok env
  | _ => .no
def gsC (g : G) (gs : Gs) : Gs := fun ds env => match ds with
  | d :: r => g d env >>= fun e1 => gs r e1
  | [] => .no
def gT (n : Nat) (gs : Gs) : G := fun d env => match d with
  | .tuple ds => if ds.length = n then gs ds env else .no
  | .list ds => if ds.length = n then gs ds env else .no
  | _ => .no
theorem cg_name (i : Nat) {x : Str} (hN : X.N.Nodup) (hi : X.N[i]? = some x) (hx : Loc X.env.scope x) (hf : X.fn x = true ∨ X.env.scope.names.lookup x = some .local := by first | exact .inl rfl | exact .inr rfl | assumption) : CG X (.Name x pos) [i] (gN i) := fun Z env σ H O v d Q r h q =>
  wp_g (pg_name hN hi hx hf) (q _ (r.setFz i h) (by simp) fun j hj => List.getElem?_set_ne (fun z => hj (by simp [z])))
theorem cgs_nil : CGs X [] [] gsN := fun Z env σ H O vs ds Q r h q => by
  intro pins s us I rv
  cases ds with
  | nil =>
    cases h
    cases rv
    exact assignInOrder_nil ⟨σ, H, I, q σ r rfl fun _ _ => rfl⟩
  | cons _ _ => exact q.elim
theorem cgs_cons (h1 : CG X t is g) (h2 : CGs X ts js gs) (hs : (assignEach (t :: ts) X.env).map (·.2) = assign t X.env :: (assignEach ts X.env).map (·.2) := by rfl) : CGs X (t :: ts) (is ++ js) (gsC g gs) := fun Z env σ H O vs ds Q r h q => by
  intro pins s us I rv
  cases ds with
  | nil => exact q.elim
  | cons d ds =>
    cases h with
    | cons hv hr =>
      cases rv with
      | cons r1 r2 =>
        rw [hs]
        have q' : GOk (g d env >>= fun e1 => gs ds e1) _ := q
        cases hg : g d env with
        | ok e1 =>
          rw [hg] at q'
          refine assignInOrder_cons (thn (h1 Z env σ H O _ d (fun σ1 H1 => H1 = H ∧ Rep X.K Z e1 σ1 H O ∧ σ1.length = σ.length ∧ ∀ j, j ∉ is → σ1[j]? = σ[j]?) r hv (by rw [hg]; exact fun σ' a b c => ⟨rfl, a, b, c⟩) pins s _ I r1) fun _ s1 ⟨σ1, H1, I1, e, rp, l1, k1⟩ => ?_)
          subst e
          exact h2 Z e1 σ1 H1 O _ ds Q rp hr (by
            have q2 : GOk (gs ds e1) _ := q'
            cases hg2 : gs ds e1 with
            | ok e2 =>
              rw [hg2] at q2
              exact fun σ' a b c => q2 σ' a (b.trans l1) fun j hj => (c j fun z => hj (List.mem_append_right _ z)).trans (k1 j fun z => hj (List.mem_append_left _ z))
            | er _ _ => rw [hg2] at q2; exact q2.elim
            | no => rw [hg2] at q2; exact q2.elim) pins s1 _ I1 r2
        | er _ _ => rw [hg] at q'; exact q'.elim
        | no => rw [hg] at q'; exact q'.elim
theorem cg_tup {k : Nat} {n : Nat} (hc : X.calm = true) (h : CGs X ts is gs) (hn : (assignEach ts X.env).length = n := by rfl) (hst : (assignEach ts X.env).findIdx? (·.1) = none := by rfl) : CG X (.Tuple ts k pos) is (gT n gs) := fun Z env σ H O v d Q r hv q => by
  cases d with
  | tuple ds =>
    obtain ⟨p, vs, rfl, h1, h2⟩ := dp_tup hv
    have q' : GOk (if ds.length = n then gs ds env else .no) _ := q
    by_cases z : ds.length = n
    · rw [if_pos z] at q'
      exact wp_g (pg_tup hc pgs_wp hn hst) ⟨p, vs, rfl, Ext.unhid.st h1, by rw [dpa_len h2]; exact z, h Z env σ H O vs ds Q r h2 q'⟩
    · rw [if_neg z] at q'
      exact q'.elim
  | list ds =>
    obtain ⟨p, vs, rfl, h1, h2⟩ := dp_lst hv
    have q' : GOk (if ds.length = n then gs ds env else .no) _ := q
    by_cases z : ds.length = n
    · rw [if_pos z] at q'
      exact wp_g (pg_lst hc pgs_wp hn hst) ⟨p, vs, rfl, Ext.unhid.sl h1, by rw [dpa_len h2]; exact z, h Z env σ H O vs ds Q r h2 q'⟩
    · rw [if_neg z] at q'
      exact q'.elim
  | _ => exact q.elim
end

/-! ### what is walked -/
structure WalkD (K : PySem.W.Frag) (O : List Addr) (H : Hp) (J : It) (ds : List PyData) : Prop where
  go : ∀ i d O1 H1, ds[i]? = some d → Ext (hid O H) (hid O1 H1) → Lv O1 H1 → J.go i H1 ∧ ∀ x H2, J.yld i H1 x H2 → Ext H1 H2 ∧ Dp K (hid O1 H2) x d
  stop : ∀ i O1 H1, ds.length = i → Ext (hid O H) (hid O1 H1) → J.stop i H1
def IQ (K : PySem.W.Frag) (O : List Addr) (R : It → Hp → Prop) (ds : List PyData) (H : Hp) : Prop := ∀ J, WalkD K O H J ds → R J H
/-- the items of the own list of slot i -/
def CI [Tbs] (X : Cx) (W : WX) (tg it : Expr) (f : Env → RO (List PyData)) : Prop := ∀ Z env σ H O R, Rep X.K Z env σ H O → ROk X W σ O (IQ X.K O R) H (f env) → wpI X tg it σ H R
section
variable {K : PySem.W.Frag} {O : List Addr} {H : Hp}
theorem walk_l {a : Addr} {vs : List V} {ds : List PyData} (h : SqL K (hid O H) a vs) (hd : DpAll K (hid O H) vs ds) : WalkD K O H (Itl K a) ds where
  go := fun i d O1 H1 e x l => by
    obtain ⟨v, h1, h2⟩ := dpa_get hd e
    have s1 : SqL K H1 a vs := Ext.unhid.sl (x.sl h)
    refine ⟨⟨vs, v, s1, h1⟩, fun y H2 ⟨e2, hy⟩ => ?_⟩
    subst e2
    have := hy vs s1
    rw [h1] at this
    cases this
    exact ⟨Ext.refl _, x.dp h2⟩
  stop := fun i O1 H1 hi x => ⟨vs, Ext.unhid.sl (x.sl h), by rw [dpa_len hd]; exact Nat.le_of_eq hi⟩
theorem walk_t {a : Addr} {vs : List V} {ds : List PyData} (h : SqT K (hid O H) a vs) (hd : DpAll K (hid O H) vs ds) : WalkD K O H (Itt K a) ds where
  go := fun i d O1 H1 e x l => by
    obtain ⟨v, h1, h2⟩ := dpa_get hd e
    have s1 : SqT K H1 a vs := Ext.unhid.st (x.st h)
    refine ⟨⟨vs, v, s1, h1⟩, fun y H2 ⟨e2, hy⟩ => ?_⟩
    subst e2
    have := hy vs s1
    rw [h1] at this
    cases this
    exact ⟨Ext.refl _, x.dp h2⟩
  stop := fun i O1 H1 hi x => ⟨vs, Ext.unhid.st (x.st h), by rw [dpa_len hd]; exact Nat.le_of_eq hi⟩
def strItems (x : Str) : List PyData := x.cps.toList.map fun c => .str ⟨#[c]⟩
theorem walk_s {x : Str} : WalkD K O H (Its x) (strItems x) where
  go := fun i d O1 H1 e xx l => by
    unfold strItems at e
    rw [List.getElem?_map] at e
    cases hc : x.cps.toList[i]? with
    | none => rw [hc] at e; cases e
    | some c =>
      rw [hc] at e
      cases e
      have hc' : x.cps[i]? = some c := by rw [← Array.getElem?_toList]; exact hc
      refine ⟨(Array.getElem?_eq_some_iff.mp hc').1, fun y H2 ⟨e2, c2, h2, e3⟩ => ?_⟩
      subst e2
      subst e3
      rw [hc'] at h2
      cases h2
      exact ⟨Ext.refl _, .str _⟩
  stop := fun i O1 H1 hi xx => by
    unfold strItems at hi
    rw [List.length_map, Array.length_toList] at hi
    exact Nat.le_of_eq hi
def rngItems (lo : Int) (n : Nat) : List PyData := (List.range n).map fun i => .int (lo + (i : Nat))
theorem walk_r {lo : Int} {n : Nat} : WalkD K O H (Itr lo n) (rngItems lo n) where
  go := fun i d O1 H1 e x l => by
    unfold rngItems at e
    rw [List.getElem?_map] at e
    by_cases hi : i < n
    · rw [List.getElem?_range hi] at e
      cases e
      refine ⟨hi, fun y H2 ⟨e2, e3⟩ => ?_⟩
      subst e2
      subst e3
      exact ⟨Ext.refl _, .int _⟩
    · rw [List.getElem?_eq_none (by simpa using hi)] at e
      cases e
  stop := fun i O1 H1 hi x => by
    unfold rngItems at hi
    rw [List.length_map, List.length_range] at hi
    exact Nat.le_of_eq hi
end
section
variable {X : Cx} {W : WX} {tg e a b c : Expr} {es : List Expr} {f fa fb : E} {pos p : Pos} {Z : Zn} {env : Env} {σ : Sg} {H : Hp} {O : List Addr}
variable [Tbs]
/-- walking a value -/
def wpIt (X : Cx) (tg : Expr) (v : V) : L2.St → Hp → (It → Hp → Prop) → Prop := fun σ H R => ∀ pins s u, Inv X pins σ H s → RelV v u → wpAny (model X.prog X.w) X.A (pyIter u) (PIE X pins σ tg R) X.xe s
theorem pi_gen {t : TE} (h : PE X e t) : PI X tg e (fun σ H R => t σ H fun v H1 => wpIt X tg v σ H1 R) := ⟨fun pins s σ H R I hw => thn (h.run pins s σ H _ I hw) fun u s1 ⟨v, H1, I1, r1, q1⟩ => q1 pins s1 u I1 r1⟩
theorem it_list {a : Addr} {xs : List V} {R : It → Hp → Prop} (hq : SqL X.K H a xs) (q : R (Itl X.K a) H) : wpIt X tg (.ref a) σ H R := fun pins s1 u I1 r1 => by
  cases r1
  obtain ⟨its, rv, p, hz⟩ := I1.list hq
  refine wpAny_pyIter_list p.isList ?_
  refine ⟨s1.heap.objs.size, [s1.heap.objs.size], _, _, H, rfl, I1.kept (t' := s1.toks) fun b o e => Heap.get?_push_of_some _ e, turn_list a _, ⟨_, Heap.get?_push_size _ rfl, rfl, rfl⟩, fun b hb => ?_, q⟩
  have e : b = s1.heap.objs.size := by simpa using hb
  subst e
  exact I1.fpOk (Nat.le_refl _) (I1.hok.fresh (Nat.le_refl _))
theorem it_tup {a : Addr} {xs : List V} {R : It → Hp → Prop} (hq : SqT X.K H a xs) (q : R (Itt X.K a) H) : wpIt X tg (.ref a) σ H R := fun pins s1 u I1 r1 => by
  cases r1
  obtain ⟨its, rv, p, hz⟩ := I1.tuple hq
  refine wpAny_pyIter_tuple (show s1.heap.IsTuple a its.toArray from p) ?_
  refine ⟨s1.heap.objs.size, [s1.heap.objs.size], _, _, H, rfl, I1.kept (t' := s1.toks) fun b o e => Heap.get?_push_of_some _ e, turn_tuple a _, ⟨_, Heap.get?_push_size _ rfl, rfl, rfl⟩, fun b hb => ?_, q⟩
  have e : b = s1.heap.objs.size := by simpa using hb
  subst e
  exact I1.fpOk (Nat.le_refl _) (I1.hok.fresh (Nat.le_refl _))
theorem it_str {x : Str} {R : It → Hp → Prop} (q : R (Its x) H) : wpIt X tg (.str x) σ H R := fun pins s1 u I1 r1 => by
  obtain ⟨t, rfl⟩ := r1
  cases ha : x.cps.all (· < 128)
  · exact wpAny_pyIter_wide ha (pi_one (tk := s1.toks) I1 _ (turn_str _ x t "str_iterator" (.inr rfl)) ⟨_, Heap.get?_push_size _ rfl, rfl, rfl⟩ q)
  · exact wpAny_pyIter_ascii ha (pi_one (tk := s1.toks) I1 _ (turn_str _ x t "str_ascii_iterator" (.inl rfl)) ⟨_, Heap.get?_push_size _ rfl, rfl, rfl⟩ q)
def dIter (d : PyData) : RO (List PyData) := match d with
  | .list xs => .ok xs
  | .tuple xs => .ok xs
  | .str x => .ok (strItems x)
  | _ => .no
/-- for .. in a list, a tuple, a text -/
theorem ci_seq [Tbs] (h : CE X W e f) : CI X W tg e (fun env => f env >>= dIter) := fun Z env σ H O R r q => by
  refine wp_i (pi_gen pe_wp) ?_
  refine h.go r q fun d v H1 e1 d1 r1 q1 => ?_
  cases d with
  | list xs =>
    obtain ⟨p, vs, rfl, h1, h2⟩ := dp_lst d1
    exact it_list (Ext.unhid.sl h1) (q1.here _ (walk_l h1 h2))
  | tuple xs =>
    obtain ⟨p, vs, rfl, h1, h2⟩ := dp_tup d1
    exact it_tup (Ext.unhid.st h1) (q1.here _ (walk_t h1 h2))
  | str x =>
    cases dp_str d1
    exact it_str (q1.here _ walk_s)
  | _ => exact q1.elim
/-- for .. in a list of the frame's own, while nothing is changed -/
def rng1 (d : PyData) : RO (List PyData) := match d with
  | .int j => if -(2 ^ 62) ≤ j ∧ j < 2 ^ 62 then .ok (rngItems 0 j.toNat) else .no
  | _ => .no
def rng2 (d e : PyData) : RO (List PyData) := match d, e with
  | .int i, .int j => if -(2 ^ 62) ≤ i ∧ i < 2 ^ 62 ∧ -(2 ^ 62) ≤ j ∧ j < 2 ^ 62 then .ok (rngItems i (j - i).toNat) else .no
  | _, _ => .no
theorem ci_range1 [Tbs] (h : CE X W a fa) (hg : Gl X "range") (hm : X.mg "range" = none) (hs : starEach [a] X.env = [(false, eval a X.env)] := by rfl) : CI X W tg (.Call (.Name "range" p) [a] [] pos) (fun env => fa env >>= rng1) := fun Z env σ H O R r q => by
  refine wp_i (pi_range1 hg hm (pa_cons pe_wp pa_nil (by rw [hs] <;> rfl)) hs) ?_
  refine h.go r q fun d v H1 e1 d1 r1 q1 => ?_
  cases d with
  | int j =>
    cases dp_int d1
    have q2 : ROk X W σ O (IQ X.K O R) H1 (if -(2 ^ 62) ≤ j ∧ j < 2 ^ 62 then .ok (rngItems 0 j.toNat) else .no) := q1
    by_cases z : -(2 ^ 62) ≤ j ∧ j < 2 ^ 62
    · rw [if_pos z] at q2
      exact ⟨j, rfl, z.1, z.2, q2.here _ walk_r⟩
    · rw [if_neg z] at q2
      exact q2.elim
  | _ => exact q1.elim
end
end PD
set_option Elab.async false
set_option linter.all false
set_option maxRecDepth 100000
set_option maxHeartbeats 4000000
namespace PD
open PySem PySem.Spec PyProof.Rows L2

/-! ### comprehensions -/
def quiet {α : Type} (r : RO α) : RO α := match r with
  | .er _ _ => .no
  | r => r
theorem quiet_ok {α : Type} {r : RO α} {a : α} (h : quiet r = .ok a) : r = .ok a := by
  cases r with
  | ok b => exact h
  | er _ _ => cases h
  | no => cases h
def compGo (g : G) (t : T) (f : E) (env : Env) : List PyData → RO (List PyData)
  | [] => .ok []
  | x :: xs => quiet (g x env) >>= fun e1 => quiet (t e1) >>= fun b => if b = true then quiet (f e1) >>= fun y => compGo g t f env xs >>= fun ys => .ok (y :: ys) else compGo g t f env xs
def compD (g : G) (t : T) (f : E) (env : Env) (items : List PyData) : RO (List PyData) := if items.length ≤ sizeLine then compGo g t f env items else .no
theorem bind_okE {α β : Type} {r : RO α} {k : α → RO β} {b : β} (h : (r >>= k) = .ok b) : ∃ a, r = .ok a ∧ k a = .ok b := by
  cases r with
  | ok a => exact ⟨a, rfl, h⟩
  | er _ _ => cases h
  | no => cases h
theorem comp_noEr (g : G) (t : T) (f : E) (env : Env) : ∀ items c fl, compGo g t f env items ≠ .er c fl
  | [], c, fl, h => by cases h
  | x :: xs, c, fl, h => by
    have ih := comp_noEr g t f env xs
    have qn : ∀ {α : Type} (r : RO α) c fl, quiet r ≠ .er c fl := fun r c fl z => by cases r <;> cases z
    have bn : ∀ {α β : Type} {r : RO α} {k : α → RO β}, (∀ c fl, r ≠ .er c fl) → (∀ a c fl, k a ≠ .er c fl) → ∀ c fl, (r >>= k) ≠ .er c fl := fun {α β r k} h1 h2 c fl z => by
      cases r with
      | ok a => exact h2 a c fl z
      | er c' fl' => exact h1 c' fl' rfl
      | no => cases z
    refine bn (qn _) (fun e1 => bn (qn _) fun b => ?_) c fl h
    intro c fl
    split
    · exact bn (qn _) (fun y => bn ih fun ys c fl z => by cases z) c fl
    · exact ih c fl
def wipeE (env : Env) : List Nat → Env
  | [] => env
  | v :: vs => (wipeE env vs).set v none
abbrev WN : WX := fun _ _ _ _ => False
section
variable {K : PySem.W.Frag} {Z : Zn} {env : Env} {σ : Sg} {H H1 H2 : Hp} {O : List Addr} {D : Addr} {acc : List V}
variable [Tbs]
theorem Rep.wipe (r : Rep K Z env σ H O) : ∀ vs, Rep K Z (wipeE env vs) (L2.wipe σ vs) H O
  | [] => r
  | v :: vs => (Rep.wipe r vs).setNone v none
theorem hid_cons : hid O (hid [D] H) = hid (D :: O) H := by
  funext a
  unfold hid
  by_cases h1 : a ∈ O
  · rw [if_pos h1, if_pos (List.mem_cons_of_mem _ h1)]
  · rw [if_neg h1]
    by_cases h2 : a = D
    · rw [if_pos (by simp [h2]), if_pos (by simp [h2])]
    · rw [if_neg (by simp [h2]), if_neg (by simp [h1, h2])]
theorem Rep.grow (r : Rep K Z env σ H1 O) (e : Ext H1 (hid [D] H2)) (hl : H2 D = some (.lst acc)) : Rep K Z env σ H2 (D :: O) := by
  have e2 : Ext (hid O H1) (hid (D :: O) H2) := by
    rw [← hid_cons]
    exact e.hid O
  have e3 : Ext H1 H2 := e.trans Ext.unhid
  refine ⟨r.ex.trans e2, fun a h => List.mem_cons_of_mem _ (r.sub a h), fun a h => ?_, r.len, fun i s h => ?_, r.nd, fun a h => ?_, fun P hP => tabG_ext e3 (r.tb P hP)⟩
  · obtain ⟨vs, q⟩ := r.lv a (r.sub a h)
    rw [e3.lst q, ← r.kp a h, q]
  · obtain ⟨v, h1, h2⟩ := r.sl i s h
    refine ⟨v, h1, ?_⟩
    cases s with
    | fz d => exact e2.dp h2
    | ob c fs => exact e2.ob h2
    | own ds =>
      obtain ⟨a, vs, p1, p2, p3, p4, p5⟩ := h2
      exact ⟨a, vs, p1, List.mem_cons_of_mem _ p2, p3, e3.lst p4, e2.dpa p5⟩
  · rcases List.mem_cons.mp h with z | h
    · exact ⟨acc, by rw [z]; exact hl⟩
    · obtain ⟨vs, q⟩ := r.lv a h
      exact ⟨vs, e3.lst q⟩
theorem wipe_get (σ : L2.St) : ∀ (vs : List Nat) (j : Nat), (L2.wipe σ vs)[j]? = if j ∈ vs then (if j < σ.length then some none else none) else σ[j]?
  | [], j => by simp [L2.wipe]
  | v :: vs, j => by
    unfold L2.wipe
    by_cases h : j = v
    · subst h
      rw [if_pos List.mem_cons_self]
      by_cases z : j < σ.length
      · rw [if_pos z, List.getElem?_set_self (by rw [wipe_length]; exact z)]
      · rw [if_neg z, List.getElem?_eq_none (by rw [List.length_set, wipe_length]; omega)]
    · rw [List.getElem?_set_ne (Ne.symm h), wipe_get σ vs j]
      by_cases m : j ∈ vs
      · rw [if_pos m, if_pos (List.mem_cons_of_mem _ m)]
      · rw [if_neg m, if_neg (by simp [h, m])]
theorem wipe_back {σ σ2 : L2.St} {vs : List Nat} (hl : σ2.length = (L2.wipe σ vs).length) (h : ∀ j, j ∉ vs → σ2[j]? = (L2.wipe σ vs)[j]?) : L2.wipe σ2 vs = L2.wipe σ vs := by
  apply List.ext_getElem?
  intro j
  rw [wipe_length] at hl
  rw [wipe_get, wipe_get]
  by_cases m : j ∈ vs
  · rw [if_pos m, if_pos m, hl]
  · rw [if_neg m, if_neg m, h j m, wipe_get, if_neg m]
end
def wpTs (X : Cx) (ifs : List Expr) : TT := fun σ H Q => ∀ pins s, Inv X pins σ H s → wpAny (model X.prog X.w) X.A (forIn ifs true fun c r => if r = true then do let ok ← isTrue c X.env (eval c X.env); pure (ForInStep.yield ok) else pure (ForInStep.yield r)) (TP X pins σ Q) X.xe s
def CTs [Tbs] (X : Cx) (W : WX) (ifs : List Expr) (f : T) : Prop := ∀ Z env σ H O Q, Rep X.K Z env σ H O → ROk X W σ O Q H (f env) → wpTs X ifs σ H Q
section
variable {X : Cx} {W : WX} {tg iter elt c : Expr} {ifs : List Expr} {scope : Scope} {own : List (Str × Nat)} {pos : Pos} {fs : Env → RO (List PyData)} {g : G} {is : List Nat} {t : T} {f : E}
variable [Tbs]
theorem cts_nil : CTs X W [] (fun _ => .ok true) := fun Z env σ H O Q r q => fun pins s I => pts_nil.run pins s σ H Q I q.here
theorem ROk.unquiet {α : Type} {W' : WX} {σ : Sg} {O : List Addr} {H : Hp} {P : α → Hp → Prop} {r : RO α} {a : α} (h : r = .ok a) (q : ∀ H', Ext H H' → P a H') : ROk X W' σ O P H r := by
  rw [h]
  exact q
/-- the walk of a comprehension (the new list at D), over items that are known -/
theorem comp_core {J : It} {Z : Zn} {env : Env} {σ : Sg} {H1 : Hp} {O : List Addr} {Q : VK} {items zs : List PyData}
    (hg : ∀ (s : Shared) (H : Hp) (C : Addr) (cl : List (Str × Addr)) (fp : List Addr), CG (X.blk s H scope (compEnvC scope cl C X.env) fp) tg is g) (his : ∀ j ∈ is, j ∈ own.map (·.2))
    (ht : ∀ (s : Shared) (H : Hp) (C : Addr) (cl : List (Str × Addr)) (fp : List Addr), CTs (X.blk s H scope (compEnvC scope cl C X.env) fp) WN ifs t)
    (he : ∀ (s : Shared) (H : Hp) (C : Addr) (cl : List (Str × Addr)) (fp : List Addr), CE (X.blk s H scope (compEnvC scope cl C X.env) fp) WN elt f)
    (r1 : Rep X.K Z env σ H1 O) (wk : ∀ i d O1 H2, items[i]? = some d → Ext (hid O H1) (hid O1 H2) → (∀ a ∈ O, a ∈ O1) → Lv O1 H2 → Ext H1 H2 → J.go i H2 ∧ ∀ x H3, J.yld i H2 x H3 → Ext H2 H3 ∧ Dp X.K (hid O1 H3) x d)
    (ws : ∀ i O1 H2, items.length = i → Ext (hid O H1) (hid O1 H2) → Ext H1 H2 → J.stop i H2) (hz : items.length ≤ sizeLine) (hv : compGo g t f (wipeE env (own.map (·.2))) items = .ok zs)
    (q : ∀ H', Ext H1 H' → LQ X.K O Q zs H') (D : Addr) (hD : H1 D = none) :
    ∃ W : Nat → Nat → Hp → Prop, (∃ m, W 0 m (upd H1 D (.lst []))) ∧ ∀ i m H, W i m H →
      (J.stop i H ∧ Q (.ref D) H) ∨ (J.go i H ∧ ∃ Nx : Hp → Prop, (∀ H', Nx H' → ∃ m', m' < m ∧ W (i + 1) m' H') ∧ ∀ x H', J.yld i H x H' →
        (fun (v : V) (σ' : L2.St) (H : Hp) (Q : L2.St → Hp → Prop) => ∀ s H0 C cl fp, wpG (X.blk s H0 scope (compEnvC scope cl C X.env) fp) tg v σ' H Q) x (L2.wipe σ (own.map (·.2))) H' fun σ2 H2 => L2.wipe σ2 (own.map (·.2)) = L2.wipe σ (own.map (·.2)) ∧
        (fun (σ' : L2.St) (H : Hp) (Q : Bool → Hp → Prop) => ∀ s H0 C cl fp, wpTs (X.blk s H0 scope (compEnvC scope cl C X.env) fp) ifs σ' H Q) σ2 H2 fun b H3 =>
        if b = true then (fun (σ' : L2.St) (H : Hp) (Q : VK) => ∀ s H0 C cl fp, wpE (X.blk s H0 scope (compEnvC scope cl C X.env) fp) elt σ' H Q) σ2 H3 fun y H4 => ∃ acc, H4 D = some (.lst acc) ∧ acc.length < sizeLine ∧ Nx (upd H4 D (.lst (acc ++ [y]))) else Nx H3) := by
  have updD : ∀ {H2 : Hp} {acc : List V}, hid [D] (upd H2 D (.lst acc)) = hid [D] H2 := fun {H2 acc} => by
    funext a
    unfold hid
    by_cases z : a = D
    · rw [if_pos (by simp [z]), if_pos (by simp [z])]
    · rw [if_neg (by simp [z]), if_neg (by simp [z]), upd_ne z]
  let Wv : Nat → Nat → Hp → Prop := fun i m H2 => m = items.length - i ∧ i ≤ items.length ∧ ∃ acc ad ys, H2 D = some (.lst acc) ∧ Ext H1 (hid [D] H2) ∧ DpAll X.K (hid (D :: O) H2) acc ad ∧ compGo g t f (wipeE env (own.map (·.2))) (items.drop i) = .ok ys ∧ zs = ad ++ ys ∧ ad.length ≤ i
  refine ⟨Wv, ⟨items.length, by simp, Nat.zero_le _, [], [], zs, upd_same, ?_, .nil, by simpa using hv, rfl, Nat.le_refl _⟩, ?_⟩
  · rw [updD]
    refine fun a o ha => .inl ?_
    rw [hid_out (by simpa using ne_of_none ha hD)]
    exact ha
  rintro i m H2 ⟨rfl, hi, acc, ad, ys, hl, ex, da, hc, hzs, hai⟩
  have eO : Ext (hid O H1) (hid (D :: O) H2) := by
    rw [← hid_cons]
    exact ex.hid O
  have rg := r1.grow ex hl
  have exU : Ext H1 H2 := ex.trans Ext.unhid
  by_cases hlt : i < items.length
  · -- a turn
    have hx : items[i]? = some items[i] := List.getElem?_eq_getElem hlt
    obtain ⟨hgo, hyld⟩ := wk i _ (D :: O) H2 hx eO (fun a h => List.mem_cons_of_mem _ h) rg.lv exU
    rw [List.drop_eq_getElem_cons hlt] at hc
    obtain ⟨e1, hq1, hc⟩ := bind_okE hc
    obtain ⟨bt, hq2, hc⟩ := bind_okE hc
    have hg1 := quiet_ok hq1
    have ht1 := quiet_ok hq2
    refine .inr ⟨hgo, fun H' => Wv (i + 1) (items.length - (i + 1)) H', fun H' h' => ⟨_, by omega, h'⟩, fun x H3 hy s H0 C cl fp => ?_⟩
    obtain ⟨e3, d3⟩ := hyld x H3 hy
    have rb := (rg.mono e3).wipe (own.map (·.2))
    refine hg s H0 C cl fp Z _ _ H3 (D :: O) x _ _ rb d3 ?_
    rw [hg1]
    refine fun σ2 r2 l2 k2 => ⟨wipe_back l2 fun j hj => k2 j fun z => hj (his j z), fun s H0 C cl fp => ?_⟩
    refine ht s H0 C cl fp Z e1 σ2 H3 (D :: O) _ r2 (ROk.unquiet ht1 fun H4 e4 => ?_)
    have l4 : H4 D = some (.lst acc) := (e3.trans e4).lst hl
    have ex4 : Ext H1 (hid [D] H4) := ex.trans ((e3.trans e4).hid [D])
    cases bt with
    | false =>
      rw [if_neg Bool.false_ne_true] at hc
      rw [if_neg Bool.false_ne_true]
      exact ⟨rfl, hlt, acc, ad, ys, l4, ex4, ((e3.trans e4).hid (D :: O)).dpa da, hc, hzs, by omega⟩
    | true =>
      rw [if_pos rfl] at hc
      rw [if_pos rfl]
      obtain ⟨y, hq3, hc⟩ := bind_okE hc
      obtain ⟨ys', hc', hc2⟩ := bind_okE hc
      cases hc2
      have hf1 := quiet_ok hq3
      intro s H0 C cl fp
      refine he s H0 C cl fp Z e1 σ2 H4 (D :: O) _ (r2.mono e4) (ROk.unquiet hf1 fun H5 e5 v hv => ?_)
      have e25 := (e3.trans e4).trans e5
      have l5 : H5 D = some (.lst acc) := e25.lst hl
      have ha := dpa_len da
      refine ⟨acc, l5, by omega, rfl, hlt, acc ++ [v], ad ++ [y], ys', upd_same, ?_, ?_, hc', by rw [hzs]; simp, by rw [List.length_append, List.length_singleton]; omega⟩
      · rw [updD]
        exact ex.trans (e25.hid [D])
      · have e6 : hid (D :: O) (upd H5 D (.lst (acc ++ [v]))) = hid (D :: O) H5 := by
          rw [← hid_cons (O := O) (D := D), ← hid_cons (O := O) (D := D), updD]
        rw [e6]
        exact dpa_app ((e25.hid (D :: O)).dpa da) (.cons hv .nil)
  · -- the end
    have e0 : i = items.length := by omega
    subst e0
    rw [List.drop_length] at hc
    cases hc
    rw [List.append_nil] at hzs
    subst hzs
    refine .inl ⟨ws _ (D :: O) H2 rfl eO exU, ?_⟩
    have q2 := q (hid [D] H2) ex D acc (hid_in (by simp)) (by rw [hid_cons]; exact da)
    have e7 : upd (hid [D] H2) D (.lst acc) = H2 := by
      funext b
      by_cases z : b = D
      · rw [z, upd_same, hl]
      · rw [upd_ne z, hid_out (by simpa using z)]
    rw [e7] at q2
    exact q2
theorem pe_comp (hc : X.calm = true) (hN : X.N.Nodup) (ok : BlkOk X.N X.env.scope scope own) (hs : ∀ x, foldedSetIterable iter X.env x = pure x) : PE X (.ListComp elt [⟨tg, iter, ifs, 0⟩] scope pos)
    (tLc (wpI X tg iter) (fun v σ H Q => ∀ s H0 C cl fp, wpG (X.blk s H0 scope (compEnvC scope cl C X.env) fp) tg v σ H Q) (fun σ H Q => ∀ s H0 C cl fp, wpTs (X.blk s H0 scope (compEnvC scope cl C X.env) fp) ifs σ H Q)
      (fun σ H Q => ∀ s H0 C cl fp, wpE (X.blk s H0 scope (compEnvC scope cl C X.env) fp) elt σ H Q) (own.map (·.2))) :=
  pe_lc hc hN pi_wp ok (fun s H C cl fp => ⟨fun pins s' _ _ _ u _ I r h => h s H C cl fp pins s' u I r⟩) (fun s H C cl fp => ⟨fun pins s' _ _ _ I h => h s H C cl fp pins s' I⟩) (fun s H C cl fp => ⟨fun pins s' _ _ _ I h => h s H C cl fp pins s' I⟩) hs
theorem cl_comp (hc : X.calm = true) (hN : X.N.Nodup) (ok : BlkOk X.N X.env.scope scope own) (hi : CI X W tg iter fs)
    (hg : ∀ (s : Shared) (H : Hp) (C : Addr) (cl : List (Str × Addr)) (fp : List Addr), CG (X.blk s H scope (compEnvC scope cl C X.env) fp) tg is g) (his : ∀ j ∈ is, j ∈ own.map (·.2))
    (ht : ∀ (s : Shared) (H : Hp) (C : Addr) (cl : List (Str × Addr)) (fp : List Addr), CTs (X.blk s H scope (compEnvC scope cl C X.env) fp) WN ifs t)
    (he : ∀ (s : Shared) (H : Hp) (C : Addr) (cl : List (Str × Addr)) (fp : List Addr), CE (X.blk s H scope (compEnvC scope cl C X.env) fp) WN elt f) (hs : ∀ x, foldedSetIterable iter X.env x = pure x := by intro _; rfl) :
    CL X W (.ListComp elt [⟨tg, iter, ifs, 0⟩] scope pos) (fun env => fs env >>= fun items => compD g t f (wipeE env (own.map (·.2))) items) := fun Z env σ H O Q r q => by
  refine wp_e (pe_comp hc hN ok hs) ?_
  refine hi Z env σ H O _ r (q.then fun items H1 _ e1 q1 J wd D hD => ?_)
  unfold compD at q1
  by_cases hz : items.length ≤ sizeLine
  · rw [if_pos hz] at q1
    cases hv : compGo g t f (wipeE env (own.map (·.2))) items with
    | ok zs =>
      rw [hv] at q1
      exact comp_core hg his ht he (r.mono e1) (fun i d O1 H2 a b _ l _ => wd.go i d O1 H2 a b l) (fun i O1 H2 a b _ => wd.stop i O1 H2 a b) hz hv q1 D hD
    | er c fl => exact absurd hv (comp_noEr _ _ _ _ _ _ _)
    | no => rw [hv] at q1; exact q1.elim
  · rw [if_neg hz] at q1
    exact q1.elim
end
end PD
set_option Elab.async false
set_option linter.all false
set_option maxRecDepth 100000
set_option maxHeartbeats 4000000
namespace PD
open PySem PySem.Spec PyProof.Rows L2

/-! ### statements -/
def SOk [Tbs] (X : Cx) (W : WX) (Z : Zn) (D : Ends) : SO → Prop
  | .nx env => ∀ σ H O, Rep X.K Z env σ H O → D.nx σ H
  | .rt d => ∀ v H, Ext Z.H0 H → Dp X.K (hid Z.Oc H) v d → D.rt v H
  | .bk env => ∀ σ H O, Rep X.K Z env σ H O → D.bk σ H
  | .ct env => ∀ σ H O, Rep X.K Z env σ H O → D.ct σ H
  | .er env c fl => ∀ C od σ H O, Rep X.K Z env σ H O → ExR X.mg X.K (hid O H) c fl C od → W C od σ H
  | .no => False
def CS [Tbs] (X : Cx) (W : WX) (st : Stmt) (f : S) : Prop := ∀ Z env σ H O D, Rep X.K Z env σ H O → SOk X W Z D (f env) → wpS X st D σ H
def CSs [Tbs] (X : Cx) (W : WX) (st : List Stmt) (f : S) : Prop := ∀ Z env σ H O D, Rep X.K Z env σ H O → SOk X W Z D (f env) → wpSs X st D σ H
def ofR {α : Type} (r : RO α) (env : Env) (k : α → SO) : SO := match r with
  | .ok a => k a
  | .er c fl => .er env c fl
  | .no => .no
section
variable {X : Cx} {W : WX} {e a b c : Expr} {st : Stmt} {sts rest : List Stmt} {f fa fb : E} {g h : S} {t : T} {Z : Zn} {env : Env} {σ : Sg} {H : Hp} {O : List Addr} {D : Ends} {pos p : Pos}
variable [Tbs]
theorem ROk.of_so {α : Type} {r : RO α} {k : α → SO} {P : α → Hp → Prop} (rp : Rep X.K Z env σ H O) (q : SOk X W Z D (ofR r env k)) (kk : ∀ d H1, Ext H H1 → SOk X W Z D (k d) → P d H1) : ROk X W σ O P H r := by
  cases r with
  | ok d => exact fun H1 e1 => kk d H1 e1 q
  | er c fl => exact fun C od H' e' x => q C od σ H' O (rp.mono e') x
  | no => exact q
theorem CE.so {k : PyData → SO} {P : VK} (hc : CE X W e f) (r : Rep X.K Z env σ H O) (q : SOk X W Z D (ofR (f env) env k)) (kk : ∀ d v H1, Ext H H1 → Dp X.K (hid O H1) v d → Rep X.K Z env σ H1 O → SOk X W Z D (k d) → P v H1) : wpE X e σ H P :=
  hc Z env σ H O P r (ROk.of_so r q fun d H1 e1 q1 v hv => kk d v H1 e1 hv (r.mono e1) q1)
theorem CB.so {k : PyData → SO} {P : VK} (hc : CB X W e f) (r : Rep X.K Z env σ H O) (q : SOk X W Z D (ofR (f env) env k)) (kk : ∀ d v H1, Ext H H1 → Dp X.K (hid Z.Oc H1) v d → Rep X.K Z env σ H1 O → SOk X W Z D (k d) → P v H1) : wpE X e σ H P :=
  hc Z env σ H O P r (ROk.of_so r q fun d H1 e1 q1 v hv => kk d v H1 e1 hv (r.mono e1) q1)
theorem CL.so {k : List PyData → SO} {P : VK} {fl : Env → RO (List PyData)} (hc : CL X W e fl) (r : Rep X.K Z env σ H O) (q : SOk X W Z D (ofR (fl env) env k))
    (kk : ∀ ds p vs H1, Ext H H1 → H1 p = none → DpAll X.K (hid O H1) vs ds → Rep X.K Z env σ H1 O → SOk X W Z D (k ds) → P (.ref p) (upd H1 p (.lst vs))) : wpE X e σ H P :=
  hc Z env σ H O P r (ROk.of_so r q fun ds H1 e1 q1 p vs hp hd => kk ds p vs H1 e1 hp hd (r.mono e1) q1)
theorem CT.so {k : Bool → SO} {P : Bool → Hp → Prop} (hc : CT X W e t) (r : Rep X.K Z env σ H O) (q : SOk X W Z D (ofR (t env) env k)) (kk : ∀ d H1, Ext H H1 → Rep X.K Z env σ H1 O → SOk X W Z D (k d) → P d H1) : wpT X e σ H P :=
  hc Z env σ H O P r (ROk.of_so r q fun d H1 e1 q1 => kk d H1 e1 (r.mono e1) q1)

/-! ### blocks -/
def sNx : S := fun env => .nx env
def sSeq (g h : S) : S := fun env => match g env with
  | .nx e => h e
  | r => r
theorem css_nil : CSs X W [] sNx := fun Z env σ H O D r q => wp_ss pss_nil (q σ H O r)
theorem css_cons (h1 : CS X W st g) (h2 : CSs X W rest h) : CSs X W (st :: rest) (sSeq g h) := fun Z env σ H O D r q => by
  refine wp_ss (pss_cons ps_wp pss_wp) ?_
  have q' : SOk X W Z D (match g env with | .nx e => h e | r => r) := q
  refine h1 Z env σ H O _ r ?_
  cases hg : g env with
  | nx e => rw [hg] at q'; exact fun σ1 H1 O1 r1 => h2 Z e σ1 H1 O1 D r1 q'
  | rt d => rw [hg] at q'; exact q'
  | bk d => rw [hg] at q'; exact q'
  | ct d => rw [hg] at q'; exact q'
  | er d c fl => rw [hg] at q'; exact q'
  | no => rw [hg] at q'; exact q'
theorem css_one (h1 : CS X W st g) : CSs X W [st] g := fun Z env σ H O D r q => wp_ss (pss_one ps_wp) (h1 Z env σ H O D r q)
theorem cs_continue : CS X W (.Continue pos) (fun env => .ct env) := fun Z env σ H O D r q => wp_s ps_continue (q σ H O r)
/-! ### stores -/
def sSet (i : Nat) (f : E) : S := fun env => ofR (f env) env fun d => .nx (env.set i (some (.fz d)))
def sSetL (i : Nat) (f : Env → RO (List PyData)) : S := fun env => ofR (f env) env fun ds => .nx (env.set i (some (.own ds)))
theorem cs_set [Tbs] {i : Nat} {x : Str} {pos' : Pos} (hN : X.N.Nodup) (hi : X.N[i]? = some x) (hx : Loc X.env.scope x) (he : CE X W e f) (hs : swapsWith e (some (.Name x pos')) pos.line X.env = pure false := by rfl) (hf : X.fn x = true ∨ X.env.scope.names.lookup x = some .local := by first | exact .inl rfl | exact .inr rfl | assumption) :
    CS X W (.Assign [.Name x pos'] e pos) (sSet i f) := fun Z env σ H O D r q => by
  refine wp_s (ps_set hN hi hx pe_wp hs hf) ?_
  exact he.so r q fun d v H1 e1 d1 r1 q1 => q1 _ _ _ (r1.setFz i d1)
theorem cs_setL [Tbs] {i : Nat} {x : Str} {pos' : Pos} {fl : Env → RO (List PyData)} (hN : X.N.Nodup) (hi : X.N[i]? = some x) (hx : Loc X.env.scope x) (he : CL X W e fl) (hs : swapsWith e (some (.Name x pos')) pos.line X.env = pure false := by rfl) (hf : X.fn x = true ∨ X.env.scope.names.lookup x = some .local := by first | exact .inl rfl | exact .inr rfl | assumption) :
    CS X W (.Assign [.Name x pos'] e pos) (sSetL i fl) := fun Z env σ H O D r q => by
  refine wp_s (ps_set hN hi hx pe_wp hs hf) ?_
  exact he.so r q fun ds p vs H1 e1 hp d1 r1 q1 => q1 _ _ _ (r1.setOwn i hp d1)
section
variable {tg iter elt : Expr} {ifs : List Expr} {scope : Scope} {own : List (Str × Nat)} {fs : Env → RO (List PyData)} {gg : G} {is : List Nat} {tt : T}
theorem ps_comp {i : Nat} {y : Str} {py spos : Pos} (hc : X.calm = true) (hN : X.N.Nodup) (hy : X.N[i]? = some y) (hyl : X.env.scope.names.lookup y = some .local)
    (hsw : swapsWith (.ListComp elt [⟨tg, iter, ifs, 0⟩] scope pos) (some (.Name y py)) spos.line X.env = pure true) (ok : BlkOk X.N X.env.scope scope own) (hs : ∀ x, foldedSetIterable iter X.env x = pure x) : PS X (.Assign [.Name y py] (.ListComp elt [⟨tg, iter, ifs, 0⟩] scope pos) spos)
    (tAsg (tLc (wpI X tg iter) (fun v σ H Q => ∀ s H0 C cl fp, wpG (X.blk s H0 scope (compEnvC scope cl C X.env) fp) tg v σ H Q) (fun σ H Q => ∀ s H0 C cl fp, wpTs (X.blk s H0 scope (compEnvC scope cl C X.env) fp) ifs σ H Q)
      (fun σ H Q => ∀ s H0 C cl fp, wpE (X.blk s H0 scope (compEnvC scope cl C X.env) fp) elt σ H Q) (own.map (·.2))) (gName i)) :=
  ps_setLc hc hN hy hyl hsw pi_wp ok (fun s H C cl fp => ⟨fun pins s' _ _ _ u _ I r h => h s H C cl fp pins s' u I r⟩) (fun s H C cl fp => ⟨fun pins s' _ _ _ I h => h s H C cl fp pins s' I⟩) (fun s H C cl fp => ⟨fun pins s' _ _ _ I h => h s H C cl fp pins s' I⟩) hs
/-- the reading that cl_comp shows, as it stands -/
theorem comp_reads (hc : X.calm = true) (hN : X.N.Nodup) (ok : BlkOk X.N X.env.scope scope own) (hi : CI X W tg iter fs)
    (hg : ∀ (s : Shared) (H : Hp) (C : Addr) (cl : List (Str × Addr)) (fp : List Addr), CG (X.blk s H scope (compEnvC scope cl C X.env) fp) tg is gg) (his : ∀ j ∈ is, j ∈ own.map (·.2))
    (ht : ∀ (s : Shared) (H : Hp) (C : Addr) (cl : List (Str × Addr)) (fp : List Addr), CTs (X.blk s H scope (compEnvC scope cl C X.env) fp) WN ifs tt)
    (he : ∀ (s : Shared) (H : Hp) (C : Addr) (cl : List (Str × Addr)) (fp : List Addr), CE (X.blk s H scope (compEnvC scope cl C X.env) fp) WN elt f) {Q : VK}
    (r : Rep X.K Z env σ H O) (q : ROk X W σ O (LQ X.K O Q) H (fs env >>= fun items => compD gg tt f (wipeE env (own.map (·.2))) items)) :
    tLc (wpI X tg iter) (fun v σ H Q => ∀ s H0 C cl fp, wpG (X.blk s H0 scope (compEnvC scope cl C X.env) fp) tg v σ H Q) (fun σ H Q => ∀ s H0 C cl fp, wpTs (X.blk s H0 scope (compEnvC scope cl C X.env) fp) ifs σ H Q)
      (fun σ H Q => ∀ s H0 C cl fp, wpE (X.blk s H0 scope (compEnvC scope cl C X.env) fp) elt σ H Q) (own.map (·.2)) σ H Q := by
  refine hi Z env σ H O _ r (q.then fun items H1 _ e1 q1 J wd D hD => ?_)
  unfold compD at q1
  by_cases hz : items.length ≤ sizeLine
  · rw [if_pos hz] at q1
    cases hv : compGo gg tt f (wipeE env (own.map (·.2))) items with
    | ok zs =>
      rw [hv] at q1
      exact comp_core hg his ht he (r.mono e1) (fun i d O1 H2 a b _ l _ => wd.go i d O1 H2 a b l) (fun i O1 H2 a b _ => wd.stop i O1 H2 a b) hz hv q1 D hD
    | er c fl => exact absurd hv (comp_noEr _ _ _ _ _ _ _)
    | no => rw [hv] at q1; exact q1.elim
  · rw [if_neg hz] at q1
    exact q1.elim
theorem cs_setC [Tbs] {i : Nat} {y : Str} {py spos : Pos} (hc : X.calm = true) (hN : X.N.Nodup) (hy : X.N[i]? = some y) (hyl : X.env.scope.names.lookup y = some .local)
    (hsw : swapsWith (.ListComp elt [⟨tg, iter, ifs, 0⟩] scope pos) (some (.Name y py)) spos.line X.env = pure true) (ok : BlkOk X.N X.env.scope scope own) (hi : CI X W tg iter fs)
    (hg : ∀ (s : Shared) (H : Hp) (C : Addr) (cl : List (Str × Addr)) (fp : List Addr), CG (X.blk s H scope (compEnvC scope cl C X.env) fp) tg is gg) (his : ∀ j ∈ is, j ∈ own.map (·.2))
    (ht : ∀ (s : Shared) (H : Hp) (C : Addr) (cl : List (Str × Addr)) (fp : List Addr), CTs (X.blk s H scope (compEnvC scope cl C X.env) fp) WN ifs tt)
    (he : ∀ (s : Shared) (H : Hp) (C : Addr) (cl : List (Str × Addr)) (fp : List Addr), CE (X.blk s H scope (compEnvC scope cl C X.env) fp) WN elt f) (hs : ∀ x, foldedSetIterable iter X.env x = pure x := by intro _; rfl) :
    CS X W (.Assign [.Name y py] (.ListComp elt [⟨tg, iter, ifs, 0⟩] scope pos) spos) (sSetL i (fun env => fs env >>= fun items => compD gg tt f (wipeE env (own.map (·.2))) items)) := fun Z env σ H O D r q => by
  refine wp_s (ps_comp hc hN hy hyl hsw ok hs) ?_
  exact comp_reads hc hN ok hi hg his ht he r (ROk.of_so r q fun ds H1 e1 q1 p vs hp hd => q1 _ _ _ ((r.mono e1).setOwn i hp hd))
end
/-- a, b = e -/
def sAsg (f : E) (gg : G) : S := fun env => ofR (f env) env fun d => match gg d env with
  | .ok e => .nx e
  | _ => .no
/-- x += e of ints -/
def dAugAdd : PyData → PyData → Option PyData
  | .int i, .int j => some (.int (i + j))
  | _, _ => none
def sAug (i : Nat) (f : E) : S := fun env => ofR (gv env i) env fun x => ofR (f env) env fun y => ofR (ofO (dAugAdd x y)) env fun d => .nx (env.set i (some (.fz d)))
/-! ### return, if, an expression alone -/
def sRet (f : E) : S := fun env => ofR (f env) env .rt
def sRetN : S := fun _ => .rt .none
def sDrop (f : E) : S := fun env => ofR (f env) env fun _ => .nx env
def sIf (t : T) (g h : S) : S := fun env => ofR (t env) env fun b => if b = true then g env else h env
theorem cs_ret [Tbs] (he : CE X W e f) : CS X W (.Return (some e) pos) (sRet f) := fun Z env σ H O D r q => by
  refine wp_s (ps_ret pe_wp) ?_
  exact he.so r q fun d v H1 e1 d1 r1 q1 => q1 v H1 r1.whole ((Ext.hid_sub r1.sub).dp d1)
theorem cs_if [Tbs] {s1 s2 : List Stmt} (hc : CT X W c t) (h1 : CSs X W s1 g) (h2 : CSs X W s2 h) : CS X W (.If c s1 s2 pos) (sIf t g h) := fun Z env σ H O D r q => by
  refine wp_s (ps_if pt_wp pss_wp pss_wp) ?_
  refine hc.so r q fun d H1 e1 r1 q1 => ?_
  cases d with
  | true => exact h1 Z env σ H1 O D r1 q1
  | false => exact h2 Z env σ H1 O D r1 q1

/-! ### loops -/
def forGo (gg : G) (body : S) : List PyData → Env → SO
  | [], env => .nx env
  | x :: xs, env => match gg x env with
    | .ok e1 => match body e1 with
      | .nx e => forGo gg body xs e
      | .ct e => forGo gg body xs e
      | .bk e => .nx e
      | r => r
    | _ => .no
def sFor (fi : Env → RO (List PyData)) (gg : G) (body : S) : S := fun env => ofR (fi env) env fun items => forGo gg body items env
/-- the frozen things of a state, as an entry of their own -/
def zn (Z : Zn) (H : Hp) (O : List Addr) : Zn := ⟨fun a => if a ∈ O ∧ a ∉ Z.Oc then none else H a, Z.Oc⟩
theorem zn_hid (r : Rep X.K Z env σ H O) : hid (zn Z H O).Oc (zn Z H O).H0 = hid O H := by
  funext a
  show hid Z.Oc (fun a => if a ∈ O ∧ a ∉ Z.Oc then none else H a) a = hid O H a
  unfold hid
  by_cases h1 : a ∈ Z.Oc
  · rw [if_pos h1, if_pos (r.sub a h1)]
  · rw [if_neg h1]
    dsimp only
    by_cases h2 : a ∈ O
    · rw [if_pos (show a ∈ O ∧ a ∉ Z.Oc from ⟨h2, h1⟩), if_pos h2]
    · rw [if_neg (show ¬ (a ∈ O ∧ a ∉ Z.Oc) from fun z => h2 z.1), if_neg h2]
theorem zn_oc {a : Addr} (h : a ∈ Z.Oc) : (zn Z H O).H0 a = H a := if_neg fun z => z.2 h
theorem zn_ext (r : Rep X.K Z env σ H O) : Ext Z.H0 (zn Z H O).H0 := fun a o h => by
  by_cases ha : a ∈ Z.Oc
  · exact .inl (by rw [zn_oc ha, r.kp a ha]; exact h)
  · have h1 : hid Z.Oc Z.H0 a = some o := by rw [hid_out ha]; exact h
    have h2 := r.ex a o h1
    rw [← zn_hid r] at h2
    rcases h2 with h2 | ⟨ps, more, e1, h2, h3⟩
    · exact .inl (hid_some h2).2
    · exact .inr ⟨ps, more, e1, (hid_some h2).2, h3⟩
theorem Rep.zone (r : Rep X.K Z env σ H O) : Rep X.K (zn Z H O) env σ H O :=
  ⟨by rw [zn_hid r]; exact Ext.refl _, r.sub, fun a h => (zn_oc h).symm, r.len, r.sl, r.nd, r.lv, r.tb⟩
theorem Rep.unzone {env' : Env} {σ' : Sg} {H' : Hp} {O' : List Addr} (r0 : Rep X.K Z env σ H O) (r : Rep X.K (zn Z H O) env' σ' H' O') : Rep X.K Z env' σ' H' O' :=
  ⟨r0.ex.trans (by have := r.ex; rw [zn_hid r0] at this; exact this), r.sub, fun a h => by
    have h2 : H' a = (zn Z H O).H0 a := r.kp a h
    rw [h2, zn_oc h]
    exact r0.kp a h, r.len, r.sl, r.nd, r.lv, r.tb⟩
theorem Rep.frz {env' : Env} {σ' : Sg} {H' : Hp} {O' : List Addr} (r0 : Rep X.K Z env σ H O) (r : Rep X.K (zn Z H O) env' σ' H' O') : Ext (hid O H) (hid O' H') := by
  have := r.ex
  rw [zn_hid r0] at this
  exact this
/-- an outcome wanted of the whole, of a part that begins at a state -/
theorem SOk.zone (r0 : Rep X.K Z env σ H O) : ∀ {r : SO}, SOk X W Z D r → SOk X W (zn Z H O) D r
  | .nx _, h => fun σ' H' O' r => h σ' H' O' (r0.unzone r)
  | .rt _, h => fun v H' e d => h v H' ((zn_ext r0).trans e) d
  | .bk _, h => fun σ' H' O' r => h σ' H' O' (r0.unzone r)
  | .ct _, h => fun σ' H' O' r => h σ' H' O' (r0.unzone r)
  | .er _ _ _, h => fun C od σ' H' O' r x => h C od σ' H' O' (r0.unzone r) x
  | .no, h => h
theorem for_core {tg : Expr} {is : List Nat} {gg : G} {J : It} {items : List PyData} (hg : CG X tg is gg) (hb : CSs X W sts g)
    (r0 : Rep X.K Z env σ H O) (wd : WalkD X.K O H J items) (q : SOk X W Z D (forGo gg g items env)) :
    ∃ Wv : Nat → Nat → L2.St → Hp → Prop, (∃ m, Wv 0 m σ H) ∧ ∀ i m σ H, Wv i m σ H →
      (J.stop i H ∧ D.nx σ H) ∨ (J.go i H ∧ ∃ N : L2.St → Hp → Prop, (∀ σ' H', N σ' H' → ∃ m', m' < m ∧ Wv (i + 1) m' σ' H') ∧ ∀ x H', J.yld i H x H' → wpG X tg x σ H' fun σ2 H2 => wpSs X sts { D with nx := N, ct := N, bk := D.nx } σ2 H2) := by
  have q0 := q.zone r0
  let Wv : Nat → Nat → L2.St → Hp → Prop := fun i m σ' H' => m = items.length - i ∧ i ≤ items.length ∧ ∃ env' O', Rep X.K (zn Z H O) env' σ' H' O' ∧ SOk X W (zn Z H O) D (forGo gg g (items.drop i) env')
  refine ⟨Wv, ⟨items.length, by simp, Nat.zero_le _, env, O, r0.zone, by simpa using q0⟩, ?_⟩
  rintro i m σ1 H1 ⟨rfl, hi, env1, O1, r1, q1⟩
  have ex1 := r0.frz r1
  by_cases hlt : i < items.length
  · have hx : items[i]? = some items[i] := List.getElem?_eq_getElem hlt
    obtain ⟨hgo, hyld⟩ := wd.go i _ O1 H1 hx ex1 r1.lv
    refine .inr ⟨hgo, fun σ' H' => Wv (i + 1) (items.length - (i + 1)) σ' H', fun σ' H' h' => ⟨_, by omega, h'⟩, fun x H2 hy => ?_⟩
    obtain ⟨e2, d2⟩ := hyld x H2 hy
    rw [List.drop_eq_getElem_cons hlt] at q1
    refine hg (zn Z H O) env1 σ1 H2 O1 x _ _ (r1.mono e2) d2 ?_
    have q2 : SOk X W (zn Z H O) D (match gg items[i] env1 with | .ok e1 => (match g e1 with | .nx e => forGo gg g (items.drop (i + 1)) e | .ct e => forGo gg g (items.drop (i + 1)) e | .bk e => .nx e | r => r) | _ => .no) := q1
    cases hgd : gg items[i] env1 with
    | ok e1 =>
      rw [hgd] at q2
      refine fun σ2 r2 _ _ => hb (zn Z H O) e1 σ2 H2 O1 _ r2 ?_
      have q3 : SOk X W (zn Z H O) D (match g e1 with | .nx e => forGo gg g (items.drop (i + 1)) e | .ct e => forGo gg g (items.drop (i + 1)) e | .bk e => .nx e | r => r) := q2
      cases hge : g e1 with
      | nx e => rw [hge] at q3; exact fun σ3 H3 O3 r3 => ⟨rfl, hlt, e, O3, r3, q3⟩
      | ct e => rw [hge] at q3; exact fun σ3 H3 O3 r3 => ⟨rfl, hlt, e, O3, r3, q3⟩
      | bk e => rw [hge] at q3; exact q3
      | rt d => rw [hge] at q3; exact q3
      | er d c fl => rw [hge] at q3; exact q3
      | no => rw [hge] at q3; exact q3
    | er _ _ => rw [hgd] at q2; exact q2.elim
    | no => rw [hgd] at q2; exact q2.elim
  · have e0 : i = items.length := by omega
    subst e0
    rw [List.drop_length] at q1
    exact .inl ⟨wd.stop _ O1 H1 rfl ex1, q1 σ1 H1 O1 r1⟩
theorem cs_for {tg iter : Expr} {is : List Nat} {gg : G} {fi : Env → RO (List PyData)} (hp : PassesOwn (model X.prog X.w) X.A X.env X.xe) (hc : X.calm = true) (hi : CI X W tg iter fi) (hg : CG X tg is gg) (hb : CSs X W sts g)
    (hs : ∀ x, foldedSetIterable iter X.env x = pure x := by intro _; rfl) : CS X W (.For tg iter sts [] pos) (sFor fi gg g) := fun Z env σ H O D r q => by
  refine wp_s (ps_for hp hc pi_wp pg_wp pss_wp hs) ?_
  exact hi Z env σ H O _ r (ROk.of_so r q fun items H1 e1 q1 J wd => for_core hg hb (r.mono e1) wd q1)
def whileGo (t : T) (body : S) : Nat → Env → SO
  | 0, _ => .no
  | n + 1, env => ofR (t env) env fun b => if b = true then (match body env with
      | .nx e => whileGo t body n e
      | .ct e => whileGo t body n e
      | .bk e => .nx e
      | r => r) else .nx env
/-! ### own lists change -/
def sApp (i : Nat) (f : E) : S := fun env => ofR (gvo env i) env fun xs => ofR (f env) env fun d => if xs.length < sizeLine then .nx (env.set i (some (.own (xs ++ [d])))) else .no
theorem cs_app {i : Nat} {x : Str} {px apos cpos : Pos} (hN : X.N[i]? = some x) (hv : Vis X.env.scope x) (hd : (x == ("__debug__" : Str)) = false) (hcd : (x == ("__classdict__" : Str)) = false) (he : CE X W e f)
    (hbase : attributeBase (.Name x px) "append" X.env (eval (.Name x px) X.env) = eval (.Name x px) X.env := by rfl)
    (hfew : ((backTo cpos (starEach [e] X.env)).all (fun x => !x.1) && (backToKw cpos (keywordEach [] X.env)).all (fun x => x.1.isSome) && decide (([e] : List Expr).length + ([] : List Keyword).length + (if ([] : List Keyword).isEmpty then 0 else 1) < 30)) = true := by rfl)
    (hline : (apos.endLine == cpos.line) = true := by rfl) (hs : starEach [e] X.env = (false, eval e X.env) :: starEach [] X.env := by rfl) (hplain : (backTo cpos (starEach [] X.env)).any (·.1) = false := by rfl)
    (hsw : swapsWith (.Call (.Attribute (.Name x px) "append" apos) [e] [] cpos) none pos.line X.env = pure false := by rfl) :
    CS X W (.Expr (.Call (.Attribute (.Name x px) "append" apos) [e] [] cpos) pos) (sApp i f) := fun Z env σ H O D r q => by
  refine wp_s (ps_expr (pe_bm PySem.F.plainAttrs_list PySem.F.slot_list_append PySem.F.type_list_append mt_append pe_wp (pa_cons pe_wp pa_nil hs) hbase hfew hline hs hplain) hsw) ?_
  unfold sApp at q
  rcases gvo_cases env i with ⟨ds, hi⟩ | hi
  · rw [hi] at q
    refine own_read r (gvo_ok hi) hN hv hd hcd fun p vs s1 s2 s3 s4 s5 => ⟨.inl ⟨rfl, vs, SqL.of s4⟩, ?_⟩
    refine he.so r q fun d v H1 e1 d1 r1 q1 => ?_
    by_cases hz : ds.length < sizeLine
    · rw [if_pos hz] at q1
      exact ⟨p, vs, v, rfl, rfl, e1.lst s4, by rw [dpa_len s5]; exact hz, q1 _ _ _ (r1.mutOwn (gvo_ok hi) s1 (dpa_app ((e1.hid O).dpa s5) (.cons d1 .nil)))⟩
    · rw [if_neg hz] at q1
      exact q1.elim
  · rw [hi] at q
    exact q.elim
/-- x[i] = e -/
def setD (xs : List PyData) (k : Int) (d : PyData) : Option (List PyData) := (ixN xs.length k).map fun j => xs.set j d
def sSetI (i : Nat) (fk f : E) : S := fun env => ofR (f env) env fun d => ofR (gvo env i) env fun xs => ofR (fk env) env fun k => match k with
  | .int k => (match setD xs k d with
    | some ys => .nx (env.set i (some (.own ys)))
    | none => .no)
  | _ => .no
theorem cs_setI [Tbs] {i : Nat} {x : Str} {px : Pos} {b : Expr} (hN : X.N[i]? = some x) (hv : Vis X.env.scope x) (hd : (x == ("__debug__" : Str)) = false) (hcd : (x == ("__classdict__" : Str)) = false) (he : CE X W e f) (hb : CE X W b fb)
    (ha : ∀ v, assign (.Subscript (.Name x px) b p) X.env v = (do
      let ov ← holding [v] (eval (.Name x px) X.env)
      let iv ← holding [v, ov] (eval b X.env)
      standAt p
      holding [v, ov, iv] (setItem ov iv v)
      release [v, ov, iv] []) := by intro _; rfl)
    (hs : swapsWithSole [.Subscript (.Name x px) b p] e pos.line X.env = pure false := by rfl) (hw : swappedStores [.Subscript (.Name x px) b p] e X.env = pure none := by rfl)
    (h1 : (assignEach [.Subscript (.Name x px) b p] X.env).map (·.2) = [assign (.Subscript (.Name x px) b p) X.env] := by rfl) : CS X W (.Assign [.Subscript (.Name x px) b p] e pos) (sSetI i fb f) := fun Z env σ H O D r q => by
  refine wp_s (ps_asg pe_wp (pg_sub pe_wp pe_wp set_list ha) hs hw h1) ?_
  refine he.so r q fun d v H1 e1 d1 r1 q1 => ?_
  rcases gvo_cases env i with ⟨ds, hi⟩ | hi
  · rw [hi] at q1
    refine own_read r1 (gvo_ok hi) hN hv hd hcd fun p vs s1 s2 s3 s4 s5 => ?_
    refine hb.so r1 q1 fun k kv H2 e2 d2 r2 q2 => ?_
    cases k with
    | int k =>
      cases dp_int d2
      unfold setD at q2
      dsimp only at q2
      cases hj : ixN ds.length k with
      | none => rw [hj] at q2; exact q2.elim
      | some j =>
        rw [hj] at q2
        exact ⟨p, vs, k, j, rfl, rfl, e2.lst s4, by rw [dpa_len s5]; exact hj, q2 _ _ _ (r2.mutOwn (gvo_ok hi) s1 (dpa_set ((e2.hid O).dp d1) j ((e2.hid O).dpa s5)))⟩
    | _ => exact q2.elim
  · rw [hi] at q1
    exact q1.elim
/-- from here on the own list of slot i is a value like any other -/
def frz (i : Nat) : S → S := fun s env => match env[i]? with
  | some (some (.own ds)) => s (env.set i (some (.fz (.list ds))))
  | _ => .no
end
end PD
set_option Elab.async false
set_option linter.all false
set_option maxRecDepth 100000
set_option maxHeartbeats 4000000
namespace PD
open PySem PySem.Spec PyProof.Rows L2

/-! ### defs -/
/-- a def's promise, by a function of its arguments' data -/
def spD [Tbs] (K : PySem.W.Frag) (mg : Str → Option Value) (n : Nat) (F : List PyData → RO PyData) : Sp := fun vs H Q E => vs.length = n ∧ (∀ P ∈ Tbs.l, GxR.TabG H P) ∧ ∃ ds Oc, Lv Oc H ∧ DpAll K (hid Oc H) vs ds ∧ (match F ds with
  | .ok d => ∀ v H', Ext H H' → Dp K (hid Oc H') v d → Q v H'
  | .er c fl => ∀ C od H', Ext H H' → ExR mg K (hid Oc H') c fl C od → E C od H'
  | .no => False)
def startE (m : Nat) (ds : List PyData) : Env := ds.map (fun d => some (.fz d)) ++ List.replicate (m - ds.length) none
def runD (m : Nat) (B : S) : List PyData → RO PyData := fun ds => match B (startE m ds) with
  | .nx _ => .ok .none
  | .rt d => .ok d
  | .er _ c fl => .er c fl
  | _ => .no
theorem start_rep [Tbs] {K : PySem.W.Frag} {H : Hp} {Oc : List Addr} {vs : List V} {ds : List PyData} {N : List Str} (l : Lv Oc H) (tb : ∀ P ∈ Tbs.l, GxR.TabG H P) (h : DpAll K (hid Oc H) vs ds) : Rep K ⟨H, Oc⟩ (startE N.length ds) (L2.start N vs) H Oc := by
  have hl := dpa_len h
  have noOwn : ∀ {i : Nat} {di : List PyData}, (startE N.length ds)[i]? = some (some (.own di)) → False := fun {i di} e => by
    unfold startE at e
    by_cases hi : i < ds.length
    · rw [List.getElem?_append_left (by simpa using hi), List.getElem?_map] at e
      cases hd : ds[i]? with
      | none => rw [hd] at e; cases e
      | some d => rw [hd] at e; cases e
    · rw [List.getElem?_append_right (by simpa using hi), List.getElem?_replicate] at e
      split at e <;> cases e
  refine ⟨Ext.refl _, fun _ h => h, fun _ _ => rfl, ?_, fun i s e => ?_, fun i j a di dj e => (noOwn e).elim, l, tb⟩
  · unfold startE L2.start
    simp [hl]
  · unfold startE at e
    by_cases hi : i < ds.length
    · rw [List.getElem?_append_left (by simpa using hi), List.getElem?_map] at e
      cases hd : ds[i]? with
      | none => rw [hd] at e; cases e
      | some d =>
        rw [hd] at e
        cases e
        obtain ⟨v, h1, h2⟩ := dpa_get h hd
        refine ⟨v, ?_, h2⟩
        unfold L2.start
        rw [List.getElem?_append_left (by rw [List.length_map, hl]; exact hi), List.getElem?_map, h1]
        rfl
    · rw [List.getElem?_append_right (by simpa using hi), List.getElem?_replicate] at e
      split at e <;> cases e
section
variable {P : Program} {w : World} {K : PySem.W.Frag} {mg : Str → Option Value} {base : Heap}
variable [Tbs]
theorem body_ok {N : List Str} {X : Cx} {H : Hp} {vs : List V} {Q : VK} {E : XK} {body : List Stmt} {B : S} {n : Nat} (hK : X.K = K) (hmg : X.mg = mg) (h : CSs X (fun cls d _ H => E cls d H) body B) (q : spD K mg n (runD N.length B) vs H Q E) :
    wpSs X body { nx := fun _ H' => Q .non H', rt := Q } (L2.start N vs) H := by
  subst hK
  subst hmg
  obtain ⟨_, tb, ds, Oc, l, hd, q⟩ := q
  refine h ⟨H, Oc⟩ (startE N.length ds) _ H Oc _ (start_rep l tb hd) ?_
  unfold runD at q
  cases hb : B (startE N.length ds) with
  | nx e => rw [hb] at q; exact fun σ' H' O' r => q _ H' r.whole .non
  | rt d => rw [hb] at q; exact fun v H' e hv => q v H' e hv
  | bk e => rw [hb] at q; exact q.elim
  | ct e => rw [hb] at q; exact q.elim
  | er e c fl => rw [hb] at q; exact fun C od σ' H' O' r x => q C od H' r.whole (x.mono (Ext.hid_sub r.sub))
  | no => rw [hb] at q; exact q.elim
theorem okD {x qual : Str} {st : Stmt} {f : Addr} {fd : FuncData} {N ps : List Str} {k : Nat} (F : Fun K x qual st f fd) (S : FnScope N ps (defScope st)) (B : PD.S)
    (h : ∀ (cdv : Value) (A : Around) (outer : List PySem.Env) (s : Shared) (H : Hp) (E : XK), Room k (A.deeper (envOfC qual (defScope st) s.heap.objs.size f cdv)) →
      CSs (cxOf (L2.CX P w) P w K mg base N qual (defScope st) f cdv A outer s H E) (fun cls d _ H => E cls d H) (defBody st) B) : FnOk P w K mg base (L2.CX P w) (k + 1) f fd ps (spD K mg ps.length (runD N.length B)) :=
  F.okX S (fun vs H Q E q => q.1) fun cdv A outer s H vs Q E hr q => ⟨_, pss_wp, body_ok (N := N) rfl rfl (h cdv A outer s H E hr) q⟩
end

/-! ### calls of defs -/
def callD (n : Nat) (F : List PyData → RO PyData) (ds : List PyData) : RO PyData := if ds.length = n then F ds else .no
section
variable {X : Cx} {W : WX} {Z : Zn} {env : Env} {σ : Sg} {H : Hp} {O : List Addr} {k n : Nat} {f : Addr} {fd : FuncData} {ps : List Str} {F : List PyData → RO PyData} {x : Str} {p pos : Pos} {e : Expr} {es : List Expr} {ga : Env → RO (List PyData)} {ds : List Value} {dvs : List V} {dd : List PyData}
variable [Tbs]
theorem sp_of {vs : List V} {d : List PyData} {Q : VK} (r : Rep X.K Z env σ H O) (hv : DpAll X.K (hid O H) vs d) (q : ROk X W σ O (VQ X.K O Q) H (callD n F d)) : spD X.K X.mg n F vs H Q (WE W σ) := by
  unfold callD at q
  by_cases hl : d.length = n
  · rw [if_pos hl] at q
    refine ⟨by rw [dpa_len hv]; exact hl, r.tb, d, O, r.lv, hv, ?_⟩
    cases hF : F d with
    | ok y => rw [hF] at q; exact fun v H' e' h => q H' e' v h
    | er c fl => rw [hF] at q; exact q
    | no => rw [hF] at q; exact q
  · rw [if_neg hl] at q
    exact q.elim
theorem ce_call (G : FnOk X.prog X.w X.K X.mg X.base (L2.CX X.prog X.w) k f fd ps (spD X.K X.mg n F)) (hr : Room k X.A) (tk : Takes X W) (hg : Gl X x) (hm : X.mg x = some (.ref f)) (hk : PySem.W.keepIn X.K (.ref f) = true) (hb : Binds X.K fd ps [])
    (ha : CA X W (e :: es) ga) (hdb : (x == ("__debug__" : Str)) = false := by decide) (he : starEach (e :: es) X.env = (false, eval e X.env) :: starEach es X.env := by rfl) (hpl : (backTo pos (starEach es X.env)).any (·.1) = false := by rfl) :
    CE X W (.Call (.Name x p) (e :: es) [] pos) (fun env => ga env >>= callD n F) := fun Z env σ H O Q r q => by
  refine wp_e (pe_callS G hr hg hm hk hb (fun σ => passAt tk σ) pa_wp hdb he hpl) ?_
  exact ha.go r q fun d vs H1 e1 d1 r1 q1 => sp_of r1 d1 q1
end

/-! ### raise C(), C an own class without __init__ -/
section
variable {X : Cx} {W : WX} {C : Addr} {bmB : List Value} {B newId initId : String} {x : Str} {p pos : Pos}
variable [Tbs]
def sRaise (c : Str) (fl : Flds) : S := fun env => .er env c fl
end
end PD
set_option Elab.async false
set_option linter.all false
set_option maxRecDepth 100000
set_option maxHeartbeats 4000000
namespace PD
open PySem PySem.Spec PyProof.Rows L2

/-! ### in an except suite: expressions over the exception that slot i holds -/
abbrev Ex := Str → Flds → E
def CEx [Tbs] (X : Cx) (i : Nat) (a : Addr) (cls : Value) (od : Option Addr) (e : Expr) (f : Ex) : Prop := ∀ Z env σ H O Q c fl, Rep X.K Z env σ H O → σ[i]? = some (some (.ref a)) → ExR X.mg X.K (hid O H) c fl cls od → ROk X WN σ O (VQ X.K O Q) H (f c fl env) → wpE X e σ H Q
section
variable {X : Cx} {i : Nat} {a : Addr} {cls : Value} {od : Option Addr} {e e1 e2 : Expr} {es rest : List Expr} {f : E} {fa fb : Ex} {pos p : Pos} {Z : Zn} {env : Env} {σ : Sg} {H : Hp} {O : List Addr}
variable [Tbs]
theorem CEx.go {β : Type} {g : PyData → RO β} {P : β → Hp → Prop} {Q : VK} {c : Str} {fl : Flds} (h : CEx X i a cls od e fa) (r : Rep X.K Z env σ H O) (hi : σ[i]? = some (some (.ref a))) (x : ExR X.mg X.K (hid O H) c fl cls od) (q : ROk X WN σ O P H (fa c fl env >>= g))
    (k : ∀ d v H1, Ext H H1 → Dp X.K (hid O H1) v d → Rep X.K Z env σ H1 O → ExR X.mg X.K (hid O H1) c fl cls od → ROk X WN σ O P H1 (g d) → Q v H1) : wpE X e σ H Q :=
  h Z env σ H O Q c fl r hi x (q.then fun d H1 _ e1 q1 v hv => k d v H1 e1 hv (r.mono e1) (x.mono (e1.hid O)) q1)
/-- the tuple's items -/
def CAx (X : Cx) (i : Nat) (a : Addr) (cls : Value) (od : Option Addr) (es : List Expr) (f : Str → Flds → Env → RO (List PyData)) : Prop := ∀ Z env σ H O Q c fl, Rep X.K Z env σ H O → σ[i]? = some (some (.ref a)) → ExR X.mg X.K (hid O H) c fl cls od → ROk X WN σ O (AQ X.K O Q) H (f c fl env) → wpA X es σ H Q
variable {ga : Str → Flds → Env → RO (List PyData)}
end

section
variable {X : Cx} {i : Nat} {a D : Addr} {oe : Obj} {pn : List (Addr × Obj)} {cls : Value} {od : Option Addr} {n x : Str} {pos p p1 p2 : Pos} {C : Addr} {b : Bool} {c0 : Str}
variable [Tbs]
end
/-! ### the statement -/
def sTryR (i : Nat) (g : S) (mtc : Str → Option Bool) (fx : Ex) : S := fun env => match g env with
  | .er e1 c fl => (match mtc c with
    | some true => if i < e1.length then (match fx c fl (e1.set i none) with | .ok d => .rt d | _ => .no) else .no
    | some false => .er e1 c fl
    | none => .no)
  | r => r
section
variable {X : Cx} {W : WX} {x n : Str} {cV : Value} {i : Nat} {body : List Stmt} {np pos pos' rpos : Pos} {g : S} {mtc : Str → Option Bool} {fx : Ex} {e : Expr}
variable [Tbs]
end
end PD
set_option Elab.async false
set_option linter.all false
set_option maxRecDepth 100000
set_option maxHeartbeats 4000000
namespace PD
open PySem PySem.Spec PyProof.Rows L2

/-! ### the readings by name -/
abbrev A := PD.Env → RO (List PyData)
def eOp (bi : PyData → PyData → Option PyData) (fa fb : E) : E := fun env => fa env >>= fun x => fb env >>= fun y => ofO (bi x y)
def tCm (bi : PyData → PyData → Option PyData) (fa fb : E) : T := fun env => fa env >>= fun x => fb env >>= fun y => ofO (bi x y) >>= tb
def eUn (bi : PyData → Option PyData) (fa : E) : E := fun env => fa env >>= fun x => ofO (bi x)
def eBf (bi : List PyData → Option PyData) (ga : A) : E := fun env => ga env >>= fun ds => ofO (bi ds)
def eIsi (T : String) (f : E) : E := fun env => f env >>= fun d => ofO (isiO T d)
def eB (i : Nat) : E := fun env => gb env i
def eIx (fa fb : E) : E := fun env => fa env >>= fun x => fb env >>= fun y => ofO (dIx x y)
def eIxO (i : Nat) (fb : E) : E := fun env => gvo env i >>= fun xs => fb env >>= fun y => ofO (dIx (.list xs) y)
abbrev OI := PD.Env → RO (Option Int)
def oN : OI := fun _ => .ok none
def oS (f : E) : OI := fun env => f env >>= tI >>= fun i => .ok (some i)
def eSl (fa : E) (fl fh : OI) : E := fun env => fa env >>= fun x => fl env >>= fun l => fh env >>= fun u => dCut x l u
def lLi (f : E) : A := fun env => f env >>= dSeq
def eTu (f : E) : E := fun env => f env >>= dSeq >>= fun xs => .ok (.tuple xs)
def eTuO (i : Nat) : E := fun env => gvo env i >>= fun xs => .ok (.tuple xs)
def eLeO (i : Nat) : E := fun env => gvo env i >>= fun xs => .ok (.int xs.length)
def eL (fl : A) : E := fun env => fl env >>= fun ds => .ok (.list ds)
def lComp (fs : A) (g : G) (t : T) (f : E) (ws : List Nat) : A := fun env => fs env >>= fun items => compD g t f (wipeE env ws) items
def iSeq (f : E) : A := fun env => f env >>= dIter
def iR1 (f : E) : A := fun env => f env >>= rng1
def iR2 (f g : E) : A := fun env => f env >>= fun x => g env >>= fun y => rng2 x y
def tV (f : E) : T := fun env => f env >>= tb
def tT (f : E) : T := fun env => f env >>= tru
def tY : T := fun _ => .ok true
def eCall (n : Nat) (F : List PyData → RO PyData) (ga : A) : E := fun env => ga env >>= callD n F
def eCallD (n : Nat) (F : List PyData → RO PyData) (dd : List PyData) (ga : A) : E := fun env => ga env >>= fun xs => callD n F (xs ++ dd)
def sWh (n : Nat) (t : T) (g : S) : S := fun env => whileGo t g n env
def sBk : S := fun env => .bk env
def sCt : S := fun env => .ct env
def sNo : S := fun _ => .no

/-! ### a def that may be called by its name -/
def Dfn [Tbs] (P : Program) (w : World) (K : PySem.W.Frag) (mg : Str → Option Value) (base : Heap) (x : Str) (k n : Nat) (F : List PyData → RO PyData) : Prop :=
  ∃ (f : Addr) (fd : FuncData) (ps : List Str), FnOk P w K mg base (L2.CX P w) k f fd ps (spD K mg n F) ∧ mg x = some (.ref f) ∧ PySem.W.keepIn K (.ref f) = true ∧ Binds K fd ps []
theorem Dfn.mono [Tbs] {P : Program} {w : World} {K : PySem.W.Frag} {mg : Str → Option Value} {base : Heap} {x : Str} {k k' n : Nat} {F : List PyData → RO PyData} (h : Dfn P w K mg base x k n F) (l : k ≤ k') : Dfn P w K mg base x k' n F := by
  obtain ⟨f, fd, ps, G, r⟩ := h
  exact ⟨f, fd, ps, G.mono l, r⟩
/-- the same, with a promise that is worth as much -/
theorem Dfn.eqv [Tbs] {P : Program} {w : World} {K : PySem.W.Frag} {mg : Str → Option Value} {base : Heap} {x : Str} {k n : Nat} {F F' : List PyData → RO PyData} (h : Dfn P w K mg base x k n F) (l : ∀ ds, F' ds = .no ∨ F' ds = F ds) : Dfn P w K mg base x k n F' := by
  obtain ⟨f, fd, ps, G, r⟩ := h
  refine ⟨f, fd, ps, G.imp fun vs H Q E q => ?_, r⟩
  obtain ⟨q1, q0, ds, Oc, q2, q3, q4⟩ := q
  refine ⟨q1, q0, ds, Oc, q2, q3, ?_⟩
  rcases l ds with e | e
  · rw [e] at q4
    exact q4.elim
  · rw [← e]
    exact q4
section
variable {X : Cx} {W : WX} {e a b c : Expr} {es : List Expr} {f fa fb : E} {ga : A} {pos p : Pos} {x : Str} {k n kk : Nat} {F : List PyData → RO PyData}
variable [Tbs]
theorem c_call (G : Dfn X.prog X.w X.K X.mg X.base x k n F) (hr : Room kk X.A) (hk : k ≤ kk) (tk : Takes X W) (hg : Gl X x) (ha : CA X W (e :: es) ga) (hdb : (x == ("__debug__" : Str)) = false := by decide) (he : starEach (e :: es) X.env = (false, eval e X.env) :: starEach es X.env := by rfl) (hpl : (backTo pos (starEach es X.env)).any (·.1) = false := by rfl) :
    CE X W (.Call (.Name x p) (e :: es) [] pos) (eCall n F ga) := by
  obtain ⟨f, fd, ps, G, hm, hkp, hb⟩ := G
  exact ce_call G (hr.mono hk) tk hg hm hkp hb ha hdb he hpl
/-- a def of the text: its promise by its body -/
theorem dfn_of {P : Program} {w : World} {K : PySem.W.Frag} {mg : Str → Option Value} {base : Heap} {qual : Str} {st : Stmt} {f : Addr} {fd : FuncData} {N ps : List Str} {B : S} (Fn : Fun K x qual st f fd) (Sc : FnScope N ps (defScope st)) (hb : Binds K fd ps []) (hm : mg x = some (.ref f))
    (h : ∀ (cdv : Value) (A : Around) (outer : List PySem.Env) (s : Shared) (H : Hp) (E : XK), Room k (A.deeper (envOfC qual (defScope st) s.heap.objs.size f cdv)) →
      CSs (cxOf (L2.CX P w) P w K mg base N qual (defScope st) f cdv A outer s H E) (fun cls d _ H => E cls d H) (defBody st) B) : Dfn P w K mg base x (k + 1) ps.length (runD N.length B) :=
  ⟨f, fd, ps, okD Fn Sc B h, hm, Fn.kp, hb⟩
theorem tk0 {P : Program} {w : World} {K : PySem.W.Frag} {mg : Str → Option Value} {base : Heap} {N : List Str} {qual : Str} {sc : Scope} {f : Addr} {cdv : Value} {A : Around} {outer : List PySem.Env} {s : Shared} {H : Hp} {E : XK} :
    Takes (cxOf (L2.CX P w) P w K mg base N qual sc f cdv A outer s H E) (fun cls d _ H => E cls d H) := takes_of rfl rfl rfl rfl
theorem ps0 {P : Program} {w : World} {K : PySem.W.Frag} {mg : Str → Option Value} {base : Heap} {N : List Str} {qual : Str} {sc : Scope} {f : Addr} {cdv : Value} {A : Around} {outer : List PySem.Env} {s : Shared} {H : Hp} {E : XK} :
    PassesOwn (model (cxOf (L2.CX P w) P w K mg base N qual sc f cdv A outer s H E).prog (cxOf (L2.CX P w) P w K mg base N qual sc f cdv A outer s H E).w) (cxOf (L2.CX P w) P w K mg base N qual sc f cdv A outer s H E).A (cxOf (L2.CX P w) P w K mg base N qual sc f cdv A outer s H E).env (cxOf (L2.CX P w) P w K mg base N qual sc f cdv A outer s H E).xe :=
  passes_of (K := fun e s'' => L2.CX P w outer H s E e s'') rfl
theorem tkN {X : Cx} : Takes X WN := takes0
/-- a constant of the module -/
theorem ce_gI {i : Int} {t : Tok} (hg : Gl X x) (hm : X.mg x = some (.int i t)) (hdb : (x == ("__debug__" : Str)) = false := by decide) : CE X W (.Name x pos) (eC (.int i)) := fun Z env σ H O Q r q =>
  wp_e (pe_glob (v := .int i) hg hm ⟨t, rfl⟩ hdb) (ROk.here q _ (.int i))
end
end PD
set_option Elab.async false
set_option linter.all false
set_option maxRecDepth 100000
set_option maxHeartbeats 4000000
namespace PD
open PySem PySem.Spec PyProof.Rows L2
section
variable {X : Cx} {W : WX} {e e2 : Expr} {es : List Expr} {f : E} {g : A} {pos p p2 : Pos}
variable [Tbs]
theorem c_len (hg : Gl X "len") (hm : X.mg "len" = none) (ha : CA X W (e :: es) g) (he : starEach (e :: es) X.env = (false, eval e X.env) :: starEach es X.env := by rfl) (hpl : (backTo pos (starEach es X.env)).any (·.1) = false := by rfl) :
    CE X W (.Call (.Name "len" p) (e :: es) [] pos) (eBf cLen g) := ce_bf cal_len.cal hg hm PySem.boot_len ha (by decide) (by decide) he hpl
theorem c_int (hg : Gl X "int") (hm : X.mg "int" = none) (ha : CA X W (e :: es) g) (he : starEach (e :: es) X.env = (false, eval e X.env) :: starEach es X.env := by rfl) (hpl : (backTo pos (starEach es X.env)).any (·.1) = false := by rfl) :
    CE X W (.Call (.Name "int" p) (e :: es) [] pos) (eBf cInt g) := ce_ty cal_int.cal hg hm (by decide +kernel) ha (by decide) (by decide) he hpl
theorem c_max (hc : X.calm = true) (hg : Gl X "max") (hm : X.mg "max" = none) (ha : CA X W (e :: es) g) (he : starEach (e :: es) X.env = (false, eval e X.env) :: starEach es X.env := by rfl) (hpl : (backTo pos (starEach es X.env)).any (·.1) = false := by rfl) :
    CE X W (.Call (.Name "max" p) (e :: es) [] pos) (eBf cMax g) := ce_bf (cal_max hc).cal hg hm (by decide +kernel) ha (by decide) (by decide) he hpl
theorem c_all (hc : X.calm = true) (hg : Gl X "all") (hm : X.mg "all" = none) (ha : CA X W (e :: es) g) (he : starEach (e :: es) X.env = (false, eval e X.env) :: starEach es X.env := by rfl) (hpl : (backTo pos (starEach es X.env)).any (·.1) = false := by rfl) :
    CE X W (.Call (.Name "all" p) (e :: es) [] pos) (eBf cAll g) := ce_bf (cal_all hc).cal hg hm (by decide +kernel) ha (by decide) (by decide) he hpl
theorem c_isi_int (hg : Gl X "isinstance") (hm : X.mg "isinstance" = none) (hg2 : Gl X "int") (hm2 : X.mg "int" = none) (h : CB X W e f)
    (he : starEach [e, .Name "int" p2] X.env = (false, eval e X.env) :: starEach [.Name "int" p2] X.env := by rfl) (he2 : starEach [.Name "int" p2] X.env = (false, eval (.Name "int" p2) X.env) :: starEach [] X.env := by rfl) (hpl : (backTo pos (starEach [.Name "int" p2] X.env)).any (·.1) = false := by rfl) :
    CE X W (.Call (.Name "isinstance" p) [e, .Name "int" p2] [] pos) (eIsi "int" f) := ce_isi rfl hg hm hg2 hm2 (by decide +kernel) (by decide) (by decide) h he he2 hpl
theorem c_isi_bool (hg : Gl X "isinstance") (hm : X.mg "isinstance" = none) (hg2 : Gl X "bool") (hm2 : X.mg "bool" = none) (h : CB X W e f)
    (he : starEach [e, .Name "bool" p2] X.env = (false, eval e X.env) :: starEach [.Name "bool" p2] X.env := by rfl) (he2 : starEach [.Name "bool" p2] X.env = (false, eval (.Name "bool" p2) X.env) :: starEach [] X.env := by rfl) (hpl : (backTo pos (starEach [.Name "bool" p2] X.env)).any (·.1) = false := by rfl) :
    CE X W (.Call (.Name "isinstance" p) [e, .Name "bool" p2] [] pos) (eIsi "bool" f) := ce_isi rfl hg hm hg2 hm2 (by decide +kernel) (by decide) (by decide) h he he2 hpl
theorem c_isi_str (hg : Gl X "isinstance") (hm : X.mg "isinstance" = none) (hg2 : Gl X "str") (hm2 : X.mg "str" = none) (h : CB X W e f)
    (he : starEach [e, .Name "str" p2] X.env = (false, eval e X.env) :: starEach [.Name "str" p2] X.env := by rfl) (he2 : starEach [.Name "str" p2] X.env = (false, eval (.Name "str" p2) X.env) :: starEach [] X.env := by rfl) (hpl : (backTo pos (starEach [.Name "str" p2] X.env)).any (·.1) = false := by rfl) :
    CE X W (.Call (.Name "isinstance" p) [e, .Name "str" p2] [] pos) (eIsi "str" f) := ce_isi rfl hg hm hg2 hm2 (by decide +kernel) (by decide) (by decide) h he he2 hpl
theorem c_isi_tuple (hg : Gl X "isinstance") (hm : X.mg "isinstance" = none) (hg2 : Gl X "tuple") (hm2 : X.mg "tuple" = none) (h : CB X W e f)
    (he : starEach [e, .Name "tuple" p2] X.env = (false, eval e X.env) :: starEach [.Name "tuple" p2] X.env := by rfl) (he2 : starEach [.Name "tuple" p2] X.env = (false, eval (.Name "tuple" p2) X.env) :: starEach [] X.env := by rfl) (hpl : (backTo pos (starEach [.Name "tuple" p2] X.env)).any (·.1) = false := by rfl) :
    CE X W (.Call (.Name "isinstance" p) [e, .Name "tuple" p2] [] pos) (eIsi "tuple" f) := ce_isi rfl hg hm hg2 hm2 (by decide +kernel) (by decide) (by decide) h he he2 hpl
end
/-- a recursion's promise before its first turn: nothing -/
theorem dfn_no [Tbs] {P : Program} {w : World} {K : PySem.W.Frag} {mg : Str → Option Value} {base : Heap} {x : Str} {k n : Nat} {f : Addr} {fd : FuncData} {ps : List Str} (hl : ps.length = n) (hm : mg x = some (.ref f)) (hk : PySem.W.keepIn K (.ref f) = true) (hb : Binds K fd ps []) :
    Dfn P w K mg base x k n (fun _ => .no) :=
  ⟨f, fd, ps, ⟨fun vs H Q E q => by obtain ⟨_, _, _, _, _, _, q⟩ := q; exact q.elim, fun A outer s H args us vs Q E hr e0 hbs hv q => by obtain ⟨_, _, _, _, _, _, q⟩ := q; exact q.elim⟩, hm, hk, hb⟩
/-- the law's promise, as the end asks it -/
def spLaw [Tbs] (K : PySem.W.Frag) : Sp := fun vs H Q _ => ∃ (a : Addr) (ns : List Int), vs = [.ref a] ∧ (∀ P ∈ Tbs.l, GxR.TabG H P) ∧ SqL K H a (ns.map V.int) ∧ ns.length ≤ 63 ∧ (∀ z ∈ ns, Builtin.Int.intBits z ≤ 1048576) ∧ ∀ H', Q (.bl true) H'
theorem dpa_ints {K : PySem.W.Frag} {H : Hp} : ∀ ns : List Int, DpAll K H (ns.map V.int) (ns.map PyData.int)
  | [] => .nil
  | n :: ns => .cons (.int n) (dpa_ints ns)
theorem law_of [Tbs] {P : Program} {w : World} {K : PySem.W.Frag} {mg : Str → Option Value} {base : Heap} {k : Nat} {f : Addr} {fd : FuncData} {ps : List Str} {F : List PyData → RO PyData} (G : FnOk P w K mg base (L2.CX P w) k f fd ps (spD K mg 1 F))
    (h : ∀ ns : List Int, ns.length ≤ 63 → (∀ z ∈ ns, Builtin.Int.intBits z ≤ 1048576) → F [.list (ns.map .int)] = .ok (.bool true)) : FnOk P w K mg base (L2.CX P w) k f fd ps (spLaw K) :=
  G.imp fun vs H Q E q => by
    obtain ⟨a, ns, rfl, h0, h1, h2, h3, q⟩ := q
    refine ⟨rfl, h0, [.list (ns.map .int)], [], (fun _ z => nomatch z), ?_, ?_⟩
    · rw [hid_nil]
      exact .cons (.lst h1 (dpa_ints ns)) .nil
    · rw [h ns h2 h3]
      intro v H' _ hv
      cases dp_bool hv
      exact q H'
end PD
set_option Elab.async false
set_option linter.all false
set_option maxRecDepth 100000
set_option maxHeartbeats 4000000
namespace PD
open PySem PySem.Spec PyProof.Rows L2
/-- so many turns of a while loop, so many calls within one another -/
def RD : Nat := 20
/-! ### what the module holds -/
def GInt (mg : Str → Option Value) (x : Str) (i : Int) : Prop := ∃ t, mg x = some (.int i t)
/-- an own exception class over ValueError, without an __init__ -/
structure XC (K : PySem.W.Frag) (mg : Str → Option Value) (c : Str) (C : Addr) : Prop where
  gg : mg c = some (.ref C)
  xx : PySem.W.excIn K C [.type "ValueError", .type "Exception", .type "BaseException", .type "object"] "ValueError.__new__" = true
  kk : PySem.W.keepIn K (.ref C) = true
  bb : PySem.W.subIn K (.ref C) (.type "BaseException") = some true
  tt : PySem.W.typeIn K (.ref C) = some (.type "type")
section
variable {X : Cx} {W : WX} {pos p : Pos} {x : Str} {e : Expr} {es : List Expr} {ga gk : A} {k n kk : Nat} {F : List PyData → RO PyData}
variable [Tbs]
theorem c_gI {i : Int} (hg : Gl X x) (h : GInt X.mg x i) (hdb : (x == ("__debug__" : Str)) = false := by decide) : CE X W (.Name x pos) (eC (.int i)) := by
  obtain ⟨t, h⟩ := h
  exact ce_gI hg h hdb
/-- a def whose last parameter has a default: f(x), f(x, y), f(x, name=y) -/
structure Dfn1 (P : Program) (w : World) (K : PySem.W.Frag) (mg : Str → Option Value) (base : Heap) (x : Str) (k : Nat) (nm : Str) (d0 : Int) (F : List PyData → RO PyData) : Prop where
  full : Dfn P w K mg base x k 2 F
  one : ∃ (f : Addr) (fd : FuncData) (ps : List Str) (ds : List Value), FnOk P w K mg base (L2.CX P w) k f fd ps (spD K mg 2 F) ∧ mg x = some (.ref f) ∧ PySem.W.keepIn K (.ref f) = true ∧ Binds K fd ps ds ∧ Vals [.int d0] ds
  key : ∃ (f : Addr) (fd : FuncData) (ps : List Str), FnOk P w K mg base (L2.CX P w) k f fd ps (spD K mg 2 F) ∧ mg x = some (.ref f) ∧ PySem.W.keepIn K (.ref f) = true ∧ KBn K fd ps 1 [nm] (fun us ws => us ++ ws) (fun vs zs => vs ++ zs)
def eCallK (F : List PyData → RO PyData) (ga gk : A) : E := fun env => ga env >>= fun xs => gk env >>= fun ys => if xs.length = 1 ∧ ys.length = 1 then callD 2 F (xs ++ ys) else .no
end
end PD
set_option Elab.async false
set_option linter.all false
set_option maxRecDepth 100000
set_option maxHeartbeats 4000000
namespace PD
open PySem PySem.Spec PyProof.Rows L2
/-! ### the mirrors, step by step -/
def outD : SO → RO PyData
  | .nx _ => .ok .none
  | .rt d => .ok d
  | .er _ c fl => .er c fl
  | _ => .no
section
variable {α β : Type} {env e1 : Env} {g h : S} {f fa fb f2 : E} {t u : T} {ga gb2 : A} {i n : Nat} {d x y : PyData} {ds xs : List PyData} {c : Str} {fl : Flds} {b : Bool} {B : S} {F : List PyData → RO PyData} {bi : PyData → PyData → Option PyData} {bc : List PyData → Option PyData} {bu : PyData → Option PyData}
theorem x_run : runD n B ds = outD (B (startE n ds)) := rfl
theorem x_out_nx : outD (.nx env) = .ok .none := rfl
theorem x_out_rt : outD (.rt d) = .ok d := rfl
theorem x_out_er : outD (.er env c fl) = .er c fl := rfl
def seqO (r : SO) (h : S) : SO := match r with
  | .nx e => h e
  | r => r
theorem x_seq : sSeq g h env = seqO (g env) h := rfl
theorem x_seq_nx : seqO (.nx env) h = h env := rfl
theorem x_seq_rt : seqO (.rt d) h = .rt d := rfl
theorem x_seq_er : seqO (.er env c fl) h = .er env c fl := rfl
theorem x_seq_ct : seqO (.ct env) h = .ct env := rfl
theorem x_seq_bk : seqO (.bk env) h = .bk env := rfl
theorem x_ofR_ok {k : α → SO} {a : α} : ofR (.ok a) env k = k a := rfl
theorem x_ofR_er {k : α → SO} : ofR (.er c fl : RO α) env k = .er env c fl := rfl
theorem x_nx : sNx env = .nx env := rfl
theorem x_bk : sBk env = .bk env := rfl
theorem x_ct : sCt env = .ct env := rfl
theorem x_set : sSet i f env = ofR (f env) env fun d => .nx (env.set i (some (.fz d))) := rfl
theorem x_setL : sSetL i ga env = ofR (ga env) env fun ds => .nx (env.set i (some (.own ds))) := rfl
theorem x_ret : sRet f env = ofR (f env) env .rt := rfl
theorem x_drop : sDrop f env = ofR (f env) env fun _ => .nx env := rfl
theorem x_retN : sRetN env = .rt .none := rfl
theorem x_if : sIf t g h env = ofR (t env) env fun b => if b = true then g env else h env := rfl
theorem x_raise : sRaise c fl env = .er env c fl := rfl
theorem x_var : eVar i env = gv env i := rfl
theorem x_gv0 {r : Env} : gv (some (.fz d) :: r) 0 = .ok d := rfl
theorem x_gvS {r : Env} {a : Option SV} : gv (a :: r) (i + 1) = gv r i := rfl
theorem x_gvo0 {r : Env} : gvo (some (.own ds) :: r) 0 = .ok ds := rfl
theorem x_gvoS {r : Env} {a : Option SV} : gvo (a :: r) (i + 1) = gvo r i := rfl
theorem x_gb : eB i env = gb env i := rfl
theorem x_gb0 {r : Env} : gb (some (.fz d) :: r) 0 = .ok d := rfl
theorem x_gbO {r : Env} : gb (some (.own ds) :: r) 0 = .ok (.list ds) := rfl
theorem x_gbS {r : Env} {a : Option SV} : gb (a :: r) (i + 1) = gb r i := rfl
theorem x_c : eC d env = .ok d := rfl
theorem x_op : eOp bi fa fb env = (fa env >>= fun x => fb env >>= fun y => ofO (bi x y)) := rfl
theorem x_cm : tCm bi fa fb env = (fa env >>= fun x => fb env >>= fun y => ofO (bi x y) >>= tb) := rfl
theorem x_un : eUn bu fa env = (fa env >>= fun x => ofO (bu x)) := rfl
theorem x_bf : eBf bc ga env = (ga env >>= fun ds => ofO (bc ds)) := rfl
theorem x_isi {T : String} : eIsi T f env = (f env >>= fun d => ofO (isiO T d)) := rfl
theorem x_ix : eIx fa fb env = (fa env >>= fun x => fb env >>= fun y => ofO (dIx x y)) := rfl
theorem x_ixO : eIxO i fb env = (gvo env i >>= fun xs => fb env >>= fun y => ofO (dIx (.list xs) y)) := rfl
theorem x_ofO_some {a : α} : ofO (some a) = RO.ok a := rfl
theorem x_anil : aNil env = .ok [] := rfl
theorem x_acons : aCons f ga env = (f env >>= fun x => ga env >>= fun xs => RO.ok (x :: xs)) := rfl
theorem x_tup : eTup ga env = (ga env >>= fun xs => if xs.length ≤ sizeLine then RO.ok (.tuple xs) else .no) := rfl
theorem x_lst : lLst ga env = (ga env >>= fun xs => if xs.length ≤ sizeLine then RO.ok xs else .no) := rfl
theorem x_eL : eL ga env = (ga env >>= fun ds => RO.ok (.list ds)) := rfl
theorem x_tb : tb (.bool b) = .ok b := rfl
theorem x_nt : tNt t env = (t env >>= fun b => RO.ok (!b)) := rfl
theorem x_an : tAn t u env = (t env >>= fun b => if b = true then u env else RO.ok false) := rfl
theorem x_or : tOr t u env = (t env >>= fun b => if b = true then RO.ok true else u env) := rfl
theorem x_ent : eNt f env = (f env >>= tb >>= fun b => RO.ok (.bool !b)) := rfl
theorem x_ean : eAn fa fb env = (fa env >>= tb >>= fun b => if b = true then fb env else RO.ok (.bool false)) := rfl
theorem x_eor : eOr fa fb env = (fa env >>= tb >>= fun b => if b = true then RO.ok (.bool true) else fb env) := rfl
theorem x_eif : eIf t fa fb env = (t env >>= fun b => if b = true then fa env else fb env) := rfl
theorem x_tT : tT f env = (f env >>= tru) := rfl
theorem x_tV : tV f env = (f env >>= tb) := rfl
theorem x_tY : tY env = .ok true := rfl
theorem x_call : eCall n F ga env = (ga env >>= callD n F) := rfl
theorem x_callD {dd : List PyData} : eCallD n F dd ga env = (ga env >>= fun xs => callD n F (xs ++ dd)) := rfl
theorem x_callK {gk : A} : eCallK F ga gk env = (ga env >>= fun xs => gk env >>= fun ys => if xs.length = 1 ∧ ys.length = 1 then callD 2 F (xs ++ ys) else .no) := rfl
theorem x_cd1 {a : PyData} : callD 1 F [a] = F [a] := rfl
theorem x_cd2 {a b : PyData} : callD 2 F [a, b] = F [a, b] := rfl
theorem x_cd3 {a b c : PyData} : callD 3 F [a, b, c] = F [a, b, c] := rfl
theorem x_cd4 {a b c d : PyData} : callD 4 F [a, b, c, d] = F [a, b, c, d] := rfl
theorem x_st0 : startE 0 [] = [] := rfl
theorem x_stS : startE (n + 1) (d :: ds) = some (.fz d) :: startE n ds := by
  unfold startE
  simp
theorem x_stN : startE (n + 1) [] = none :: startE n [] := by
  unfold startE
  simp [List.replicate_succ]
theorem x_wh {k : Nat} : sWh k t g env = whileGo t g k env := rfl
theorem x_for {gg : G} : sFor ga gg g env = ofR (ga env) env fun items => forGo gg g items env := rfl
theorem x_iseq : iSeq f env = (f env >>= dIter) := rfl
theorem x_ir1 : iR1 f env = (f env >>= rng1) := rfl
theorem x_ir2 : iR2 fa fb env = (fa env >>= fun x => fb env >>= fun y => rng2 x y) := rfl
theorem x_add {i j : Int} : dAdd (.int i) (.int j) = some (.int (i + j)) := rfl
theorem x_sub {i j : Int} : dSub (.int i) (.int j) = some (.int (i - j)) := rfl
theorem x_mul {i j : Int} (h : mulOk i j = true) : dMul (.int i) (.int j) = some (.int (i * j)) := by
  show (if mulOk i j = true then some (PyData.int (i * j)) else none) = _
  rw [if_pos h]
theorem x_div {i j : Int} (h : divOk j = true) : dDiv (.int i) (.int j) = some (.int (i.fdiv j)) := by
  show (if divOk j = true then some (PyData.int (i.fdiv j)) else none) = _
  rw [if_pos h]
theorem x_mod {i j : Int} (h : 0 < j) : dMod (.int i) (.int j) = some (.int (i % j)) := by
  show (if 0 < j then some (PyData.int (i % j)) else none) = _
  rw [if_pos h]
theorem x_neg {i : Int} : dNeg (.int i) = some (.int (-i)) := rfl
theorem x_dcmp {p : Int → Int → Bool} {i j : Int} : dCmp p (.int i) (.int j) = some (.bool (p i j)) := rfl
theorem x_eqI {i j : Int} : dEq (.int i) (.int j) = some (.bool (decide (i = j))) := rfl
theorem x_neI {i j : Int} : dNe (.int i) (.int j) = some (.bool !(decide (i = j))) := rfl
theorem x_absI {i : Int} : cAbs [.int i] = some (.int (if i < 0 then -i else i)) := rfl
theorem x_intI {i : Int} : cInt [.int i] = some (.int i) := rfl
theorem x_gcdI {i j : Int} : cGcd [.int i, .int j] = some (.int (Int.gcd i j)) := rfl
theorem x_maxI {i j : Int} : cMax [.int i, .int j] = some (.int (if j > i then j else i)) := rfl
theorem x_minI {i j : Int} : cMin [.int i, .int j] = some (.int (if j < i then j else i)) := rfl
theorem x_lenL : cLen [.list xs] = some (.int xs.length) := rfl
theorem x_lenT : cLen [.tuple xs] = some (.int xs.length) := rfl
theorem x_ixL {i : Int} : dIx (.list xs) (.int i) = atI xs i := rfl
theorem x_ixT {i : Int} : dIx (.tuple xs) (.int i) = atI xs i := rfl
theorem x_at0 {a : α} {l : List α} : atI (a :: l) 0 = some a := atI_nat (j := 0) rfl
theorem x_at1 {a b : α} {l : List α} : atI (a :: b :: l) 1 = some b := atI_nat (j := 1) rfl
theorem x_sz0 : (([] : List PyData).length ≤ sizeLine) = True := eq_true (Nat.zero_le _)
theorem x_sz1 {a : PyData} : ([a].length ≤ sizeLine) = True := eq_true (by show 1 ≤ sizeLine; decide)
theorem x_sz2 {a b : PyData} : ([a, b].length ≤ sizeLine) = True := eq_true (by show 2 ≤ sizeLine; decide)
theorem x_sz3 {a b c : PyData} : ([a, b, c].length ≤ sizeLine) = True := eq_true (by show 3 ≤ sizeLine; decide)
theorem x_len1 {a : PyData} : ([a].length = 1) = True := eq_true rfl
def forB (r : SO) (k : PD.Env → SO) : SO := match r with
  | .nx e => k e
  | .ct e => k e
  | .bk e => .nx e
  | r => r
theorem x_forN {xs : List PyData} {r : PD.Env} : forGo (gN i) g (x :: xs) r = forB (g (r.set i (some (.fz x)))) (forGo (gN i) g xs) := rfl
theorem x_for0 {gg : G} {r : PD.Env} : forGo gg g [] r = .nx r := rfl
theorem x_fB_nx {k : PD.Env → SO} : forB (.nx env) k = k env := rfl
theorem x_fB_ct {k : PD.Env → SO} : forB (.ct env) k = k env := rfl
theorem x_fB_bk {k : PD.Env → SO} : forB (.bk env) k = .nx env := rfl
theorem x_fB_rt {k : PD.Env → SO} : forB (.rt d) k = .rt d := rfl
theorem x_fB_er {k : PD.Env → SO} : forB (.er env c fl) k = .er env c fl := rfl
theorem x_iTT : isiO "tuple" (.tuple xs) = some (.bool true) := rfl
theorem x_iTL : isiO "tuple" (.list xs) = some (.bool false) := rfl
theorem x_iTI {j : Int} : isiO "tuple" (.int j) = some (.bool false) := rfl
theorem x_iLT : isiO "list" (.tuple xs) = some (.bool false) := rfl
theorem x_iLL : isiO "list" (.list xs) = some (.bool true) := rfl
theorem x_iII {j : Int} : isiO "int" (.int j) = some (.bool true) := rfl
theorem x_iBI {j : Int} : isiO "bool" (.int j) = some (.bool false) := rfl
theorem x_iSS {z : Str} : isiO "str" (.str z) = some (.bool true) := rfl
theorem x_iBB : isiO "bool" (.bool b) = some (.bool true) := rfl
theorem x_truB : tru (.bool b) = .ok b := rfl
theorem x_itT : dIter (.tuple xs) = .ok xs := rfl
theorem x_itL : dIter (.list xs) = .ok xs := rfl
def tryB (r : SO) (i : Nat) (mtc : Str → Option Bool) (fx : Str → Flds → PD.Env → RO PyData) : SO := match r with
  | .er e1 c fl => (match mtc c with
    | some true => if i < e1.length then (match fx c fl (e1.set i none) with | .ok d => .rt d | _ => .no) else .no
    | some false => .er e1 c fl
    | none => .no)
  | r => r
theorem x_try {mtc : Str → Option Bool} {fx : Str → Flds → PD.Env → RO PyData} : sTryR i g mtc fx env = tryB (g env) i mtc fx := rfl
theorem x_gN : gN i d env = .ok (env.set i (some (.fz d))) := rfl
end
end PD
set_option Elab.async false
set_option linter.all false
set_option maxRecDepth 100000
set_option maxHeartbeats 4000000
namespace PD
open PySem PySem.Spec PyProof.Rows L2
/-! ### sizes -/
def Sm (n : Nat) (i : Int) : Prop := i.natAbs < 2 ^ n
theorem Sm.mono {n m : Nat} {i : Int} (h : Sm n i) (l : n ≤ m) : Sm m i := Nat.lt_of_lt_of_le h (Nat.pow_le_pow_right (by decide) l)
theorem Sm.le {n : Nat} {i j : Int} (h : Sm n i) (l : j.natAbs ≤ i.natAbs) : Sm n j := Nat.lt_of_le_of_lt l h
theorem Sm.mul {n m : Nat} {i j : Int} (h : Sm n i) (k : Sm m j) : Sm (n + m) (i * j) := by
  unfold Sm at *
  rw [Int.natAbs_mul, Nat.pow_add]
  exact Nat.mul_lt_mul'' h k
theorem Sm.neg {n : Nat} {i : Int} (h : Sm n i) : Sm n (-i) := by
  unfold Sm at *
  rw [Int.natAbs_neg]
  exact h
theorem Sm.add {n : Nat} {i j : Int} (h : Sm n i) (k : Sm n j) : Sm (n + 1) (i + j) := by
  unfold Sm at *
  have := Int.natAbs_add_le i j
  rw [Nat.pow_succ]
  omega
theorem Sm.sub {n : Nat} {i j : Int} (h : Sm n i) (k : Sm n j) : Sm (n + 1) (i - j) := by
  have := Sm.add h k.neg
  rwa [Int.add_neg_eq_sub] at this
theorem Sm.log {n : Nat} {i : Int} (h : Sm n i) : i.natAbs.log2 ≤ n := by
  by_cases z : i.natAbs = 0
  · rw [z]
    exact Nat.le_trans (by decide : Nat.log2 0 ≤ 0) (Nat.zero_le _)
  · exact Nat.le_of_lt ((Nat.log2_lt z).mpr h)
theorem mulOk_sm {m n : Nat} {i j : Int} (h : Sm m i) (k : Sm n j) (l : m + n < 100000000 := by decide) : mulOk i j = true := by
  have h1 := h.log
  have h2 := k.log
  exact decide_eq_true (by omega)
theorem divOk_sm {n : Nat} {j : Int} (h : Sm n j) (z : j ≠ 0) (l : n < 9000 := by decide) : divOk j = true := by
  unfold divOk
  rw [Bool.and_eq_true]
  exact ⟨decide_eq_true z, decide_eq_true (Nat.lt_of_le_of_lt h.log l)⟩
/-! ### lowest terms -/
/-! ### loops -/
theorem forGo_inv {gg : G} {body : S} (P : PyData → Prop) (I : PD.Env → Prop) (h : ∀ d env, P d → I env → ∃ e1, gg d env = .ok e1 ∧ ∃ e2, (body e1 = .nx e2 ∨ body e1 = .ct e2) ∧ I e2) : ∀ items env, (∀ d ∈ items, P d) → I env → ∃ env', forGo gg body items env = .nx env' ∧ I env'
  | [], env, _, hi => ⟨env, rfl, hi⟩
  | d :: items, env, hp, hi => by
    obtain ⟨e1, h1, e2, h2, h3⟩ := h d env (hp d (List.mem_cons_self ..)) hi
    obtain ⟨e3, h4, h5⟩ := forGo_inv P I h items e2 (fun x hx => hp x (List.mem_cons_of_mem _ hx)) h3
    refine ⟨e3, ?_, h5⟩
    show (match gg d env with
      | .ok e1 => match body e1 with
        | .nx e => forGo gg body items e
        | .ct e => forGo gg body items e
        | .bk e => .nx e
        | r => r
      | _ => .no) = _
    rw [h1]
    rcases h2 with h2 | h2
    · show (match body e1 with
        | .nx e => forGo gg body items e
        | .ct e => forGo gg body items e
        | .bk e => .nx e
        | r => r) = _
      rw [h2]
      exact h4
    · show (match body e1 with
        | .nx e => forGo gg body items e
        | .ct e => forGo gg body items e
        | .bk e => .nx e
        | r => r) = _
      rw [h2]
      exact h4
theorem rng1_ok {n : Nat} (h : n ≤ 1000) : rng1 (.int n) = .ok (rngItems 0 n) := by
  unfold rng1
  dsimp only
  rw [if_pos ⟨by omega, by omega⟩, Int.toNat_natCast]
def Keeps (I : PD.Env → Prop) : SO → Prop
  | .nx e => I e
  | .ct e => I e
  | _ => False
theorem forGo_keep {gg : G} {body : S} (P : PyData → Prop) (I : PD.Env → Prop) (h : ∀ d env, P d → I env → ∃ e1, gg d env = .ok e1 ∧ Keeps I (body e1)) (items : List PyData) (env : PD.Env) (hp : ∀ d ∈ items, P d) (hi : I env) : ∃ env', forGo gg body items env = .nx env' ∧ I env' :=
  forGo_inv P I (fun d env h1 h2 => by
    obtain ⟨e1, h3, h4⟩ := h d env h1 h2
    refine ⟨e1, h3, ?_⟩
    cases hb : body e1 with
    | nx e => rw [hb] at h4; exact ⟨e, .inl rfl, h4⟩
    | ct e => rw [hb] at h4; exact ⟨e, .inr rfl, h4⟩
    | rt d => rw [hb] at h4; exact h4.elim
    | bk e => rw [hb] at h4; exact h4.elim
    | er e c fl => rw [hb] at h4; exact h4.elim
    | no => rw [hb] at h4; exact h4.elim) items env hp hi
/-- a state whose first slot holds that, with so many more -/
def Held (d : PyData) (n : Nat) (env : PD.Env) : Prop := ∃ r : List (Option SV), r.length = n ∧ env = some (.fz d) :: r
end PD
set_option Elab.async false
set_option linter.all false
set_option maxRecDepth 100000
set_option maxHeartbeats 4000000
namespace PD
open PySem PySem.Spec PyProof.Rows L2
/-! ### lcm -/
section
variable {X : Cx} {W : WX} {e : Expr} {es : List Expr} {ga : A} {pos p : Pos}
variable [Tbs]
/-! ### x in a list -/
end
/-! ### more of the mirrors' steps -/
section
variable {g : S} {env : PD.Env} {d x y : PyData} {i j : Nat} {fa : E} {fl fh : OI} {ga : A} {xs : List PyData} {b c : Bool}
theorem x_eqB : dEq (.bool b) (.bool c) = some (.bool (decide (b = c))) := rfl
theorem x_neB : dNe (.bool b) (.bool c) = some (.bool !(decide (b = c))) := rfl
theorem x_intB : cInt [.bool b] = some (.int (if b then 1 else 0)) := rfl
theorem x_iIB : isiO "int" (.bool b) = some (.bool true) := rfl
theorem x_gT2 : gT 2 (gsC (gN i) (gsC (gN j) gsN)) (.tuple [x, y]) env = .ok ((env.set i (some (.fz x))).set j (some (.fz y))) := rfl
theorem x_lLi : lLi fa env = (fa env >>= dSeq) := rfl
theorem x_eTu : eTu fa env = (fa env >>= dSeq >>= fun xs => RO.ok (.tuple xs)) := rfl
theorem x_eTuO : eTuO i env = (gvo env i >>= fun xs => RO.ok (.tuple xs)) := rfl
theorem x_eLeO : eLeO i env = (gvo env i >>= fun xs => RO.ok (.int xs.length)) := rfl
theorem x_dSeqL : dSeq (.list xs) = .ok xs := rfl
theorem x_dSeqT : dSeq (.tuple xs) = .ok xs := rfl
theorem x_oN : oN env = .ok none := rfl
theorem x_oS : oS fa env = (fa env >>= tI >>= fun i => RO.ok (some i)) := rfl
theorem x_tI {k : Int} : tI (.int k) = .ok k := rfl
theorem x_sl : eSl fa fl fh env = (fa env >>= fun x => fl env >>= fun l => fh env >>= fun u => dCut x l u) := rfl
theorem x_cutL {l h : Option Int} : dCut (.list xs) l h = .ok (.list (cutD xs l h)) := rfl
theorem x_cutT {l h : Option Int} : dCut (.tuple xs) l h = .ok (.tuple (cutD xs l h)) := rfl
theorem x_comp {gg : G} {t : T} {f : E} {ws : List Nat} : lComp ga gg t f ws env = (ga env >>= fun items => compD gg t f (wipeE env ws) items) := rfl
theorem x_app {k : Nat} : sApp k fa env = ofR (gvo env k) env fun xs => ofR (fa env) env fun d => if xs.length < sizeLine then .nx (env.set k (some (.own (xs ++ [d])))) else .no := rfl
theorem x_asg {gg : G} : sAsg fa gg env = ofR (fa env) env fun d => match gg d env with
  | .ok e => .nx e
  | _ => .no := rfl
theorem x_aug : sAug i fa env = ofR (gv env i) env fun x => ofR (fa env) env fun y => ofR (ofO (dAugAdd x y)) env fun d => .nx (env.set i (some (.fz d))) := rfl
end
theorem forGo_pre {β : Type} {gg : G} {body : S} (f : β → PyData) (I : List β → PD.Env → Prop) : ∀ (xs pre : List β) (env : PD.Env), (∀ p x q env, pre ++ xs = p ++ x :: q → I p env → ∃ e1, gg (f x) env = .ok e1 ∧ Keeps (I (p ++ [x])) (body e1)) → I pre env →
    ∃ env', forGo gg body (xs.map f) env = .nx env' ∧ I (pre ++ xs) env'
  | [], pre, env, _, h0 => ⟨env, rfl, by rw [List.append_nil]; exact h0⟩
  | x :: xs, pre, env, h, h0 => by
    obtain ⟨e1, h1, h2⟩ := h pre x xs env rfl h0
    have fin : ∀ e, I (pre ++ [x]) e → ∃ env', forGo gg body (xs.map f) e = .nx env' ∧ I (pre ++ x :: xs) env' := fun e he => by
      obtain ⟨env', h4, h5⟩ := forGo_pre f I xs (pre ++ [x]) e (fun p y q env hp hi => h p y q env (by rw [← hp, List.append_assoc]; rfl) hi) he
      exact ⟨env', h4, by rw [List.append_assoc] at h5; exact h5⟩
    cases hb : body e1 with
    | nx e =>
      rw [hb] at h2
      obtain ⟨env', h4, h5⟩ := fin e h2
      refine ⟨env', ?_, h5⟩
      rw [← h4]
      show (match gg (f x) env with
        | .ok e1 => match body e1 with
          | .nx e => forGo gg body (xs.map f) e
          | .ct e => forGo gg body (xs.map f) e
          | .bk e => .nx e
          | r => r
        | _ => .no) = _
      rw [h1]
      show (match body e1 with
          | .nx e => forGo gg body (xs.map f) e
          | .ct e => forGo gg body (xs.map f) e
          | .bk e => .nx e
          | r => r) = _
      rw [hb]
    | ct e =>
      rw [hb] at h2
      obtain ⟨env', h4, h5⟩ := fin e h2
      refine ⟨env', ?_, h5⟩
      rw [← h4]
      show (match gg (f x) env with
        | .ok e1 => match body e1 with
          | .nx e => forGo gg body (xs.map f) e
          | .ct e => forGo gg body (xs.map f) e
          | .bk e => .nx e
          | r => r
        | _ => .no) = _
      rw [h1]
      show (match body e1 with
          | .nx e => forGo gg body (xs.map f) e
          | .ct e => forGo gg body (xs.map f) e
          | .bk e => .nx e
          | r => r) = _
      rw [hb]
    | rt d => rw [hb] at h2; exact h2.elim
    | bk e => rw [hb] at h2; exact h2.elim
    | er e c fl => rw [hb] at h2; exact h2.elim
    | no => rw [hb] at h2; exact h2.elim
/-- a comprehension without a test -/
theorem compGo_map {β : Type} {gg : G} {f : E} {env : PD.Env} (fi : β → PyData) (fo : β → PyData) : ∀ (xs : List β), (∀ x ∈ xs, ∃ e1, gg (fi x) env = .ok e1 ∧ f e1 = .ok (fo x)) → compGo gg tY f env (xs.map fi) = .ok (xs.map fo)
  | [], _ => rfl
  | x :: xs, h => by
    obtain ⟨e1, h1, h2⟩ := h x (List.mem_cons_self ..)
    have h3 := compGo_map fi fo xs fun y hy => h y (List.mem_cons_of_mem _ hy)
    show (quiet (gg (fi x) env) >>= fun e1 => quiet (tY e1) >>= fun b => if b = true then quiet (f e1) >>= fun y => compGo gg tY f env (xs.map fi) >>= fun ys => RO.ok (y :: ys) else compGo gg tY f env (xs.map fi)) = _
    rw [h1]
    show (if true = true then quiet (f e1) >>= fun y => compGo gg tY f env (xs.map fi) >>= fun ys => RO.ok (y :: ys) else compGo gg tY f env (xs.map fi)) = _
    rw [if_pos rfl, h2, h3]
    rfl
theorem compD_map {β : Type} {gg : G} {f : E} {env : PD.Env} (fi : β → PyData) (fo : β → PyData) (xs : List β) (hl : xs.length ≤ 1000) (h : ∀ x ∈ xs, ∃ e1, gg (fi x) env = .ok e1 ∧ f e1 = .ok (fo x)) : compD gg tY f env (xs.map fi) = .ok (xs.map fo) := by
  unfold compD
  rw [if_pos (by rw [List.length_map]; exact Nat.le_trans hl (by decide))]
  exact compGo_map fi fo xs h
end PD
set_option Elab.async false
set_option linter.all false
set_option maxRecDepth 100000
set_option maxHeartbeats 4000000
namespace PD
open PySem PySem.Spec PyProof.Rows L2
/-! ### zip of two lists, of two tuples -/
def pr (x y : PyData) : PyData := .tuple [x, y]
section
variable {K : PySem.W.Frag} {O : List Addr} {H : Hp}
theorem zip_get {xs ys : List PyData} {i : Nat} {d : PyData} (h : (List.zipWith pr xs ys)[i]? = some d) : ∃ x y, xs[i]? = some x ∧ ys[i]? = some y ∧ d = pr x y := by
  rw [List.getElem?_zipWith] at h
  cases hx : xs[i]? with
  | none => rw [hx] at h; cases h
  | some x =>
    cases hy : ys[i]? with
    | none => rw [hx, hy] at h; cases h
    | some y =>
      rw [hx, hy] at h
      cases h
      exact ⟨x, y, rfl, rfl, rfl⟩
end
section
variable {X : Cx} {W : WX} {tg e a b c : Expr} {es elts : List Expr} {f fa fb : E} {pos p tpos : Pos} {kk : Nat} {Z : Zn} {env : Env} {σ : Sg} {H : Hp} {O : List Addr}
variable [Tbs]
/-! ### a new list times an int -/
def lRep (ga : A) (fb : E) : A := fun env => ga env >>= fun xs => fb env >>= fun y => match y with
  | .int k => if -(2 ^ 62) ≤ k ∧ xs.length * k.toNat ≤ 1000000 ∧ k ≤ 2 ^ 62 then .ok (List.replicate k.toNat xs).flatten else .no
  | _ => .no
theorem cl_rep {ga : A} (h : CL X W a ga) (k : CE X W b fb) : CL X W (.BinOp a .Mult b pos) (lRep ga fb) := fun Z env σ H O Q r q => by
  refine wp_e (pe_op op_rep pe_wp pe_wp) ?_
  unfold lRep at q
  refine h Z env σ H O _ r (q.then fun xs H1 _ e1 q1 pl vs hp hd => ?_)
  have e2 : Ext H1 (upd H1 pl (.lst vs)) := Ext.new hp
  refine k.go ((r.mono e1).mono e2) (q1.mono e2) fun dy vy H2 e3 d2 r2 q2 => ?_
  cases dy with
  | int j =>
    cases dp_int d2
    have q3 : ROk X W σ O (LQ X.K O Q) H2 (if -(2 ^ 62) ≤ j ∧ xs.length * j.toNat ≤ 1000000 ∧ j ≤ 2 ^ 62 then .ok (List.replicate j.toNat xs).flatten else .no) := q2
    by_cases z : -(2 ^ 62) ≤ j ∧ xs.length * j.toNat ≤ 1000000 ∧ j ≤ 2 ^ 62
    · rw [if_pos z] at q3
      have hl := dpa_len hd
      have hd' : DpAll X.K (hid O H2) vs xs := ((e2.trans e3).hid O).dpa hd
      refine ⟨pl, j, vs, rfl, rfl, e3.lst upd_same, by omega, by omega, ?_, fun p2 hp2 => q3.here p2 _ hp2 (dpa_repl hd' _)⟩
      have h1 : vs.length * j.toNat ≤ 1000000 := by rw [hl]; exact z.2.1
      exact Nat.le_trans h1 (by decide)
    · rw [if_neg z] at q3
      exact q3.elim
  | _ => exact q2.elim
end
end PD
set_option Elab.async false
set_option linter.all false
set_option maxRecDepth 100000
set_option maxHeartbeats 4000000
namespace PD
open PySem PySem.Spec PyProof.Rows L2
/-! ### a tuple times 0, times 1 -/
theorem tuple_mulS (l : Addr) (items : Array Value) (n : Nat) (dd : Option Addr) (sl : Array (Option Value)) (x : Int) (u : Tok) (c0 : (decide (x < -(2 ^ 63)) || decide (x ≥ 2 ^ 63)) = false) (c1 : (items.isEmpty || x == 1) = true) :
    Meets (Builtin.«tuple.__mul__» ⟨[.ref l, .int x u], []⟩) (fun _ R s => s.heap.get? l = some { cls := .type "tuple", dict := dd, data := .seq items n, slots := sl } ∧ R (.ok (.ret (Value.ref l))) s) :=
  .of_wp fun prog w A R s h => by
    obtain ⟨hp, g, d, tk, os⟩ := s
    obtain ⟨hl, h⟩ := h
    have f1 := AutoSeq1.idx_int
    wp_walk using wpAny_loadPart' hl
    repeat (first
      | (refine wpAny_ite_false (decide_eq_false (by rw [c0]; exact Bool.false_ne_true)) ?_; wp_walk using wpAny_loadPart' hl)
      | (refine wpAny_ite_true (decide_eq_true c1) ?_; wp_walk using wpAny_loadPart' hl))
    exact ⟨_, rfl, h⟩
theorem tuple_mulZ (l : Addr) (items : Array Value) (n : Nat) (dd : Option Addr) (sl : Array (Option Value)) (x : Int) (u : Tok) (c0 : (decide (x < -(2 ^ 63)) || decide (x ≥ 2 ^ 63)) = false) (c1 : (items.isEmpty || x == 1) = false) (c2 : (decide (x ≤ 0) || items.isEmpty) = true) :
    Meets (Builtin.«tuple.__mul__» ⟨[.ref l, .int x u], []⟩) (fun _ R s => s.heap.get? l = some { cls := .type "tuple", dict := dd, data := .seq items n, slots := sl } ∧
      R (.ok (.ret (Value.ref s.heap.objs.size))) { s with heap := s.heap.push { cls := Value.type "tuple", data := Data.seq #[] }, toks := s.toks }) :=
  .of_wp fun prog w A R s h => by
    obtain ⟨hp, g, d, tk, os⟩ := s
    obtain ⟨hl, h⟩ := h
    have f1 := AutoSeq1.idx_int
    wp_walk using wpAny_loadPart' hl
    repeat (first
      | (refine wpAny_ite_false (decide_eq_false (by rw [c0]; exact Bool.false_ne_true)) ?_; wp_walk using wpAny_loadPart' hl)
      | (refine wpAny_ite_false (decide_eq_false (by rw [c1]; exact Bool.false_ne_true)) ?_; wp_walk using wpAny_loadPart' hl)
      | (refine wpAny_ite_true (decide_eq_true c2) ?_; wp_walk using wpAny_loadPart' hl))
    exact ⟨_, rfl, h⟩
def rRepTS (K : PySem.W.Frag) : R2 := fun x y H Q => ∃ l k xs, x = .ref l ∧ y = .int k ∧ SqT K H l xs ∧ (xs = [] ∨ k = 1) ∧ -(2 ^ 62) ≤ k ∧ k ≤ 2 ^ 62 ∧ Q (.ref l) H
def rRepTZ (K : PySem.W.Frag) : R2 := fun x y H Q => ∃ l k xs, x = .ref l ∧ y = .int k ∧ SqT K H l xs ∧ xs ≠ [] ∧ -(2 ^ 62) ≤ k ∧ k ≤ 0 ∧ ∀ p, H p = none → Q (.ref p) (upd H p (.tup []))
section
variable {X : Cx}
variable [Tbs]
theorem op_repTS : OpR X (binaryOp .Mult) (rRepTS X.K) := by
  intro pins s σ H x y v u Q I rx ry h
  obtain ⟨l, k, xs, rfl, rfl, hT, hk, h1, h2, q⟩ := h
  cases rx
  obtain ⟨t, rfl⟩ := ry
  obtain ⟨its, r, ⟨⟨cls, dd, data, sl⟩, ho, hc, n, hd⟩, hs⟩ := I.tuple hT
  simp only at hc hd
  subst hc hd
  have c0 : (decide (k < -(2 ^ 63)) || decide (k ≥ 2 ^ 63)) = false := by
    rw [decide_eq_false (by omega), decide_eq_false (by omega)] <;> rfl
  have c1 : (its.toArray.isEmpty || k == 1) = true := by
    rcases hk with e | e
    · subst e
      cases r
      rfl
    · subst e
      exact Bool.or_true _
  refine wpAny_binaryOp_repeat_ref (T := "tuple") (U := "int") (by decide) ⟨_, ho, rfl⟩ (fun s' => typeIs_int s' k t) noFill_tuple_mul F.fills_int_mul F.slot_int_rmul repeat_tuple F.slot_int_index.lookup
    (call_meets F.slot_int_rmul (typeIs_int s k t) F.entry_int_rmul (F.args_int_rmul_2 _ _) (int_rmul_tuple k t l its.toArray n dd sl)
      ⟨ho, rfl, ⟨_, ho, rfl⟩, call_meets F.slot_tuple_mul ⟨_, ho, rfl⟩ F.entry_tuple_mul (F.args_tuple_mul_2 _ _) (tuple_mulS l its.toArray n dd sl k t c0 c1) ⟨ho, ?_⟩⟩)
  exact ⟨.ref l, H, I, rfl, q⟩
theorem op_repTZ : OpR X (binaryOp .Mult) (rRepTZ X.K) := by
  intro pins s σ H x y v u Q I rx ry h
  obtain ⟨l, k, xs, rfl, rfl, hT, hne, h1, h2, q⟩ := h
  cases rx
  obtain ⟨t, rfl⟩ := ry
  obtain ⟨its, r, ⟨⟨cls, dd, data, sl⟩, ho, hc, n, hd⟩, hs⟩ := I.tuple hT
  simp only at hc hd
  subst hc hd
  have c0 : (decide (k < -(2 ^ 63)) || decide (k ≥ 2 ^ 63)) = false := by
    rw [decide_eq_false (by omega), decide_eq_false (by omega)] <;> rfl
  have hi : its.toArray.isEmpty = false := by
    cases its with
    | nil => cases r; exact absurd rfl hne
    | cons a b => rfl
  have c1 : (its.toArray.isEmpty || k == 1) = false := by
    rw [hi, Bool.false_or]
    exact beq_eq_false_iff_ne.mpr (by omega)
  have c2 : (decide (k ≤ 0) || its.toArray.isEmpty) = true := by
    rw [decide_eq_true h2]
    rfl
  refine wpAny_binaryOp_repeat_ref (T := "tuple") (U := "int") (by decide) ⟨_, ho, rfl⟩ (fun s' => typeIs_int s' k t) noFill_tuple_mul F.fills_int_mul F.slot_int_rmul repeat_tuple F.slot_int_index.lookup
    (call_meets F.slot_int_rmul (typeIs_int s k t) F.entry_int_rmul (F.args_int_rmul_2 _ _) (int_rmul_tuple k t l its.toArray n dd sl)
      ⟨ho, rfl, ⟨_, ho, rfl⟩, call_meets F.slot_tuple_mul ⟨_, ho, rfl⟩ F.entry_tuple_mul (F.args_tuple_mul_2 _ _) (tuple_mulZ l its.toArray n dd sl k t c0 c1 c2) ⟨ho, ?_⟩⟩)
  refine ⟨.ref s.heap.objs.size, _, I.laid (t' := s.toks) (o := .tup []) (fun b ob q => Heap.get?_push_of_some _ q) (Nat.le_refl _) ?_, rfl, q _ (I.hok.fresh (Nat.le_refl _))⟩
  exact ⟨Nat.zero_le _, [], .nil, IsTup.new _ _⟩
/-- a product, also of a tuple with any small int -/
def dMulX : PyData → PyData → Option PyData
  | .int i, .int j => if mulOk i j = true then some (.int (i * j)) else none
  | .tuple a, .int k => if a.length ≤ 1000 ∧ -1000 ≤ k ∧ k ≤ 1000 then some (.tuple (List.replicate k.toNat a).flatten) else none
  | _, _ => none
theorem bin_mulX : BinR X (binaryOp .Mult) dMulX := fun dx dy d e => by
  cases dx <;> cases dy <;> first | (simp only [dMulX] at e; cases e; done) | skip
  · rename_i i j
    exact bin_mul (.int i) (.int j) d e
  · rename_i a j
    simp only [dMulX] at e
    split at e
    · rename_i hz
      obtain ⟨h0, h1, h2⟩ := hz
      cases e
      by_cases c : a = [] ∨ j = 1
      · refine ⟨_, op_repTS, fun O H vx vy Q l hx hy k => ?_⟩
        obtain ⟨p, xs, rfl, p1, p2⟩ := dp_tup hx
        cases dp_int hy
        have hl := dpa_len p2
        refine ⟨p, j, xs, rfl, rfl, Ext.unhid.st p1, ?_, by omega, by omega, k _ _ (Ext.refl H) ?_⟩
        · rcases c with c | c
          · left
            rw [c] at hl
            exact List.eq_nil_of_length_eq_zero hl
          · exact .inr c
        · have ea : (List.replicate j.toNat a).flatten = a := by
            rcases c with c | c
            · rw [c]
              simp
            · rw [c]
              simp
          rw [ea]
          exact hx
      · by_cases c2 : j ≤ 0
        · refine ⟨_, op_repTZ, fun O H vx vy Q l hx hy k => ?_⟩
          obtain ⟨p, xs, rfl, p1, p2⟩ := dp_tup hx
          cases dp_int hy
          have hl := dpa_len p2
          refine ⟨p, j, xs, rfl, rfl, Ext.unhid.st p1, fun z => c (.inl (by subst z; cases p2; rfl)), by omega, c2, fun q hq => ?_⟩
          have ej : j.toNat = 0 := by omega
          rw [ej] at k
          exact k _ _ (Ext.new hq) (dp_newT l hq .nil)
        · have j2 : 2 ≤ j := by
            have : j ≠ 1 := fun z => c (.inr z)
            omega
          have e2 : dMul (.tuple a) (.int j) = some (.tuple (List.replicate j.toNat a).flatten) := by
            show (if a ≠ [] ∧ 2 ≤ j ∧ j ≤ 1000 ∧ a.length ≤ 1000 then some (PyData.tuple (List.replicate j.toNat a).flatten) else none) = _
            rw [if_pos ⟨fun z => c (.inl z), j2, h2, h0⟩]
          exact bin_mul (.tuple a) (.int j) _ e2
    · cases e
end
end PD
set_option Elab.async false
set_option linter.all false
set_option maxRecDepth 100000
set_option maxHeartbeats 4000000
namespace PD
open PySem PySem.Spec PyProof.Rows L2
/-! ### zip of a tuple and a list -/
section
variable {prog : Program} {w : World} {A : Around} {E : Value → Shared → Prop} {s : Shared}
end
/-! ### zip of any two of these -/
def wpZ (X : Cx) (tg : Expr) (vs : List V) : L2.St → Hp → (It → Hp → Prop) → Prop := fun σ H R => ∀ pins s us, Inv X pins σ H s → Vals vs us → wpAny (model X.prog X.w) X.A (call (.type "zip") us) (fun v s1 => wpAny (model X.prog X.w) X.A (pyIter v) (PIE X pins σ tg R) X.xe s1) X.xe s
section
variable {X : Cx} {W : WX} {a b e : Expr} {elts : List Expr} {fa fb : E} {pos p tpos : Pos} {kk : Nat} {σ : Sg} {H : Hp} {R : It → Hp → Prop} {p1 p2 : Addr} {vs us : List V} {ta : TA}
variable [Tbs]
theorem pi_zipX (hg : Gl X "zip") (hm : X.mg "zip" = none) (ha : PA X [a, b] ta) (hs : starEach [a, b] X.env = (false, eval a X.env) :: starEach [b] X.env) (hpl : (backTo pos (starEach [b] X.env)).any (·.1) = false) :
    PI X (.Tuple elts kk tpos) (.Call (.Name "zip" p) [a, b] [] pos) (fun σ H R => ta σ H fun vs H1 => wpZ X (.Tuple elts kk tpos) vs σ H1 R) :=
  ⟨fun pins s σ H R I h => Call_ (ld_blt I hg hm PyProof.Rows.boot_zip (PyProof.Rows.callWith_type1 (thn (ha.run pos pins s σ H _ I h) fun us s1 ⟨vs, H1, I1, r1, q1⟩ => q1 pins s1 us I1 r1) hs hpl))⟩
theorem fresh5 {pins : List (Addr × Obj)} {s : Shared} (I : Inv X pins σ H s) : ∀ c ∈ [s.heap.objs.size + 4, s.heap.objs.size + 2, s.heap.objs.size + 3, s.heap.objs.size, s.heap.objs.size + 1], FpOk X pins H c := fun c hc => by
  have hle : s.heap.objs.size ≤ c := by
    simp only [List.mem_cons, List.not_mem_nil, or_false] at hc
    rcases hc with h | h | h | h | h <;> subst h <;> first | exact Nat.le_refl _ | exact Nat.le_add_right _ _
  exact I.fpOk hle (I.hok.fresh hle)
end
section
variable {X : Cx} {W : WX} {a b e : Expr} {elts : List Expr} {fa fb : E} {pos p tpos : Pos} {kk : Nat}
variable [Tbs]
end
end PD
set_option Elab.async false
set_option linter.all false
set_option maxRecDepth 100000
set_option maxHeartbeats 4000000
namespace PD
open PySem PySem.Spec PyProof.Rows L2
/-! ### enumerate of a tuple -/
section
variable {prog : Program} {w : World} {A : Around} {E : Value → Shared → Prop} {s : Shared}
abbrev enA (h : Heap) (a : Addr) : Heap :=
  h.push { cls := .type "tuple_iterator",
           data := .fields #[.ref a, .int 0 0] }
abbrev enB (h : Heap) (a : Addr) : Heap :=
  (enA h a).push { cls := .type "enumerate",
                   data := .fields #[.none, .bool false, .ref h.objs.size, rawInt 0, .none, .none] }
theorem meets_enumT (a : Addr) (xs : Array Value) (n : Nat) (dd : Option Addr) (sl : Array (Option Value)) :
    Meets (Builtin.«enumerate.__new__» ⟨[.type "enumerate", .ref a], []⟩) (fun _ R s => s.heap.get? a = some { cls := .type "tuple", dict := dd, data := .seq xs n, slots := sl } ∧ R (.ok (.ret (.ref (enA s.heap a).objs.size))) { s with heap := enB s.heap a }) :=
  .of_wp fun prog w A R s h => by
    obtain ⟨hp, g, d, tk, os⟩ := s
    obtain ⟨ha, h⟩ := h
    have hsub := sub_enumerate
    have q1 : Heap.IsTuple (Shared.heap ⟨hp, g, d, tk, os⟩) a xs := ⟨_, ha, rfl, n, rfl⟩
    wp_walk using wpAny_loadPart' ha
    refine wpAny_stack_any fun st => wpAny_pure ?_
    split
    · rename_i c _ _ _ _ _
      cases (c == Value.type "enumerate") <;> (wp_walk using wpAny_loadPart' ha, wpAny_pyIter_tuple q1; exact ⟨_, rfl, h⟩)
    · wp_walk using wpAny_loadPart' ha, wpAny_pyIter_tuple q1
      exact ⟨_, rfl, h⟩
theorem call_enumT {a : Addr} {xs : Array Value} {Q : Value → Shared → Prop} (ha : s.heap.IsTuple a xs)
    (h : ∀ h' n, n = s.heap.objs.size → IsEnum h' (n + 1) n 0 .none → h'.IsTupleIter n a 0 → (∀ c o, s.heap.get? c = some o → h'.get? c = some o) → Q (.ref (n + 1)) { s with heap := h' }) :
    wpAny (model prog w) A (call (.type "enumerate") [.ref a]) Q E s := by
  obtain ⟨⟨c, dd, dt, sl⟩, k0, k1, m, k2⟩ := ha
  simp only at k1 k2
  subst k1
  subst k2
  refine callType_new F.called_enumerate (by decide) (F.typeCall_enumerate_1 _) (F.newCall_enumerate_1 _) (fun obj => F.args_object_init_2 obj _) F.entry_enumerate_new (meets_enumT a xs m dd sl) ⟨k0, ?_⟩
  generalize en : s.heap.objs.size = n at h
  have eA : (enA s.heap a).objs.size = n + 1 := by rw [Heap.size_push, en]
  have gB : (enB s.heap a).get? (enA s.heap a).objs.size = some _ := Heap.get?_push_size _ rfl
  have gA : (enB s.heap a).get? s.heap.objs.size = some _ := Heap.get?_push_of_some _ (Heap.get?_push_size _ rfl)
  rw [eA, en] at gB
  rw [en] at gA
  show _ ∧ _
  rw [eA]
  exact ⟨⟨_, gB, rfl⟩, h _ n rfl gB ⟨_, gA, rfl, rfl⟩ fun c o e => Heap.get?_push_of_some _ (Heap.get?_push_of_some _ e)⟩
end
def IteT (K : PySem.W.Frag) (a : Addr) : It where
  go := fun i H => ∃ (xs : List V) (x : V), SqT K H a xs ∧ xs[i]? = some x
  yld := fun i H v H' => ∃ T x, v = .ref T ∧ H T = none ∧ H' = upd H T (.tup [.int (i : Nat), x]) ∧ ∀ xs, SqT K H a xs → xs[i]? = some x
  stop := fun i H => ∃ xs : List V, SqT K H a xs ∧ xs.length = i
theorem turn_enumT {P : Program} {w : World} {K : PySem.W.Frag} {elts : List Expr} {kk : Nat} {tpos : Pos} {a e it : Addr} (hne : e ≠ it) (hea : e ≠ a) (hia : a ≠ it) :
    Turn P w K (.Tuple elts kk tpos) (IteT K a) [e, it] e (fun i h => (∃ old, IsEnum h e it ((i : Nat) : Int) old) ∧ h.IsTupleIter it a i) where
  mem := by simp
  obj := fun i h st b hb => by
    obtain ⟨⟨old, s1⟩, o, s2, _, d2⟩ := st
    simp only [List.mem_cons, List.not_mem_nil, or_false] at hb
    rcases hb with rfl | rfl
    · exact ⟨_, s1, fun v q => nomatch q⟩
    · exact ⟨o, s2, fun v q => by rw [d2] at q; cases q⟩
  keep := fun i h h' st k => by
    obtain ⟨⟨old, s1⟩, s2⟩ := st
    exact ⟨⟨old, k e (by simp) _ s1⟩, s2.at fun o q => k it (by simp) o q⟩
  item := by
    intro X hP hw hK hc i pins s σ H E I hf st hg
    subst hP
    subst hw
    subst hK
    obtain ⟨⟨old, s1⟩, s2⟩ := st
    obtain ⟨xs, x, tx, gx⟩ := hg
    obtain ⟨as, ra, pa, _⟩ := I.tuple tx
    obtain ⟨u, gu, ru⟩ := ra.get gx
    have la := ra.length
    have ia := (List.getElem?_eq_some_iff.mp gx).1
    have hh : X.A.in1.handled = none := I.ok.hd hc
    have ez : e < s.heap.objs.size := Heap.lt_size s1
    have iz : it < s.heap.objs.size := by
      obtain ⟨_, q, _⟩ := s2
      exact Heap.lt_size q
    refine wpAny_pyNext_enum_itemD (Draws.tuple hh it a hia as.toArray) s1 ⟨s2, pa⟩ (by rw [List.size_toArray]; omega) hne (by simp [hne, hea]) fun y h' tk py out st' hT hsz hk => ?_
    have ey : y = u := Option.some.inj (py.symm.trans (by simpa using gu))
    subst ey
    refine ⟨_, rfl, ?_⟩
    refine wpAny_letOwnedTupleGo_enum (s := { s with heap := h', toks := tk + 1 }) out fun h2 e2 sb => ?_
    have hT2 : h2.get? s.heap.objs.size = some { cls := .type "tuple", data := .seq #[.int i tk, y] } := (sb.2 _ (Nat.ne_of_gt ez)).trans hT
    have new : ObjOk X.prog X.w (upd H s.heap.objs.size (.tup [.int (i : Nat), x])) h2 s.heap.objs.size (.tup [.int (i : Nat), x]) :=
      ⟨by show 2 ≤ sizeLine; decide, [.int i tk, y], .cons ⟨tk, rfl⟩ (.cons ru .nil), ⟨_, hT2, rfl, _, rfl⟩⟩
    have keep : ∀ c o, c ∉ [e, it] → s.heap.get? c = some o → h2.get? c = some o := fun c o nc q => by
      simp only [List.mem_cons, List.not_mem_nil, or_false, not_or] at nc
      exact (sb.2 c nc.1).trans (hk c o nc.1 nc.2 q)
    have I1 := I.turnedNew (t' := tk + 1) keep hf (Nat.le_refl _) new
    refine ⟨.ref s.heap.objs.size, _, I1, rfl, ⟨_, x, rfl, I.hok.fresh (Nat.le_refl _), rfl, fun l hl => by rw [I.tuple_inj hl tx]; exact gx⟩, ⟨⟨y, ?_⟩, st'.1.at fun o q => (sb.2 it hne.symm).trans q⟩, fun c hcm => ?_⟩
    · rw [show ((i + 1 : Nat) : Int) = (i : Int) + 1 by omega]
      exact e2
    · have hlt : c < s.heap.objs.size := by
        simp only [List.mem_cons, List.not_mem_nil, or_false] at hcm
        rcases hcm with rfl | rfl
        · exact ez
        · exact iz
      rw [upd_ne (Nat.ne_of_lt hlt)]
      exact (hf c hcm).1
  done := by
    intro X hP hw hK hc i pins s σ H E I hf st hg
    subst hP
    subst hw
    subst hK
    obtain ⟨⟨old, s1⟩, s2⟩ := st
    obtain ⟨xs, tx, hend⟩ := hg
    obtain ⟨as, ra, pa, _⟩ := I.tuple tx
    have la := ra.length
    have hh : X.A.in1.handled = none := I.ok.hd hc
    have ei : i = as.toArray.size := by rw [List.size_toArray]; omega
    subst ei
    refine wpAny_pyNext_enum_endD (Draws.tuple hh it a hia as.toArray) s1 ⟨s2, pa⟩ fun h' hk => ⟨rfl, ?_⟩
    exact I.turnedL (t' := s.toks) (ch := [e, it]) (fun c o nc q => by
      simp only [List.mem_cons, List.not_mem_nil, or_false, not_or] at nc
      exact hk c o nc.2 q) hf
  self := fun A i s Q E st h => by
    obtain ⟨⟨old, s1⟩, _⟩ := st
    exact wpAny_pyIter_enum s1 h
/-! ### enumerate of either -/
def wpN (X : Cx) (tg : Expr) (vs : List V) : L2.St → Hp → (It → Hp → Prop) → Prop := fun σ H R => ∀ pins s us, Inv X pins σ H s → Vals vs us → wpAny (model X.prog X.w) X.A (call (.type "enumerate") us) (fun v s1 => wpAny (model X.prog X.w) X.A (pyIter v) (PIE X pins σ tg R) X.xe s1) X.xe s
section
variable {X : Cx} {W : WX} {a e : Expr} {elts : List Expr} {fa : E} {pos p tpos : Pos} {kk : Nat} {σ : Sg} {H : Hp} {R : It → Hp → Prop} {p1 : Addr} {vs : List V} {ta : TA}
variable [Tbs]
theorem pi_enumX (hg : Gl X "enumerate") (hm : X.mg "enumerate" = none) (ha : PA X [a] ta) (hs : starEach [a] X.env = [(false, eval a X.env)]) : PI X (.Tuple elts kk tpos) (.Call (.Name "enumerate" p) [a] [] pos) (fun σ H R => ta σ H fun vs H1 => wpN X (.Tuple elts kk tpos) vs σ H1 R) :=
  ⟨fun pins s σ H R I h => Call_ (ld_blt I hg hm boot_enumerate (PyProof.Rows.callWith_type1 (thn (ha.run pos pins s σ H _ I h) fun us s1 ⟨vs, H1, I1, r1, q1⟩ => q1 pins s1 us I1 r1) hs rfl))⟩
theorem fresh2 {pins : List (Addr × Obj)} {s : Shared} (I : Inv X pins σ H s) : ∀ c ∈ [s.heap.objs.size + 1, s.heap.objs.size], FpOk X pins H c := fun c hc => by
  have hle : s.heap.objs.size ≤ c := by
    simp only [List.mem_cons, List.not_mem_nil, or_false] at hc
    rcases hc with h | h <;> subst h <;> first | exact Nat.le_refl _ | exact Nat.le_add_right _ _
  exact I.fpOk hle (I.hok.fresh hle)
theorem wn_l (h1 : SqL X.K H p1 vs) (q : R (Ite X.K p1) H) : wpN X (.Tuple elts kk tpos) [.ref p1] σ H R := fun pins s ws I r => by
  cases r with
  | cons r1 rr =>
    cases rr
    cases r1
    obtain ⟨xs, _, l1, _⟩ := I.list h1
    refine call_enumerate_list l1.isList fun h' c1 c2 _ c4 => wpAny_pyIter_enum c1 ?_
    exact ⟨_, _, _, _, H, rfl, I.kept (t' := s.toks) c4, turn_enum p1 _ _, ⟨⟨_, c1⟩, c2, Nat.succ_ne_self _⟩, fresh2 I, q⟩
theorem wn_t (h1 : SqT X.K H p1 vs) (q : R (IteT X.K p1) H) : wpN X (.Tuple elts kk tpos) [.ref p1] σ H R := fun pins s ws I r => by
  cases r with
  | cons r1 rr =>
    cases rr
    cases r1
    obtain ⟨xs, _, l1, _⟩ := I.tuple h1
    obtain ⟨o1, k1, _⟩ := id l1
    have hlt := Heap.lt_size k1
    refine call_enumT (show s.heap.IsTuple p1 xs.toArray from l1) fun h' n en c1 c2 c4 => wpAny_pyIter_enum c1 ?_
    subst en
    exact ⟨_, _, _, _, H, rfl, I.kept (t' := s.toks) c4, turn_enumT (e := s.heap.objs.size + 1) (it := s.heap.objs.size) (a := p1) (Nat.succ_ne_self _) (Nat.ne_of_gt (Nat.lt_succ_of_lt hlt)) (Nat.ne_of_lt hlt), ⟨⟨_, c1⟩, c2⟩, fresh2 I, q⟩
end
def enD (xs : List PyData) : List PyData := List.zipWith (fun (i : Nat) x => pr (.int (i : Nat)) x) (List.range xs.length) xs
theorem en_get {xs : List PyData} {i : Nat} {d : PyData} (h : (enD xs)[i]? = some d) : ∃ x, xs[i]? = some x ∧ d = pr (.int (i : Nat)) x := by
  unfold enD at h
  rw [List.getElem?_zipWith] at h
  by_cases hi : i < xs.length
  · rw [List.getElem?_range hi, List.getElem?_eq_getElem hi] at h
    cases h
    exact ⟨_, List.getElem?_eq_getElem hi, rfl⟩
  · rw [List.getElem?_eq_none (by rw [List.length_range]; omega)] at h
    cases h
theorem en_len (xs : List PyData) : (enD xs).length = xs.length := by
  unfold enD
  rw [List.length_zipWith, List.length_range, Nat.min_self]
section
variable {K : PySem.W.Frag} {O : List Addr} {H : Hp} {a : Addr} {vs : List V} {ds : List PyData}
theorem walk_el [Tbs] (h : SqL K (hid O H) a vs) (hd : DpAll K (hid O H) vs ds) : WalkD K O H (Ite K a) (enD ds) where
  go := fun i d O1 H1 e x l => by
    obtain ⟨dx, g1, rfl⟩ := en_get e
    obtain ⟨v, h1, h2⟩ := dpa_get hd g1
    have s1 : SqL K H1 a vs := Ext.unhid.sl (x.sl h)
    refine ⟨⟨vs, v, s1, h1⟩, fun y H2 ⟨T, x1, ey, hT, e2, f1⟩ => ?_⟩
    subst e2
    subst ey
    have q1 := f1 vs s1
    rw [h1] at q1
    cases q1
    exact ⟨Ext.new hT, dp_newT l hT (.cons (.int _) (.cons (x.dp h2) .nil))⟩
  stop := fun i O1 H1 hi x => ⟨vs, Ext.unhid.sl (x.sl h), by
    rw [en_len] at hi
    rw [dpa_len hd]
    omega⟩
theorem walk_et [Tbs] (h : SqT K (hid O H) a vs) (hd : DpAll K (hid O H) vs ds) : WalkD K O H (IteT K a) (enD ds) where
  go := fun i d O1 H1 e x l => by
    obtain ⟨dx, g1, rfl⟩ := en_get e
    obtain ⟨v, h1, h2⟩ := dpa_get hd g1
    have s1 : SqT K H1 a vs := Ext.unhid.st (x.st h)
    refine ⟨⟨vs, v, s1, h1⟩, fun y H2 ⟨T, x1, ey, hT, e2, f1⟩ => ?_⟩
    subst e2
    subst ey
    have q1 := f1 vs s1
    rw [h1] at q1
    cases q1
    exact ⟨Ext.new hT, dp_newT l hT (.cons (.int _) (.cons (x.dp h2) .nil))⟩
  stop := fun i O1 H1 hi x => ⟨vs, Ext.unhid.st (x.st h), by
    rw [en_len] at hi
    rw [dpa_len hd]
    omega⟩
end
def dEnu (d : PyData) : RO (List PyData) := match d with
  | .list xs => .ok (enD xs)
  | .tuple xs => .ok (enD xs)
  | _ => .no
def iEnu (fa : E) : A := fun env => fa env >>= dEnu
theorem ci_enum [Tbs] {X : Cx} {W : WX} {a : Expr} {elts : List Expr} {fa : E} {pos p tpos : Pos} {kk : Nat} (h : CE X W a fa) (hg : Gl X "enumerate") (hm : X.mg "enumerate" = none) (hs : starEach [a] X.env = [(false, eval a X.env)] := by rfl) :
    CI X W (.Tuple elts kk tpos) (.Call (.Name "enumerate" p) [a] [] pos) (iEnu fa) := fun Z env σ H O R r q => by
  refine wp_i (pi_enumX hg hm (pa_cons pe_wp pa_nil (by rw [hs] <;> rfl)) hs) ?_
  unfold iEnu at q
  refine h.go r q fun dx vx H1 e1 d1 r1 q1 => ?_
  cases dx with
  | list xs =>
    obtain ⟨p1, vs, rfl, h1, h2⟩ := dp_lst d1
    exact wn_l (Ext.unhid.sl h1) (q1.here _ (walk_el h1 h2))
  | tuple xs =>
    obtain ⟨p1, vs, rfl, h1, h2⟩ := dp_tup d1
    exact wn_t (Ext.unhid.st h1) (q1.here _ (walk_et h1 h2))
  | _ => exact q1.elim
end PD
set_option Elab.async false
set_option linter.all false
set_option maxRecDepth 100000
set_option maxHeartbeats 4000000
namespace PD
open PySem PySem.Spec PyProof.Rows L2
/-! ### x[i] += e, x a list of the frame's own -/
section
variable {X : Cx} {W : WX} {b e : Expr} {fb f : E} {pos p : Pos}
variable [Tbs]
end
end PD
set_option Elab.async false
set_option linter.all false
set_option maxRecDepth 100000
set_option maxHeartbeats 4000000
namespace PD
open PySem PySem.Spec PyProof.Rows L2
/-! ### all, any of a generator expression -/
section
variable {X : Cx} {pins : List (Addr × Obj)} {σ : L2.St} {H : Hp} {s : Shared}
end
end PD
set_option Elab.async false
set_option linter.all false
set_option maxRecDepth 100000
set_option maxHeartbeats 4000000
namespace PD
open PySem PySem.Spec PyProof.Rows L2
/-- asleep ahead of item i -/
def GPhi (Y : Cx) (pp : List (Addr × Obj)) (σw : L2.St) (fp : List Addr) (tn : Nat → Heap → Prop) (Hx : Hp) (i : Nat) (s : Shared) : Prop := ∃ H', Inv Y pp σw H' s ∧ tn i s.heap ∧ (∀ b ∈ fp, H' b = none) ∧ Ext Hx H'
def GPsi (Y : Cx) (pp : List (Addr × Obj)) (σw : L2.St) (Hx : Hp) (s : Shared) : Prop := ∃ H', Inv Y pp σw H' s ∧ Ext Hx H'
theorem inv_gens {Y : Cx} {pp : List (Addr × Obj)} {σ : L2.St} {H : Hp} {s : Shared} (I : Inv Y pp σ H s) {g' : Array GenState} (hg : AllBare g') : Inv Y pp σ H { s with gens := g' } :=
  I.call' (s' := { s with gens := g' }) (ch := []) rfl Un.refl I.hok hg fun _ z => nomatch z
theorem GPhi.gens {Y : Cx} {pp : List (Addr × Obj)} {σw : L2.St} {fp : List Addr} {tn : Nat → Heap → Prop} {Hx : Hp} {i : Nat} {s : Shared} (h : GPhi Y pp σw fp tn Hx i s) {g : Nat} {x : GenState} (hx : x.bare = true) : GPhi Y pp σw fp tn Hx i (s.setGen g x) := by
  obtain ⟨H', I, a, b, c⟩ := h
  exact ⟨H', inv_gens I (allBare_setGen I.bare hx), a, b, c⟩
theorem GPsi.gens {Y : Cx} {pp : List (Addr × Obj)} {σw : L2.St} {Hx : Hp} {s : Shared} (h : GPsi Y pp σw Hx s) {g : Nat} {x : GenState} (hx : x.bare = true) : GPsi Y pp σw Hx (s.setGen g x) := by
  obtain ⟨H', I, c⟩ := h
  exact ⟨H', inv_gens I (allBare_setGen I.bare hx), c⟩
theorem GPhi.psi {Y : Cx} {pp : List (Addr × Obj)} {σw : L2.St} {fp : List Addr} {tn : Nat → Heap → Prop} {Hx : Hp} {i : Nat} {s : Shared} (h : GPhi Y pp σw fp tn Hx i s) : GPsi Y pp σw Hx s := by
  obtain ⟨H', I, _, _, c⟩ := h
  exact ⟨H', I, c⟩
theorem GPsi.kept {Y : Cx} {pp : List (Addr × Obj)} {σw : L2.St} {Hx : Hp} {s : Shared} (h : GPsi Y pp σw Hx s) {h' : Heap} (k : ∀ b o, s.heap.get? b = some o → h'.get? b = some o) : GPsi Y pp σw Hx { s with heap := h' } := by
  obtain ⟨H', I, c⟩ := h
  exact ⟨H', I.kept (t' := s.toks) k, c⟩
section
variable [Tbs] {Y : Cx} {AW : Around} {elt iter : Expr} {x : Str} {px pos : Pos} {scope : Scope} {it : Addr} {J : It} {fp : List Addr} {tn : Nat → Heap → Prop} {pp : List (Addr × Obj)} {is ws : List Nat} {g : G} {f : E} {Z : Zn} {env : Env} {σ : Sg} {Hx : Hp} {O : List Addr} {items : List PyData} {go : Bool}
end
end PD
set_option Elab.async false
set_option linter.all false
set_option maxRecDepth 100000
set_option maxHeartbeats 4000000
namespace PD
open PySem PySem.Spec PyProof.Rows L2
section
variable {P : Program} {w : World} {A : Around} {R' : Result → Shared → Prop} {a gn : Addr} {g : G} {f : E} {env : Env} {items : List PyData} {Φ : Nat → Shared → Prop} {Ψ : Shared → Prop} {r : Bool}
/-- a generator that is asleep ahead of item i -/
structure GHold (Φ : Nat → Shared → Prop) (Ψ : Shared → Prop) (a gn : Nat) : Prop where
  phi : ∀ i s x, x.bare = true → Φ i s → Φ i (s.setGen gn x)
  psi : ∀ s x, x.bare = true → Ψ s → Ψ (s.setGen gn x)
  kept : ∀ (s : Shared) h', Ψ s → (∀ b o, s.heap.get? b = some o → h'.get? b = some o) → Ψ { s with heap := h' }
  sub : ∀ i s, Φ i s → Ψ s
  gen : ∀ s, Ψ s → s.heap.IsGen a gn ∧ s.heap.NoLimit
end
end PD
set_option Elab.async false
set_option linter.all false
set_option maxRecDepth 100000
set_option maxHeartbeats 4000000
namespace PD
open PySem PySem.Spec PyProof.Rows L2
theorem WalkD.mono {K : PySem.W.Frag} {O : List Addr} {H H2 : Hp} {J : It} {ds : List PyData} (wd : WalkD K O H J ds) (e : Ext H H2) : WalkD K O H2 J ds :=
  ⟨fun i d O1 H1 h x l => wd.go i d O1 H1 h ((e.hid O).trans x) l, fun i O1 H1 h x => wd.stop i O1 H1 h ((e.hid O).trans x)⟩
section
variable [Tbs] {X : Cx} {W : WX} {elt iter : Expr} {x : Str} {px p pos gpos : Pos} {scope : Scope} {own : List (Str × Nat)} {fs : Env → RO (List PyData)} {is : List Nat} {g : G} {f : E} {k : Nat} {c P : Addr} {go : Bool} {nm : Str} {id : String}
end
end PD
set_option Elab.async false
set_option linter.all false
set_option maxRecDepth 100000
set_option maxHeartbeats 4000000
namespace PD
open PySem PySem.Spec PyProof.Rows L2
/-! ### defs that hold a table; calls with keywords -/
section
variable [Tbs] {P : Program} {w : World} {K : PySem.W.Frag} {mg : Str → Option Value} {base : Heap}
end
/-- where a parameter's value comes from: the positional values, the keywords', the defaults -/
inductive Pk where
  | p | k | m
section
variable [Tbs] {X : Cx} {W : WX} {x : Str} {k kk n m : Nat} {ks : List Str} {r : List Pk} {dds : List PyData} {F : List PyData → RO PyData} {e : Expr} {es : List Expr} {kws : List Keyword} {fs gs : List E} {ga : A} {p pos : Pos}
end
end PD
set_option Elab.async false
set_option linter.all false
set_option maxRecDepth 100000
set_option maxHeartbeats 4000000
namespace PD
open PySem PySem.Spec PyProof.Rows L2
section
variable [Tbs] {X : Cx} {W : WX} {elt iter : Expr} {x : Str} {px p pos gpos : Pos} {scope : Scope} {own : List (Str × Nat)} {fs : Env → RO (List PyData)} {is : List Nat} {g : G} {f : E} {k : Nat}
end
/-! ### the mathematics of it -/
/-! ### the end, with tables -/
end PD
set_option Elab.async false
set_option linter.all false
set_option maxRecDepth 100000
set_option maxHeartbeats 4000000
namespace PD
open PySem PySem.Spec PyProof.Rows L2
/-! ### a list and a list make a new list -/
section
variable {X : Cx}
variable [Tbs]
end
end PD
set_option Elab.async false
set_option linter.all false
set_option maxRecDepth 100000
set_option maxHeartbeats 4000000
namespace PD
open PySem PySem.Spec PyProof.Rows L2
section
variable {X : Cx} {W : WX} {e a b c : Expr} {es : List Expr} {f fa fb : E} {ft : T} {pos p : Pos} {Z : Zn} {env : Env} {σ : L2.St} {H : Hp} {O : List Addr} {ga : Env → RO (List PyData)} {tg iter elt : Expr} {ifs : List Expr} {scope : Scope} {own : List (Str × Nat)} {gg : G} {is : List Nat} {tt : T}
variable [Tbs]
/-! ### a comprehension over a list of the frame's own, stored -/
end
section
variable {X : Cx} {i : Nat} {a : Addr} {cls : Value} {od : Option Addr} {c e1 e2 : Expr} {fa fb fc : Ex} {pos p : Pos}
variable [Tbs]
end
/-! ### a list of the frame's own and a list -/
section
variable {X : Cx} {W : WX} {b : Expr} {fb : E} {pos : Pos}
variable [Tbs]
end
/-! ### a suite without a name -/
section
variable {X : Cx} {W : WX} {x : Str} {cV : Value} {body : List Stmt} {np pos pos' rpos : Pos} {g : S} {mtc : Str → Option Bool} {f : E} {e : Expr}
variable [Tbs]
end
/-! ### two names take two values at once -/
section
variable {X : Cx} {W : WX} {a b : Expr} {ga : Env → RO (List PyData)} {pos : Pos}
variable [Tbs]
end
/-! ### argument lists, without unfolding the evaluation -/
def isStarB : Expr → Bool
  | .Starred _ _ => true
  | _ => false
theorem star_no {e : Expr} {es : List Expr} {env : PySem.Env} (h : isStarB e = false) : starEach (e :: es) env = (false, eval e env) :: starEach es env := by
  cases e <;> first | rfl | exact Bool.noConfusion h
section
variable {X : Cx} {W : WX} {e : Expr} {es : List Expr} {f : E} {g : Env → RO (List PyData)}
variable [Tbs]
theorem ca_k (h : CE X W e f) (k : CA X W es g) (hs : isStarB e = false := by rfl) : CA X W (e :: es) (aCons f g) := ca_cons h k (star_no hs)
end
end PD
set_option Elab.async false
set_option linter.all false
set_option maxRecDepth 100000
set_option maxHeartbeats 4000000
namespace PD
open PySem PySem.Spec PyProof.Rows L2
/-! ### a suite told apart by the error's class -/
section
variable {X : Cx} {i : Nat} {a : Addr} {cls : Value} {od : Option Addr} {e : Expr} {fa fb : Ex}
variable [Tbs]
end
end PD
set_option Elab.async false
set_option linter.all false
set_option maxRecDepth 100000
set_option maxHeartbeats 4000000
namespace PD
open PySem PySem.Spec PyProof.Rows L2
/-! ### defs that change a list of the caller's, defs that give a new list: statements that keep the frame in sight -/
inductive SO2 where
  | nx (env : Env)
  | rt (d : PyData) (env : Env)
  | rl (ds : List PyData) (env : Env)
  | no
abbrev S2 := Env → SO2
/-- slot i holds that address all the time -/
def PinA (i : Option Nat) (σ : Sg) (p : Addr) : Prop := match i with
  | none => True
  | some i => σ[i]? = some (some (.ref p))
def of2 {α : Type} (r : RO α) (k : α → SO2) : SO2 := match r with
  | .ok a => k a
  | _ => .no
section
variable {X : Cx} {W : WX} {e a b c : Expr} {es : List Expr} {st : Stmt} {sts rest : List Stmt} {f fa fb : E} {t : T} {Z : Zn} {env : Env} {σ : Sg} {H : Hp} {O : List Addr} {D : Ends} {pos p2 : Pos}
variable [Tbs]
def SOk2 (X : Cx) (Z : Zn) (D : Ends) (i : Option Nat) (p : Addr) : SO2 → Prop
  | .nx env => ∀ σ H O, Rep X.K Z env σ H O → PinA i σ p → D.nx σ H
  | .rt d env => ∀ v σ H O, Rep X.K Z env σ H O → PinA i σ p → Dp X.K (hid O H) v d → D.rt v H
  | .rl ds env => ∀ q vs σ H O, Rep X.K Z env σ H O → PinA i σ p → H q = none → DpAll X.K (hid O H) vs ds → D.rt (.ref q) (upd H q (.lst vs))
  | .no => False
def CS2 (X : Cx) (i : Option Nat) (st : Stmt) (f : S2) : Prop := ∀ Z env σ H O D p, Rep X.K Z env σ H O → PinA i σ p → SOk2 X Z D i p (f env) → wpS X st D σ H
def CSs2 (X : Cx) (i : Option Nat) (st : List Stmt) (f : S2) : Prop := ∀ Z env σ H O D p, Rep X.K Z env σ H O → PinA i σ p → SOk2 X Z D i p (f env) → wpSs X st D σ H
theorem CE.ok2 {Q : VK} {d : PyData} (h : CE X W e f) (r : Rep X.K Z env σ H O) (hf : f env = .ok d) (k : ∀ v H1, Ext H H1 → Dp X.K (hid O H1) v d → Rep X.K Z env σ H1 O → Q v H1) : wpE X e σ H Q :=
  h Z env σ H O Q r (by
    rw [hf]
    exact fun H1 e1 v hv => k v H1 e1 hv (r.mono e1))
theorem CT.ok2 {Q : Bool → Hp → Prop} {d : Bool} (h : CT X W e t) (r : Rep X.K Z env σ H O) (hf : t env = .ok d) (k : ∀ H1, Ext H H1 → Rep X.K Z env σ H1 O → Q d H1) : wpT X e σ H Q :=
  h Z env σ H O Q r (by
    rw [hf]
    exact fun H1 e1 => k H1 e1 (r.mono e1))
theorem CL.ok2 {Q : VK} {fl : Env → RO (List PyData)} {ds : List PyData} (h : CL X W e fl) (r : Rep X.K Z env σ H O) (hf : fl env = .ok ds) (k : ∀ p vs H1, Ext H H1 → H1 p = none → DpAll X.K (hid O H1) vs ds → Rep X.K Z env σ H1 O → Q (.ref p) (upd H1 p (.lst vs))) : wpE X e σ H Q :=
  h Z env σ H O Q r (by
    rw [hf]
    exact fun H1 e1 p vs hp hd => k p vs H1 e1 hp hd (r.mono e1))
def s2Nx : S2 := fun env => .nx env
def s2Seq (g h : S2) : S2 := fun env => match g env with
  | .nx e => h e
  | r => r
def s2Set (j : Nat) (f : E) : S2 := fun env => of2 (f env) fun d => .nx (env.set j (some (.fz d)))
def s2SetI (j : Nat) (fk f : E) : S2 := fun env => of2 (f env) fun d => of2 (gvo env j) fun xs => of2 (fk env) fun k => match k with
  | .int k => (match setD xs k d with
    | some ys => .nx (env.set j (some (.own ys)))
    | none => .no)
  | _ => .no
def s2If (t : T) (g h : S2) : S2 := fun env => of2 (t env) fun b => if b = true then g env else h env
def s2Ret (f : E) : S2 := fun env => of2 (f env) fun d => .rt d env
def s2RetL (fl : Env → RO (List PyData)) : S2 := fun env => of2 (fl env) fun ds => .rl ds env
theorem css2_nil {i : Option Nat} : CSs2 X i [] s2Nx := fun Z env σ H O D p r hp q => wp_ss pss_nil (q σ H O r hp)
theorem css2_cons {i : Option Nat} {g h : S2} (h1 : CS2 X i st g) (h2 : CSs2 X i rest h) : CSs2 X i (st :: rest) (s2Seq g h) := fun Z env σ H O D p r hp q => by
  refine wp_ss (pss_cons ps_wp pss_wp) ?_
  refine h1 Z env σ H O _ p r hp ?_
  unfold s2Seq at q
  cases hg : g env with
  | nx e1 => rw [hg] at q; exact fun σ1 H1 O1 r1 hp1 => h2 Z e1 σ1 H1 O1 D p r1 hp1 q
  | rt d e1 => rw [hg] at q; exact q
  | rl d e1 => rw [hg] at q; exact q
  | no => rw [hg] at q; exact q
theorem css2_one {i : Option Nat} {g : S2} (h1 : CS2 X i st g) : CSs2 X i [st] g := fun Z env σ H O D p r hp q => wp_ss (pss_one ps_wp) (h1 Z env σ H O D p r hp q)
theorem of2_ok {α : Type} {r : RO α} {k : α → SO2} {i : Option Nat} {p : Addr} (q : SOk2 X Z D i p (of2 r k)) : ∃ a, r = .ok a ∧ SOk2 X Z D i p (k a) := by
  cases r with
  | ok a => exact ⟨a, rfl, q⟩
  | er c fl => exact q.elim
  | no => exact q.elim
theorem cs2_set {i : Option Nat} {j : Nat} {x : Str} {pos' : Pos} (tk : Takes X W) (hN : X.N.Nodup) (hi : X.N[j]? = some x) (hx : Loc X.env.scope x) (he : CE X W e f) (hne : i ≠ some j) (hs : swapsWith e (some (.Name x pos')) pos.line X.env = pure false := by rfl) (hf : X.fn x = true ∨ X.env.scope.names.lookup x = some .local := by first | exact .inl rfl | exact .inr rfl | assumption) :
    CS2 X i (.Assign [.Name x pos'] e pos) (s2Set j f) := fun Z env σ H O D p r hp q => by
  refine wp_s (ps_set hN hi hx pe_wp hs hf) ?_
  obtain ⟨d, hd, q⟩ := of2_ok q
  refine he.ok2 r hd fun v H1 e1 d1 r1 => q _ _ _ (r1.setFz j d1) ?_
  cases i with
  | none => trivial
  | some i =>
    have n : j ≠ i := fun z => hne (by rw [z])
    have hp' : σ[i]? = some (some (.ref p)) := hp
    show (σ.set j (some v))[i]? = some (some (.ref p))
    rw [List.getElem?_set_ne n]
    exact hp'
theorem cs2_setI {i : Option Nat} {j : Nat} {x : Str} {px : Pos} (tk : Takes X W) (hN : X.N[j]? = some x) (hv : Vis X.env.scope x) (hd : (x == ("__debug__" : Str)) = false) (hcd : (x == ("__classdict__" : Str)) = false) (he : CE X W e f) (hb : CE X W b fb)
    (ha : ∀ v, assign (.Subscript (.Name x px) b p2) X.env v = (do
      let ov ← holding [v] (eval (.Name x px) X.env)
      let iv ← holding [v, ov] (eval b X.env)
      standAt p2
      holding [v, ov, iv] (setItem ov iv v)
      release [v, ov, iv] []) := by intro _; rfl)
    (hs : swapsWithSole [.Subscript (.Name x px) b p2] e pos.line X.env = pure false := by rfl) (hw : swappedStores [.Subscript (.Name x px) b p2] e X.env = pure none := by rfl)
    (h1 : (assignEach [.Subscript (.Name x px) b p2] X.env).map (·.2) = [assign (.Subscript (.Name x px) b p2) X.env] := by rfl) : CS2 X i (.Assign [.Subscript (.Name x px) b p2] e pos) (s2SetI j fb f) := fun Z env σ H O D p r hp q => by
  refine wp_s (ps_asg pe_wp (pg_sub pe_wp pe_wp set_list ha) hs hw h1) ?_
  obtain ⟨d, hdd, q⟩ := of2_ok q
  obtain ⟨ds, hi, q⟩ := of2_ok q
  obtain ⟨k, hk, q⟩ := of2_ok q
  refine he.ok2 r hdd fun v H1 e1 d1 r1 => ?_
  refine own_read r1 (gvo_ok hi) hN hv hd hcd fun p3 vs s1 s2 s3 s4 s5 => ?_
  refine hb.ok2 r1 hk fun kv H2 e2 d2 r2 => ?_
  cases k with
  | int k =>
    cases dp_int d2
    unfold setD at q
    dsimp only at q
    cases hj : ixN ds.length k with
    | none => rw [hj] at q; exact q.elim
    | some j =>
      rw [hj] at q
      exact ⟨p3, vs, k, j, rfl, rfl, e2.lst s4, by rw [dpa_len s5]; exact hj, q _ _ _ (r2.mutOwn (gvo_ok hi) s1 (dpa_set ((e2.hid O).dp d1) j ((e2.hid O).dpa s5))) hp⟩
  | _ => exact q.elim
theorem cs2_if {i : Option Nat} {g h : S2} {s1 s2 : List Stmt} (tk : Takes X W) (hc : CT X W c t) (h1 : CSs2 X i s1 g) (h2 : CSs2 X i s2 h) : CS2 X i (.If c s1 s2 pos) (s2If t g h) := fun Z env σ H O D p r hp q => by
  refine wp_s (ps_if pt_wp pss_wp pss_wp) ?_
  obtain ⟨b, hb, q⟩ := of2_ok q
  refine hc.ok2 r hb fun H1 e1 r1 => ?_
  cases b with
  | true => exact h1 Z env σ H1 O D p r1 hp q
  | false => exact h2 Z env σ H1 O D p r1 hp q
theorem cs2_ret {i : Option Nat} (tk : Takes X W) (he : CE X W e f) : CS2 X i (.Return (some e) pos) (s2Ret f) := fun Z env σ H O D p r hp q => by
  refine wp_s (ps_ret pe_wp) ?_
  obtain ⟨d, hd, q⟩ := of2_ok q
  exact he.ok2 r hd fun v H1 e1 d1 r1 => q v σ H1 O r1 hp d1
theorem cs2_retL {i : Option Nat} {fl : Env → RO (List PyData)} (tk : Takes X W) (he : CL X W e fl) : CS2 X i (.Return (some e) pos) (s2RetL fl) := fun Z env σ H O D p r hp q => by
  refine wp_s (ps_ret pe_wp) ?_
  obtain ⟨d, hd, q⟩ := of2_ok q
  exact he.ok2 r hd fun v vs H1 e1 hq d1 r1 => q v vs σ H1 O r1 hp hq d1
end
/-! ### such defs' promises -/
def spI [Tbs] (K : PySem.W.Frag) (n : Nat) (F : List PyData → List PyData → RO (PyData × List PyData)) : Sp := fun vs H Q E => vs.length = n ∧ (∀ P ∈ Tbs.l, GxR.TabG H P) ∧ ∃ p ws ls ds0 ds Oc, vs = .ref p :: ws ∧ p ∉ Oc ∧ Lv (p :: Oc) H ∧ H p = some (.lst ls) ∧ DpAll K (hid (p :: Oc) H) ls ds0 ∧ DpAll K (hid (p :: Oc) H) ws ds ∧ (match F ds0 ds with
  | .ok (d, ds1) => ∀ v H' ls', Ext (hid (p :: Oc) H) (hid (p :: Oc) H') → (∀ a ∈ Oc, H' a = H a) → H' p = some (.lst ls') → DpAll K (hid (p :: Oc) H') ls' ds1 → Dp K (hid (p :: Oc) H') v d → (∀ P ∈ Tbs.l, GxR.TabG H' P) → Q v H'
  | _ => False)
def spN [Tbs] (K : PySem.W.Frag) (n : Nat) (F : List PyData → RO (List PyData)) : Sp := fun vs H Q E => vs.length = n ∧ (∀ P ∈ Tbs.l, GxR.TabG H P) ∧ ∃ ds Oc, Lv Oc H ∧ DpAll K (hid Oc H) vs ds ∧ (match F ds with
  | .ok l => ∀ q us H1, Ext H H1 → H1 q = none → DpAll K (hid Oc H1) us l → Q (.ref q) (upd H1 q (.lst us))
  | _ => False)
def startI (m : Nat) (ds0 ds : List PyData) : Env := some (.own ds0) :: (ds.map (fun d => some (.fz d)) ++ List.replicate (m - (ds.length + 1)) none)
def runI (m : Nat) (B : S2) : List PyData → List PyData → RO (PyData × List PyData) := fun ds0 ds => match B (startI m ds0 ds) with
  | .rt d env => (match (env[0]? : Option (Option SV)) with
    | some (some (SV.own l)) => .ok (d, l)
    | _ => .no)
  | _ => .no
def runN (m : Nat) (B : S2) : List PyData → RO (List PyData) := fun ds => match B (startE m ds) with
  | .rl l _ => .ok l
  | _ => .no
theorem hid_p {Oc : List Addr} {H : Hp} {p : Addr} : hid Oc (fun a => if a = p then none else H a) = hid (p :: Oc) H := by
  funext a
  unfold hid
  by_cases ha : a ∈ Oc
  · rw [if_pos ha, if_pos (List.mem_cons_of_mem _ ha)]
  · rw [if_neg ha]
    by_cases hap : a = p
    · rw [if_pos (show a ∈ p :: Oc by rw [hap]; exact List.mem_cons_self)]
      exact if_pos hap
    · rw [if_neg (fun z => (List.mem_cons.mp z).elim hap ha)]
      exact if_neg hap
theorem startI_rep [Tbs] {K : PySem.W.Frag} {H : Hp} {Oc : List Addr} {p : Addr} {ws ls : List V} {ds0 ds : List PyData} {N : List Str} (np : p ∉ Oc) (l : Lv (p :: Oc) H) (tb : ∀ P ∈ Tbs.l, GxR.TabG H P) (hp : H p = some (.lst ls)) (h0 : DpAll K (hid (p :: Oc) H) ls ds0) (h : DpAll K (hid (p :: Oc) H) ws ds) :
    Rep K ⟨fun a => if a = p then none else H a, Oc⟩ (startI N.length ds0 ds) (L2.start N (.ref p :: ws)) H (p :: Oc) := by
  have hl := dpa_len h
  have at0 : (L2.start N (.ref p :: ws))[0]? = some (some (.ref p)) := rfl
  have noOwn : ∀ {i : Nat} {di : List PyData}, (startI N.length ds0 ds)[i]? = some (some (.own di)) → i = 0 := fun {i di} e => by
    cases i with
    | zero => rfl
    | succ i =>
      exfalso
      unfold startI at e
      rw [List.getElem?_cons_succ] at e
      by_cases hi : i < ds.length
      · rw [List.getElem?_append_left (by simpa using hi), List.getElem?_map] at e
        cases hd : ds[i]? with
        | none => rw [hd] at e; cases e
        | some d => rw [hd] at e; cases e
      · rw [List.getElem?_append_right (by simpa using hi), List.getElem?_replicate] at e
        split at e <;> cases e
  refine ⟨?_, fun a ha => List.mem_cons_of_mem _ ha, fun a ha => ?_, ?_, fun i s e => ?_, fun i j a di dj e1 e2 _ _ => ?_, l, tb⟩
  · have e := hid_p (Oc := Oc) (H := H) (p := p)
    show Ext (hid Oc (fun a => if a = p then none else H a)) _
    rw [e]
    exact Ext.refl _
  · show H a = if a = p then none else H a
    have n : a ≠ p := fun z => np (by rw [← z]; exact ha)
    rw [if_neg n]
  · unfold startI L2.start
    simp [hl]
  · cases i with
    | zero =>
      cases e
      exact ⟨_, at0, p, ls, rfl, List.mem_cons_self, np, hp, h0⟩
    | succ i =>
      unfold startI at e
      rw [List.getElem?_cons_succ] at e
      by_cases hi : i < ds.length
      · rw [List.getElem?_append_left (by simpa using hi), List.getElem?_map] at e
        cases hd : ds[i]? with
        | none => rw [hd] at e; cases e
        | some d =>
          rw [hd] at e
          cases e
          obtain ⟨v, h1, h2⟩ := dpa_get h hd
          refine ⟨v, ?_, h2⟩
          unfold L2.start
          rw [List.map_cons, List.cons_append, List.getElem?_cons_succ, List.getElem?_append_left (by rw [List.length_map, hl]; exact hi), List.getElem?_map, h1]
          rfl
      · rw [List.getElem?_append_right (by simpa using hi), List.getElem?_replicate] at e
        split at e <;> cases e
  · rw [noOwn e1, noOwn e2]
section
variable {P : Program} {w : World} {K : PySem.W.Frag} {mg : Str → Option Value} {base : Heap}
variable [Tbs]
theorem bodyI_ok {N : List Str} {X : Cx} {H : Hp} {vs : List V} {Q : VK} {E : XK} {body : List Stmt} {B : S2} {n : Nat} (hK : X.K = K) (h : CSs2 X (some 0) body B) (q : spI K n (runI N.length B) vs H Q E) :
    wpSs X body { nx := fun _ H' => Q .non H', rt := Q } (L2.start N vs) H := by
  subst hK
  obtain ⟨_, tb, p, ws, ls, ds0, ds, Oc, rfl, np, l, hp, h0, hd, q⟩ := q
  refine h _ (startI N.length ds0 ds) _ H (p :: Oc) _ p (startI_rep np l tb hp h0 hd) rfl ?_
  unfold runI at q
  cases hb : B (startI N.length ds0 ds) with
  | nx e => rw [hb] at q; exact q.elim
  | rl d e => rw [hb] at q; exact q.elim
  | no => rw [hb] at q; exact q.elim
  | rt d env =>
    rw [hb] at q
    intro v σ H' O' r pin dv
    dsimp only at q
    cases he : env[0]? with
    | none => rw [he] at q; exact q.elim
    | some s =>
      cases s with
      | none => rw [he] at q; exact q.elim
      | some s =>
        cases s with
        | ob c fs => rw [he] at q; exact q.elim
        | fz d => rw [he] at q; exact q.elim
        | own l1 =>
          rw [he] at q
          obtain ⟨u, h1, a, ls', rfl, ha, hac, hH, hD⟩ := r.sl 0 _ he
          have pin' : σ[0]? = some (some (.ref p)) := pin
          rw [pin'] at h1
          have e1 : p = a := by injection h1 with h1; injection h1 with h1; injection h1
          subst e1
          have sub : ∀ b ∈ (p :: Oc), b ∈ O' := fun b hb => by
            rcases List.mem_cons.mp hb with rfl | hb
            · exact ha
            · exact r.sub b hb
          have ex := r.ex
          have ez := hid_p (Oc := Oc) (H := H) (p := p)
          have ex' : Ext (hid (p :: Oc) H) (hid O' H') := ez ▸ ex
          exact q v H' ls' (ex'.trans (Ext.hid_sub sub)) (fun b hb => by
            have := r.kp b hb
            rw [this]
            show (if b = p then none else H b) = H b
            have n : b ≠ p := fun z => np (by rw [← z]; exact hb)
            rw [if_neg n]) hH ((Ext.hid_sub sub).dpa hD) ((Ext.hid_sub sub).dp dv) r.tb
theorem bodyN_ok {N : List Str} {X : Cx} {H : Hp} {vs : List V} {Q : VK} {E : XK} {body : List Stmt} {B : S2} {n : Nat} (hK : X.K = K) (h : CSs2 X none body B) (q : spN K n (runN N.length B) vs H Q E) :
    wpSs X body { nx := fun _ H' => Q .non H', rt := Q } (L2.start N vs) H := by
  subst hK
  obtain ⟨_, tb, ds, Oc, l, hd, q⟩ := q
  refine h ⟨H, Oc⟩ (startE N.length ds) _ H Oc _ 0 (start_rep l tb hd) trivial ?_
  unfold runN at q
  cases hb : B (startE N.length ds) with
  | nx e => rw [hb] at q; exact q.elim
  | rt d e => rw [hb] at q; exact q.elim
  | no => rw [hb] at q; exact q.elim
  | rl d e =>
    rw [hb] at q
    exact fun x us σ' H' O' r _ hx hd => q x us H' r.whole hx ((Ext.hid_sub r.sub).dpa hd)
theorem okI {x qual : Str} {st : Stmt} {f : Addr} {fd : FuncData} {N ps : List Str} {k : Nat} (F : Fun K x qual st f fd) (S : FnScope N ps (defScope st)) (B : S2)
    (h : ∀ (cdv : Value) (A : Around) (outer : List PySem.Env) (s : Shared) (H : Hp) (E : XK), Room k (A.deeper (envOfC qual (defScope st) s.heap.objs.size f cdv)) →
      CSs2 (cxOf (L2.CX P w) P w K mg base N qual (defScope st) f cdv A outer s H E) (some 0) (defBody st) B) : FnOk P w K mg base (L2.CX P w) (k + 1) f fd ps (spI K ps.length (runI N.length B)) :=
  F.okX S (fun vs H Q E q => q.1) fun cdv A outer s H vs Q E hr q => ⟨_, pss_wp, bodyI_ok (N := N) rfl (h cdv A outer s H E hr) q⟩
theorem okN {x qual : Str} {st : Stmt} {f : Addr} {fd : FuncData} {N ps : List Str} {k : Nat} (F : Fun K x qual st f fd) (S : FnScope N ps (defScope st)) (B : S2)
    (h : ∀ (cdv : Value) (A : Around) (outer : List PySem.Env) (s : Shared) (H : Hp) (E : XK), Room k (A.deeper (envOfC qual (defScope st) s.heap.objs.size f cdv)) →
      CSs2 (cxOf (L2.CX P w) P w K mg base N qual (defScope st) f cdv A outer s H E) none (defBody st) B) : FnOk P w K mg base (L2.CX P w) (k + 1) f fd ps (spN K ps.length (runN N.length B)) :=
  F.okX S (fun vs H Q E q => q.1) fun cdv A outer s H vs Q E hr q => ⟨_, pss_wp, bodyN_ok (N := N) rfl (h cdv A outer s H E hr) q⟩
end
end PD
set_option Elab.async false
set_option linter.all false
set_option maxRecDepth 100000
set_option maxHeartbeats 4000000
namespace PD
open PySem PySem.Spec PyProof.Rows L2
/-! ### expressions that change own lists of the frame -/
abbrev E2 := Env → RO (PyData × Env)
abbrev A2 := Env → RO (List PyData × Env)
abbrev T2 := Env → RO (Bool × Env)
section
variable {X : Cx} {W : WX} {e a b c : Expr} {es : List Expr} {st : Stmt} {f : E} {fa fb : E2} {ga : A2} {t : T} {ft : T2} {Z : Zn} {env env' : Env} {σ : Sg} {H H' : Hp} {O : List Addr} {pos p2 : Pos}
variable [Tbs]
/-- no list of the frame's own is made -/
def OwnLe (e e' : Env) : Prop := ∀ (j : Nat) (ds : List PyData), e'[j]? = some (some (SV.own ds)) → ∃ ds', e[j]? = some (some (SV.own ds'))
theorem OwnLe.refl {e : Env} : OwnLe e e := fun j ds h => ⟨ds, h⟩
theorem OwnLe.trans {a b c : Env} (h : OwnLe a b) (k : OwnLe b c) : OwnLe a c := fun j ds z => let ⟨ds', y⟩ := k j ds z; h j ds' y
def CE2 (X : Cx) (e : Expr) (f : E2) : Prop := (∀ env d env', f env = .ok (d, env') → OwnLe env env') ∧ ∀ Z env σ H O Q d env', Rep X.K Z env σ H O → f env = .ok (d, env') → (∀ v H', Rep X.K Z env' σ H' O → Ext (hid O H) (hid O H') → Dp X.K (hid O H') v d → Q v H') → wpE X e σ H Q
def CA2 (X : Cx) (es : List Expr) (f : A2) : Prop := (∀ env d env', f env = .ok (d, env') → OwnLe env env') ∧ ∀ Z env σ H O Q ds env', Rep X.K Z env σ H O → f env = .ok (ds, env') → (∀ vs H', Rep X.K Z env' σ H' O → Ext (hid O H) (hid O H') → DpAll X.K (hid O H') vs ds → Q vs H') → wpA X es σ H Q
def CT2 (X : Cx) (e : Expr) (f : T2) : Prop := (∀ env d env', f env = .ok (d, env') → OwnLe env env') ∧ ∀ Z env σ H O Q b env', Rep X.K Z env σ H O → f env = .ok (b, env') → (∀ H', Rep X.K Z env' σ H' O → Ext (hid O H) (hid O H') → Q b H') → wpT X e σ H Q
/-- a list of the frame's own, changed by a call -/
theorem Rep.back (r : Rep X.K Z env σ H O) {i : Nat} {p : Addr} {ds0 ds : List PyData} {ls : List V} (he : env[i]? = some (some (.own ds0))) (hs : σ[i]? = some (some (.ref p))) (e : Ext (hid O H) (hid O H')) (kp : ∀ a ∈ O, a ≠ p → H' a = H a) (hp : H' p = some (.lst ls)) (h : DpAll X.K (hid O H') ls ds) (tb : ∀ P ∈ Tbs.l, GxR.TabG H' P) : Rep X.K Z (env.set i (some (.own ds))) σ H' O := by
  obtain ⟨v, h1, a, ws, rfl, ha, hc, h3, _⟩ := r.sl i _ he
  rw [hs] at h1
  have e1 : p = a := by injection h1 with h1; injection h1 with h1; injection h1
  subst e1
  have old : ∀ {j : Nat} {dj : List PyData}, (env.set i (some (.own ds)))[j]? = some (some (.own dj)) → ∃ dj', env[j]? = some (some (.own dj')) := fun {j dj} e => by
    rcases set_some e with ⟨rfl, _, _⟩ | ⟨_, e⟩
    · exact ⟨_, he⟩
    · exact ⟨_, e⟩
  refine ⟨r.ex.trans e, r.sub, fun a ha' => ?_, by simp [r.len], fun j s e' => ?_, fun j k a dj dk e1 e2 s1 s2 => ?_, fun a ha' => ?_, tb⟩
  · have n : a ≠ p := fun z => hc (by rw [← z]; exact ha')
    rw [kp a (r.sub a ha') n]
    exact r.kp a ha'
  · rcases set_some e' with ⟨rfl, _, e'⟩ | ⟨hj, e'⟩
    · cases e'
      exact ⟨.ref p, hs, p, ls, rfl, ha, hc, hp, h⟩
    · obtain ⟨w, h1, h2⟩ := r.sl j s e'
      refine ⟨w, h1, ?_⟩
      cases s with
      | fz d => exact e.dp h2
      | ob c fs => exact e.ob h2
      | own dj =>
        obtain ⟨b, ws, e1, hb, hcb, h3', h4⟩ := h2
        have nb : b ≠ p := fun z => hj (r.nd j i p dj ds0 e' he (by rw [h1, e1, z]) hs)
        exact ⟨b, ws, e1, hb, hcb, by rw [kp b hb nb]; exact h3', e.dpa h4⟩
  · obtain ⟨x1, y1⟩ := old e1
    obtain ⟨x2, y2⟩ := old e2
    exact r.nd j k a x1 x2 y1 y2 s1 s2
  · by_cases z : a = p
    · exact ⟨ls, by rw [z]; exact hp⟩
    · obtain ⟨ws, h3⟩ := r.lv a ha'
      exact ⟨ws, by rw [kp a ha' z]; exact h3⟩
def e2P (f : E) : E2 := fun env => f env >>= fun d => .ok (d, env)
theorem ce2_pure (h : CE X W e f) : CE2 X e (e2P f) := ⟨(fun env d env' q => by
  obtain ⟨x, hx, q⟩ := bind_okE q
  cases q
  exact OwnLe.refl), fun Z env σ H O Q d env' r q k => by
  obtain ⟨x, hx, q⟩ := bind_okE q
  cases q
  exact h.ok2 r hx fun v H1 e1 d1 r1 => k v H1 r1 (e1.hid O) d1⟩
def a2N : A2 := fun env => .ok ([], env)
def a2C (f : E2) (g : A2) : A2 := fun env => f env >>= fun x => g x.2 >>= fun y => .ok (x.1 :: y.1, y.2)
theorem ca2_nil : CA2 X [] a2N := ⟨(fun env d env' q => by
  cases q
  exact OwnLe.refl), fun Z env σ H O Q ds env' r q k => by
  cases q
  exact wp_a pa_nil (k [] H r (Ext.refl _) .nil)⟩
theorem ca2_cons (h : CE2 X e fa) (g : CA2 X es ga) (hs : starEach (e :: es) X.env = (false, eval e X.env) :: starEach es X.env := by rfl) : CA2 X (e :: es) (a2C fa ga) := ⟨(fun env d env' q => by
  obtain ⟨x, hx, q⟩ := bind_okE q
  obtain ⟨y, hy, q⟩ := bind_okE q
  cases q
  exact (h.1 env x.1 x.2 hx).trans (g.1 x.2 y.1 y.2 hy)), fun Z env σ H O Q ds env' r q k => by
  obtain ⟨x, hx, q⟩ := bind_okE q
  obtain ⟨y, hy, q⟩ := bind_okE q
  cases q
  refine wp_a (pa_cons pe_wp pa_wp hs) ?_
  refine h.2 Z env σ H O _ x.1 x.2 r hx fun v H1 r1 e1 d1 => ?_
  refine g.2 Z x.2 σ H1 O _ y.1 y.2 r1 hy fun vs H2 r2 e2 d2 => ?_
  exact k _ H2 r2 (e1.trans e2) (.cons (e2.dp d1) d2)⟩
def e2Op (bi : PyData → PyData → Option PyData) (fa fb : E2) : E2 := fun env => fa env >>= fun x => fb x.2 >>= fun y => ofO (bi x.1 y.1) >>= fun d => .ok (d, y.2)
theorem ofO_ok {α : Type} {o : Option α} {x : α} (h : ofO o = .ok x) : o = some x := by
  cases o with
  | none => cases h
  | some y => cases h; rfl
theorem ce2_op {op : Operator} {bi : PyData → PyData → Option PyData} (ho : BinR X (binaryOp op) bi) (ha : CE2 X a fa) (hb : CE2 X b fb) : CE2 X (.BinOp a op b pos) (e2Op bi fa fb) := ⟨(fun env d env' q => by
  obtain ⟨x, hx, q⟩ := bind_okE q
  obtain ⟨y, hy, q⟩ := bind_okE q
  obtain ⟨z, hz, q⟩ := bind_okE q
  cases q
  exact (ha.1 env x.1 x.2 hx).trans (hb.1 x.2 y.1 y.2 hy)), fun Z env σ H O Q d env' r q k => by
  obtain ⟨x, hx, q⟩ := bind_okE q
  obtain ⟨y, hy, q⟩ := bind_okE q
  obtain ⟨z, hz, q⟩ := bind_okE q
  cases q
  let R : R2 := fun vx vy H Q => ∃ (r : R2), OpR X (binaryOp op) r ∧ r vx vy H Q
  have hR : OpR X (binaryOp op) R := fun pins s σ H x y v u Q I rx ry ⟨r, h1, h2⟩ => h1 pins s σ H x y v u Q I rx ry h2
  refine wp_e (pe_op hR pe_wp pe_wp) ?_
  refine ha.2 Z env σ H O _ x.1 x.2 r hx fun vx H1 r1 e1 d1 => ?_
  refine hb.2 Z x.2 σ H1 O _ y.1 y.2 r1 hy fun vy H2 r2 e2 d2 => ?_
  obtain ⟨rr, h1, h2⟩ := ho x.1 y.1 _ (ofO_ok hz)
  exact ⟨rr, h1, h2 O H2 vx vy Q r2.lv (e2.dp d1) d2 fun v H' e' hv => k v H' (r2.mono e') (e1.trans (e2.trans (e'.hid O))) hv⟩⟩
def t2Cm (bi : PyData → PyData → Option PyData) (fa fb : E2) : T2 := fun env => fa env >>= fun x => fb x.2 >>= fun y => ofO (bi x.1 y.1) >>= tb >>= fun d => .ok (d, y.2)
theorem ct2_cmp {op : CmpOp} {bi : PyData → PyData → Option PyData} (ho : BinB X (compareOp op) bi) (ha : CE2 X a fa) (hb : CE2 X b fb) (hm : behindInMarks op b = false := by first | exact nobehind _ (by decide) (by decide) | rfl) : CT2 X (.Compare a [op] [b] pos) (t2Cm bi fa fb) := ⟨(fun env d env' q => by
  obtain ⟨x, hx, q⟩ := bind_okE q
  obtain ⟨y, hy, q⟩ := bind_okE q
  obtain ⟨z, hz, q⟩ := bind_okE q
  cases q
  exact (ha.1 env x.1 x.2 hx).trans (hb.1 x.2 y.1 y.2 hy)), fun Z env σ H O Q d env' r q k => by
  obtain ⟨x, hx, q⟩ := bind_okE q
  obtain ⟨y, hy, q⟩ := bind_okE q
  obtain ⟨z, hz, q⟩ := bind_okE q
  cases q
  obtain ⟨u, hu, hz⟩ := bind_okE hz
  let R : R2 := fun vx vy H Q => ∃ (r : R2), OpR X (compareOp op) r ∧ r vx vy H Q
  have hR : OpR X (compareOp op) R := fun pins s σ H x y v u Q I rx ry ⟨r, h1, h2⟩ => h1 pins s σ H x y v u Q I rx ry h2
  refine wp_t (pt_cmpR hR pe_wp pe_wp hm) ?_
  refine ha.2 Z env σ H O _ x.1 x.2 r hx fun vx H1 r1 e1 d1 => ?_
  refine hb.2 Z x.2 σ H1 O _ y.1 y.2 r1 hy fun vy H2 r2 e2 d2 => ?_
  obtain ⟨rr, h1, h2⟩ := ho x.1 y.1 _ (ofO_ok hu)
  refine ⟨rr, h1, h2 H2 vx vy _ (Ext.unhid.dp (e2.dp d1)) (Ext.unhid.dp d2) fun v hv => ?_⟩
  cases u with
  | bool kb =>
    cases hz
    have := dp_bool (hv H2)
    subst this
    exact ⟨_, rfl, k H2 r2 (e1.trans e2)⟩
  | _ => cases hz⟩
def e2Ix (fa fb : E2) : E2 := fun env => fa env >>= fun x => fb x.2 >>= fun y => ofO (dIx x.1 y.1) >>= fun d => .ok (d, y.2)
theorem ce2_ix (ha : CE2 X a fa) (hb : CE2 X b fb) (hs : PlainIx b := by exact fun _ _ => rfl) : CE2 X (.Subscript a b pos) (e2Ix fa fb) := ⟨(fun env d env' q => by
  obtain ⟨x, hx, q⟩ := bind_okE q
  obtain ⟨y, hy, q⟩ := bind_okE q
  obtain ⟨z, hz, q⟩ := bind_okE q
  cases q
  exact (ha.1 env x.1 x.2 hx).trans (hb.1 x.2 y.1 y.2 hy)), fun Z env σ H O Q d env' r q k => by
  obtain ⟨x, hx, q⟩ := bind_okE q
  obtain ⟨y, hy, q⟩ := bind_okE q
  obtain ⟨z, hz, q⟩ := bind_okE q
  cases q
  refine wp_e (pe_ix ix_seq pe_wp pe_wp hs) ?_
  refine ha.2 Z env σ H O _ x.1 x.2 r hx fun vx H1 r1 e1 d1 => ?_
  refine hb.2 Z x.2 σ H1 O _ y.1 y.2 r1 hy fun vy H2 r2 e2 d2 => ?_
  have e := ofO_ok hz
  generalize hyy : y.1 = dy at d2 e
  cases dy with
  | int i =>
    cases dp_int d2
    exact ix_ok (e2.dp d1) e fun v hv => k v H2 r2 (e1.trans e2) hv
  | _ => generalize x.1 = dx at e; cases dx <;> cases e⟩
def e2Lst (g : A2) : E2 := fun env => g env >>= fun xs => if xs.1.length ≤ sizeLine then .ok (.list xs.1, xs.2) else .no
theorem ce2_lst (h : CA2 X es ga) : CE2 X (.List es pos) (e2Lst ga) := ⟨(fun env d env' q => by
  obtain ⟨x, hx, q⟩ := bind_okE q
  by_cases z : x.1.length ≤ sizeLine
  · rw [if_pos z] at q
    cases q
    exact h.1 env x.1 x.2 hx
  · rw [if_neg z] at q
    cases q), fun Z env σ H O Q d env' r q k => by
  obtain ⟨x, hx, q⟩ := bind_okE q
  by_cases z : x.1.length ≤ sizeLine
  · rw [if_pos z] at q
    cases q
    refine wp_e (pe_lst pa_wp) ?_
    refine h.2 Z env σ H O _ x.1 x.2 r hx fun vs H1 r1 e1 d1 => ?_
    exact ⟨by rw [dpa_len d1]; exact z, fun p hp => k _ _ (r1.mono (Ext.new hp)) (e1.trans ((Ext.new hp).hid O)) (dp_newL r1.lv hp d1)⟩
  · rw [if_neg z] at q
    cases q⟩
def e2Tup (g : A2) : E2 := fun env => g env >>= fun xs => if xs.1.length ≤ sizeLine then .ok (.tuple xs.1, xs.2) else .no
theorem ce2_tup {x1} (h : CA2 X es ga) : CE2 X (.Tuple es x1 pos) (e2Tup ga) := ⟨(fun env d env' q => by
  obtain ⟨x, hx, q⟩ := bind_okE q
  by_cases z : x.1.length ≤ sizeLine
  · rw [if_pos z] at q
    cases q
    exact h.1 env x.1 x.2 hx
  · rw [if_neg z] at q
    cases q), fun Z env σ H O Q d env' r q k => by
  obtain ⟨x, hx, q⟩ := bind_okE q
  by_cases z : x.1.length ≤ sizeLine
  · rw [if_pos z] at q
    cases q
    refine wp_e (pe_tup pa_wp) ?_
    refine h.2 Z env σ H O _ x.1 x.2 r hx fun vs H1 r1 e1 d1 => ?_
    exact ⟨by rw [dpa_len d1]; exact z, fun p hp => k _ _ (r1.mono (Ext.new hp)) (e1.trans ((Ext.new hp).hid O)) (dp_newT r1.lv hp d1)⟩
  · rw [if_neg z] at q
    cases q⟩
end
section
variable {X : Cx} {W : WX} {Z : Zn} {env : Env} {σ : Sg} {H : Hp} {O : List Addr} {k n : Nat} {f : Addr} {fd : FuncData} {ps : List Str} {x : Str} {p pos : Pos} {e : Expr} {es : List Expr} {ga : A2}
variable [Tbs]
def e2Call (n : Nat) (F : List PyData → RO PyData) (g : A2) : E2 := fun env => g env >>= fun x => callD n F x.1 >>= fun d => .ok (d, x.2)
def callI (n : Nat) (F : List PyData → List PyData → RO (PyData × List PyData)) (l ds : List PyData) : RO (PyData × List PyData) := if ds.length + 1 = n then F l ds else .no
def e2CallI (n i : Nat) (F : List PyData → List PyData → RO (PyData × List PyData)) (g : A2) : E2 := fun env => gvo env i >>= fun _ => g env >>= fun x => gvo x.2 i >>= fun l => callI n F l x.1 >>= fun r => .ok (r.1, x.2.set i (some (.own r.2)))
theorem hid_perm {O : List Addr} {H : Hp} {p : Addr} (h : p ∈ O) : hid (p :: O.filter (fun b => decide (b ≠ p))) H = hid O H := by
  funext a
  unfold hid
  have key : a ∈ p :: O.filter (fun b => decide (b ≠ p)) ↔ a ∈ O := by
    constructor
    · intro ha
      rcases List.mem_cons.mp ha with rfl | ha
      · exact h
      · exact (List.mem_filter.mp ha).1
    · intro ha
      by_cases z : a = p
      · rw [z]
        exact List.mem_cons_self
      · exact List.mem_cons_of_mem _ (List.mem_filter.mpr ⟨ha, by simpa using z⟩)
  by_cases ha : a ∈ O
  · rw [if_pos ha, if_pos (key.mpr ha)]
  · rw [if_neg ha, if_neg (fun z => ha (key.mp z))]
theorem ce2_callI {F : List PyData → List PyData → RO (PyData × List PyData)} {i : Nat} {y : Str} {py : Pos} (G : FnOk X.prog X.w X.K X.mg X.base (L2.CX X.prog X.w) k f fd ps (spI X.K n F)) (hr : Room k X.A) (tk : Takes X W) (hg : Gl X x) (hm : X.mg x = some (.ref f)) (hk : PySem.W.keepIn X.K (.ref f) = true) (hb : Binds X.K fd ps [])
    (ha : CA2 X es ga) (hN : X.N[i]? = some y) (hv : Vis X.env.scope y) (hd : (y == ("__debug__" : Str)) = false) (hcd : (y == ("__classdict__" : Str)) = false) (hdb : (x == ("__debug__" : Str)) = false := by decide)
    (he : starEach (.Name y py :: es) X.env = (false, eval (.Name y py) X.env) :: starEach es X.env := by rfl) (hpl : (backTo pos (starEach es X.env)).any (·.1) = false := by rfl) :
    CE2 X (.Call (.Name x p) (.Name y py :: es) [] pos) (e2CallI n i F ga) := ⟨(fun env d env' q => by
  obtain ⟨l0, hl0, q⟩ := bind_okE q
  obtain ⟨a, hy, q⟩ := bind_okE q
  obtain ⟨l, hl, q⟩ := bind_okE q
  obtain ⟨z, hz, q⟩ := bind_okE q
  cases q
  refine (ha.1 env a.1 a.2 hy).trans fun j ds e => ?_
  rcases set_some e with ⟨rfl, _, _⟩ | ⟨_, e⟩
  · exact ⟨l, gvo_ok hl⟩
  · exact ⟨ds, e⟩), fun Z env σ H O Q d env' r q kk => by
  obtain ⟨l0, hl0, q⟩ := bind_okE q
  obtain ⟨a, hy, q⟩ := bind_okE q
  obtain ⟨l, hl, q⟩ := bind_okE q
  obtain ⟨z, hz, q⟩ := bind_okE q
  cases q
  refine wp_e (pe_callS G hr hg hm hk hb (fun σ => passAt tk σ) (pa_cons pe_wp pa_wp he) hdb he hpl) ?_
  refine own_read r (gvo_ok hl0) hN hv hd hcd fun p0 vs0 s1 s2 s3 s4 s5 => ?_
  refine ha.2 Z env σ H O _ a.1 a.2 r hy fun vs H1 r1 e1 d1 => ?_
  obtain ⟨v, h1, p1, ws, rfl, hp1, hc1, hH1, hD1⟩ := r1.sl i _ (gvo_ok hl)
  rw [s1] at h1
  have ep : p0 = p1 := by injection h1 with h1; injection h1 with h1; injection h1
  subst ep
  unfold callI at hz
  by_cases hll : a.1.length + 1 = n
  · rw [if_pos hll] at hz
    have hq := hid_perm (H := H1) hp1
    have np : p0 ∉ O.filter (fun b => decide (b ≠ p0)) := fun z => by
      have := (List.mem_filter.mp z).2
      simp at this
    refine ⟨by rw [List.length_cons, dpa_len d1]; exact hll, r1.tb, p0, vs, ws, l, a.1, O.filter (fun b => decide (b ≠ p0)), rfl, np, fun b hb => ?_, hH1, by rw [hq]; exact hD1, by rw [hq]; exact d1, ?_⟩
    · rcases List.mem_cons.mp hb with rfl | hb
      · exact ⟨ws, hH1⟩
      · exact r1.lv b (List.mem_filter.mp hb).1
    · rw [hz]
      intro v H' ls' ex kp hp' hD' hv' tb'
      have hq' := hid_perm (H := H') hp1
      rw [hq, hq'] at ex
      rw [hq'] at hD' hv'
      have r2 := r1.back (gvo_ok hl) s1 ex (fun b hb hn => kp b (List.mem_filter.mpr ⟨hb, by simpa using hn⟩)) hp' hD' tb'
      exact kk v H' r2 (e1.trans ex) hv'
  · rw [if_neg hll] at hz
    cases hz⟩
def callN (n : Nat) (F : List PyData → RO (List PyData)) (ds : List PyData) : RO (List PyData) := if ds.length = n then (match F ds with | .ok l => .ok l | _ => .no) else .no
theorem cl_callN {F : List PyData → RO (List PyData)} {gp : Env → RO (List PyData)} (G : FnOk X.prog X.w X.K X.mg X.base (L2.CX X.prog X.w) k f fd ps (spN X.K n F)) (hr : Room k X.A) (tk : Takes X W) (hg : Gl X x) (hm : X.mg x = some (.ref f)) (hk : PySem.W.keepIn X.K (.ref f) = true) (hb : Binds X.K fd ps [])
    (ha : CA X W (e :: es) gp) (hdb : (x == ("__debug__" : Str)) = false := by decide) (he : starEach (e :: es) X.env = (false, eval e X.env) :: starEach es X.env := by rfl) (hpl : (backTo pos (starEach es X.env)).any (·.1) = false := by rfl) :
    CL X W (.Call (.Name x p) (e :: es) [] pos) (fun env => gp env >>= callN n F) := fun Z env σ H O Q r q => by
  refine wp_e (pe_callS G hr hg hm hk hb (fun σ => passAt tk σ) pa_wp hdb he hpl) ?_
  refine ha.go r q fun d vs H1 e1 d1 r1 q1 => ?_
  unfold callN at q1
  by_cases hl : d.length = n
  · rw [if_pos hl] at q1
    refine ⟨by rw [dpa_len d1]; exact hl, r1.tb, d, O, r1.lv, d1, ?_⟩
    cases hF : F d with
    | ok l =>
      rw [hF] at q1
      exact fun q us H2 e2 hq hd => q1 H2 e2 q us hq hd
    | er c fl => rw [hF] at q1; exact q1.elim
    | no => rw [hF] at q1; exact q1.elim
  · rw [if_neg hl] at q1
    exact q1.elim
end
/-! ### stores and tests -/
section
variable {X : Cx} {W : WX} {e c : Expr} {f2 : E2} {t2 : T2} {g h : S} {pos : Pos}
variable [Tbs]
def sSet2 (i : Nat) (f : E2) : S := fun env => match f env with
  | .ok (d, env1) => .nx (env1.set i (some (.fz d)))
  | _ => .no
def sIf2 (t : T2) (g h : S) : S := fun env => match t env with
  | .ok (b, env1) => if b = true then g env1 else h env1
  | _ => .no
theorem cs_set2 {i : Nat} {x : Str} {pos' : Pos} (hN : X.N.Nodup) (hi : X.N[i]? = some x) (hx : Loc X.env.scope x) (he : CE2 X e f2) (hs : swapsWith e (some (.Name x pos')) pos.line X.env = pure false := by rfl) (hf : X.fn x = true ∨ X.env.scope.names.lookup x = some .local := by first | exact .inl rfl | exact .inr rfl | assumption) :
    CS X W (.Assign [.Name x pos'] e pos) (sSet2 i f2) := fun Z env σ H O D r q => by
  refine wp_s (ps_set hN hi hx pe_wp hs hf) ?_
  unfold sSet2 at q
  cases hf2 : f2 env with
  | ok y =>
    rw [hf2] at q
    exact he.2 Z env σ H O _ y.1 y.2 r hf2 fun v H1 r1 e1 d1 => q _ _ _ (r1.setFz i d1)
  | er c fl => rw [hf2] at q; exact q.elim
  | no => rw [hf2] at q; exact q.elim
end
end PD
set_option Elab.async false
set_option linter.all false
set_option maxRecDepth 100000
set_option maxHeartbeats 4000000
namespace PD
open PySem PySem.Spec PyProof.Rows L2
/-! ### defs by name -/
def DfnI [Tbs] (P : Program) (w : World) (K : PySem.W.Frag) (mg : Str → Option Value) (base : Heap) (x : Str) (k n : Nat) (F : List PyData → List PyData → RO (PyData × List PyData)) : Prop :=
  ∃ (f : Addr) (fd : FuncData) (ps : List Str), FnOk P w K mg base (L2.CX P w) k f fd ps (spI K n F) ∧ mg x = some (.ref f) ∧ PySem.W.keepIn K (.ref f) = true ∧ Binds K fd ps []
def DfnN [Tbs] (P : Program) (w : World) (K : PySem.W.Frag) (mg : Str → Option Value) (base : Heap) (x : Str) (k n : Nat) (F : List PyData → RO (List PyData)) : Prop :=
  ∃ (f : Addr) (fd : FuncData) (ps : List Str), FnOk P w K mg base (L2.CX P w) k f fd ps (spN K n F) ∧ mg x = some (.ref f) ∧ PySem.W.keepIn K (.ref f) = true ∧ Binds K fd ps []
section
variable [Tbs] {X : Cx} {W : WX} {k kk n : Nat} {x : Str} {p pos : Pos} {e : Expr} {es : List Expr} {ga : A2} {f : E}
theorem c2_pure (tk : Takes X W) (h : CE X W e f) : CE2 X e (e2P f) := ce2_pure h
theorem c2_callI {F : List PyData → List PyData → RO (PyData × List PyData)} {i : Nat} {y : Str} {py : Pos} (G : DfnI X.prog X.w X.K X.mg X.base x k n F) (hr : Room kk X.A) (hk : k ≤ kk) (tk : Takes X W) (hg : Gl X x) (ha : CA2 X es ga) (hN : X.N[i]? = some y) (hv : Vis X.env.scope y) (hd : (y == ("__debug__" : Str)) = false) (hcd : (y == ("__classdict__" : Str)) = false) (hdb : (x == ("__debug__" : Str)) = false := by decide) (he : starEach (.Name y py :: es) X.env = (false, eval (.Name y py) X.env) :: starEach es X.env := by rfl) (hpl : (backTo pos (starEach es X.env)).any (·.1) = false := by rfl) :
    CE2 X (.Call (.Name x p) (.Name y py :: es) [] pos) (e2CallI n i F ga) := by
  obtain ⟨f, fd, ps, G, hm, hkp, hb⟩ := G
  exact ce2_callI G (hr.mono hk) tk hg hm hkp hb ha hN hv hd hcd hdb he hpl
def lCallN (n : Nat) (F : List PyData → RO (List PyData)) (ga : A) : A := fun env => ga env >>= callN n F
theorem c_callN {F : List PyData → RO (List PyData)} {gp : A} (G : DfnN X.prog X.w X.K X.mg X.base x k n F) (hr : Room kk X.A) (hk : k ≤ kk) (tk : Takes X W) (hg : Gl X x) (ha : CA X W (e :: es) gp) (hdb : (x == ("__debug__" : Str)) = false := by decide) (he : starEach (e :: es) X.env = (false, eval e X.env) :: starEach es X.env := by rfl) (hpl : (backTo pos (starEach es X.env)).any (·.1) = false := by rfl) :
    CL X W (.Call (.Name x p) (e :: es) [] pos) (lCallN n F gp) := by
  obtain ⟨f, fd, ps, G, hm, hkp, hb⟩ := G
  exact cl_callN G (hr.mono hk) tk hg hm hkp hb ha hdb he hpl
theorem dfnI_of {P : Program} {w : World} {K : PySem.W.Frag} {mg : Str → Option Value} {base : Heap} {qual : Str} {st : Stmt} {f : Addr} {fd : FuncData} {N ps : List Str} {B : S2} (Fn : Fun K x qual st f fd) (Sc : FnScope N ps (defScope st)) (hb : Binds K fd ps []) (hm : mg x = some (.ref f))
    (h : ∀ (cdv : Value) (A : Around) (outer : List PySem.Env) (s : Shared) (H : Hp) (E : XK), Room k (A.deeper (envOfC qual (defScope st) s.heap.objs.size f cdv)) →
      CSs2 (cxOf (L2.CX P w) P w K mg base N qual (defScope st) f cdv A outer s H E) (some 0) (defBody st) B) : DfnI P w K mg base x (k + 1) ps.length (runI N.length B) :=
  ⟨f, fd, ps, okI Fn Sc B h, hm, Fn.kp, hb⟩
theorem dfnN_of {P : Program} {w : World} {K : PySem.W.Frag} {mg : Str → Option Value} {base : Heap} {qual : Str} {st : Stmt} {f : Addr} {fd : FuncData} {N ps : List Str} {B : S2} (Fn : Fun K x qual st f fd) (Sc : FnScope N ps (defScope st)) (hb : Binds K fd ps []) (hm : mg x = some (.ref f))
    (h : ∀ (cdv : Value) (A : Around) (outer : List PySem.Env) (s : Shared) (H : Hp) (E : XK), Room k (A.deeper (envOfC qual (defScope st) s.heap.objs.size f cdv)) →
      CSs2 (cxOf (L2.CX P w) P w K mg base N qual (defScope st) f cdv A outer s H E) none (defBody st) B) : DfnN P w K mg base x (k + 1) ps.length (runN N.length B) :=
  ⟨f, fd, ps, okN Fn Sc B h, hm, Fn.kp, hb⟩
/-- a test with nothing of the kind -/
def t2P (t : T) : T2 := fun env => t env >>= fun b => .ok (b, env)
end
end PD
set_option Elab.async false
set_option linter.all false
set_option maxRecDepth 100000
set_option maxHeartbeats 4000000
namespace PD
open PySem PySem.Spec PyProof.Rows L2
/-! ### evaluation of what has effects -/
section
variable {env e1 : PD.Env} {f fk : E} {g h : S2} {t : T} {d : PyData} {i j m n : Nat} {b : Bool} {fa fb : E2} {ga : A2} {ds xs : List PyData}
def seq2 (r : SO2) (h : S2) : SO2 := match r with
  | .nx e => h e
  | r => r
theorem x2_seq : s2Seq g h env = seq2 (g env) h := rfl
theorem x2_seq_nx : seq2 (.nx env) h = h env := rfl
theorem x2_seq_rt : seq2 (.rt d env) h = .rt d env := rfl
theorem x2_seq_rl : seq2 (.rl ds env) h = .rl ds env := rfl
theorem x2_of {α : Type} {a : α} {k : α → SO2} : of2 (.ok a) k = k a := rfl
theorem x2_nx : s2Nx env = .nx env := rfl
theorem x2_set : s2Set j f env = of2 (f env) fun d => .nx (env.set j (some (.fz d))) := rfl
def set2 (env : PD.Env) (j : Nat) (d : PyData) (xs : List PyData) (k : PyData) : SO2 := match k with
  | .int k => (match setD xs k d with
    | some ys => .nx (env.set j (some (.own ys)))
    | none => .no)
  | _ => .no
theorem x2_setI : s2SetI j fk f env = of2 (f env) fun d => of2 (gvo env j) fun xs => of2 (fk env) fun k => set2 env j d xs k := rfl
theorem x2_set20 {a b d : PyData} : set2 env j d [a, b] (.int 0) = .nx (env.set j (some (.own [d, b]))) := rfl
theorem x2_set21 {a b d : PyData} : set2 env j d [a, b] (.int 1) = .nx (env.set j (some (.own [a, d]))) := rfl
theorem x2_if {g h : S2} : s2If t g h env = of2 (t env) fun b => if b = true then g env else h env := rfl
theorem x2_ret : s2Ret f env = of2 (f env) fun d => .rt d env := rfl
theorem x2_retL {fl : A} : s2RetL fl env = of2 (fl env) fun ds => .rl ds env := rfl
def fin2 (r : SO2) : RO (PyData × List PyData) := match r with
  | .rt d env => (match (env[0]? : Option (Option SV)) with
    | some (some (SV.own l)) => .ok (d, l)
    | _ => .no)
  | _ => .no
theorem x2_runI {B : S2} {l : List PyData} : runI m B l ds = fin2 (B (startI m l ds)) := rfl
theorem x2_fin {l : List PyData} {r : PD.Env} : fin2 (.rt d (some (.own l) :: r)) = .ok (d, l) := rfl
theorem x2_start3 {l : List PyData} {a : PyData} : startI 3 l [a] = [some (.own l), some (.fz a), none] := rfl
def finN (r : SO2) : RO (List PyData) := match r with
  | .rl l _ => .ok l
  | _ => .no
theorem x2_runN {B : S2} : runN m B ds = finN (B (startE m ds)) := rfl
theorem x2_finN : finN (.rl ds env) = .ok ds := rfl
theorem x2_start1 {a : PyData} : startE 1 [a] = [some (.fz a)] := rfl
theorem x2_P : e2P f env = (f env >>= fun d => .ok (d, env)) := rfl
theorem x2_N : a2N env = .ok ([], env) := rfl
theorem x2_C : a2C fa ga env = (fa env >>= fun x => ga x.2 >>= fun y => .ok (x.1 :: y.1, y.2)) := rfl
theorem x2_Op {bi : PyData → PyData → Option PyData} : e2Op bi fa fb env = (fa env >>= fun x => fb x.2 >>= fun y => ofO (bi x.1 y.1) >>= fun d => .ok (d, y.2)) := rfl
theorem x2_Cm {bi : PyData → PyData → Option PyData} : t2Cm bi fa fb env = (fa env >>= fun x => fb x.2 >>= fun y => ofO (bi x.1 y.1) >>= tb >>= fun d => .ok (d, y.2)) := rfl
theorem x2_Ix : e2Ix fa fb env = (fa env >>= fun x => fb x.2 >>= fun y => ofO (dIx x.1 y.1) >>= fun d => .ok (d, y.2)) := rfl
theorem x2_Lst : e2Lst ga env = (ga env >>= fun xs => if xs.1.length ≤ sizeLine then .ok (.list xs.1, xs.2) else .no) := rfl
theorem x2_Tup : e2Tup ga env = (ga env >>= fun xs => if xs.1.length ≤ sizeLine then .ok (.tuple xs.1, xs.2) else .no) := rfl
theorem x2_Call {F : List PyData → RO PyData} : e2Call n F ga env = (ga env >>= fun x => callD n F x.1 >>= fun d => .ok (d, x.2)) := rfl
theorem x2_CallI {F : List PyData → List PyData → RO (PyData × List PyData)} : e2CallI n i F ga env = (gvo env i >>= fun _ => ga env >>= fun x => gvo x.2 i >>= fun l => callI n F l x.1 >>= fun r => .ok (r.1, x.2.set i (some (.own r.2)))) := rfl
theorem x2_cI2 {F : List PyData → List PyData → RO (PyData × List PyData)} {l : List PyData} {a : PyData} : callI 2 F l [a] = F l [a] := rfl
def set2S (r : RO (PyData × PD.Env)) (i : Nat) : SO := match r with
  | .ok (d, env1) => .nx (env1.set i (some (.fz d)))
  | _ => .no
theorem x2_set2 : sSet2 i fa env = set2S (fa env) i := rfl
theorem x2_set2S : set2S (.ok (d, env)) i = .nx (env.set i (some (.fz d))) := rfl
def if2S (r : RO (Bool × PD.Env)) (g h : S) : SO := match r with
  | .ok (b, env1) => if b = true then g env1 else h env1
  | _ => .no
theorem x2_if2 {t : T2} {g h : S} : sIf2 t g h env = if2S (t env) g h := rfl
theorem x2_if2S {g h : S} : if2S (.ok (b, env)) g h = if b = true then g env else h env := rfl
theorem x2_callN {F : List PyData → RO (List PyData)} {ga : A} : lCallN n F ga env = (ga env >>= callN n F) := rfl
def okL (r : RO (List PyData)) : RO (List PyData) := match r with
  | .ok l => .ok l
  | _ => .no
theorem x2_cN1 {F : List PyData → RO (List PyData)} {a : PyData} : callN 1 F [a] = okL (F [a]) := rfl
theorem x2_okL : okL (.ok ds) = .ok ds := rfl
end
end PD
set_option Elab.async false
set_option linter.all false
set_option maxRecDepth 100000
set_option maxHeartbeats 4000000
namespace PD
open PySem PySem.Spec PyProof.Rows L2
section
variable {X : Cx} {W : WX} {e a b c : Expr} {es rest : List Expr} {st : Stmt} {sts : List Stmt} {f2 fa fb : E2} {t2 ft fu : T2} {Z : Zn} {env env' : Env} {σ : Sg} {H H' : Hp} {O : List Addr} {D : Ends} {pos p2 : Pos}
variable [Tbs]
/-! ### statements of such defs, with such expressions -/
def s2Set2 (j : Nat) (f : E2) : S2 := fun env => of2 (f env) fun x => .nx (x.2.set j (some (.fz x.1)))
def s2If2 (t : T2) (g h : S2) : S2 := fun env => of2 (t env) fun x => if x.1 = true then g x.2 else h x.2
def s2Ret2 (f : E2) : S2 := fun env => of2 (f env) fun x => .rt x.1 x.2
theorem cs2_set2 {i : Option Nat} {j : Nat} {x : Str} {pos' : Pos} (hN : X.N.Nodup) (hi : X.N[j]? = some x) (hx : Loc X.env.scope x) (he : CE2 X e f2) (hne : i ≠ some j) (hs : swapsWith e (some (.Name x pos')) pos.line X.env = pure false := by rfl) (hf : X.fn x = true ∨ X.env.scope.names.lookup x = some .local := by first | exact .inl rfl | exact .inr rfl | assumption) :
    CS2 X i (.Assign [.Name x pos'] e pos) (s2Set2 j f2) := fun Z env σ H O D p r hp q => by
  refine wp_s (ps_set hN hi hx pe_wp hs hf) ?_
  obtain ⟨y, hy, q⟩ := of2_ok q
  refine he.2 Z env σ H O _ y.1 y.2 r hy fun v H1 r1 e1 d1 => q _ _ _ (r1.setFz j d1) ?_
  cases i with
  | none => trivial
  | some i =>
    have n : j ≠ i := fun z => hne (by rw [z])
    have hp' : σ[i]? = some (some (.ref p)) := hp
    show (σ.set j (some v))[i]? = some (some (.ref p))
    rw [List.getElem?_set_ne n]
    exact hp'
theorem cs2_if2 {i : Option Nat} {g h : S2} {s1 s2 : List Stmt} (hc : CT2 X c t2) (h1 : CSs2 X i s1 g) (h2 : CSs2 X i s2 h) : CS2 X i (.If c s1 s2 pos) (s2If2 t2 g h) := fun Z env σ H O D p r hp q => by
  refine wp_s (ps_if pt_wp pss_wp pss_wp) ?_
  obtain ⟨y, hy, q⟩ := of2_ok q
  refine hc.2 Z env σ H O _ y.1 y.2 r hy fun H1 r1 e1 => ?_
  obtain ⟨b, env1⟩ := y
  cases b with
  | true => exact h1 Z env1 σ H1 O D p r1 hp q
  | false => exact h2 Z env1 σ H1 O D p r1 hp q
theorem cs2_ret2 {i : Option Nat} (he : CE2 X e f2) : CS2 X i (.Return (some e) pos) (s2Ret2 f2) := fun Z env σ H O D p r hp q => by
  refine wp_s (ps_ret pe_wp) ?_
  obtain ⟨y, hy, q⟩ := of2_ok q
  exact he.2 Z env σ H O _ y.1 y.2 r hy fun v H1 r1 e1 d1 => q v σ H1 O r1 hp d1
/-! ### tests -/
def CW2 (X : Cx) (e : Expr) (f : T2) : Prop := (∀ env d env', f env = .ok (d, env') → OwnLe env env') ∧ ∀ Z env σ H O Q b env', Rep X.K Z env σ H O → f env = .ok (b, env') → (∀ H', Rep X.K Z env' σ H' O → Ext (hid O H) (hid O H') → Q b H') → wpW X e σ H Q
theorem CW2.ct (h : CW2 X e ft) : CT2 X e ft := ⟨h.1, fun Z env σ H O Q b env' r q k => wp_t pw_wp.pt (h.2 Z env σ H O Q b env' r q k)⟩
def t2Nt (t : T2) : T2 := fun env => t env >>= fun x => .ok (!x.1, x.2)
def t2An (t u : T2) : T2 := fun env => t env >>= fun x => if x.1 = true then u x.2 else .ok (false, x.2)
def t2Or (t u : T2) : T2 := fun env => t env >>= fun x => if x.1 = true then .ok (true, x.2) else u x.2
/-! ### tuple(e), append(e), for x in e -/
def e2Tu (f : E2) : E2 := fun env => f env >>= fun x => dSeq x.1 >>= fun xs => .ok (.tuple xs, x.2)
def sApp2 (i : Nat) (f : E2) : S := fun env => match f env with
  | .ok (d, e1) => ofR (gvo env i) env fun _ => ofR (gvo e1 i) e1 fun xs => if xs.length < sizeLine then .nx (e1.set i (some (.own (xs ++ [d])))) else .no
  | _ => .no
theorem cs_app2 {i : Nat} {x : Str} {px apos cpos : Pos} (hN : X.N[i]? = some x) (hv : Vis X.env.scope x) (hd : (x == ("__debug__" : Str)) = false) (hcd : (x == ("__classdict__" : Str)) = false) (he : CE2 X e f2)
    (hbase : attributeBase (.Name x px) "append" X.env (eval (.Name x px) X.env) = eval (.Name x px) X.env := by rfl)
    (hfew : ((backTo cpos (starEach [e] X.env)).all (fun x => !x.1) && (backToKw cpos (keywordEach [] X.env)).all (fun x => x.1.isSome) && decide (([e] : List Expr).length + ([] : List Keyword).length + (if ([] : List Keyword).isEmpty then 0 else 1) < 30)) = true := by rfl)
    (hline : (apos.endLine == cpos.line) = true := by rfl) (hs : starEach [e] X.env = (false, eval e X.env) :: starEach [] X.env := by rfl) (hplain : (backTo cpos (starEach [] X.env)).any (·.1) = false := by rfl)
    (hsw : swapsWith (.Call (.Attribute (.Name x px) "append" apos) [e] [] cpos) none pos.line X.env = pure false := by rfl) :
    CS X W (.Expr (.Call (.Attribute (.Name x px) "append" apos) [e] [] cpos) pos) (sApp2 i f2) := fun Z env σ H O D r q => by
  refine wp_s (ps_expr (pe_bm PySem.F.plainAttrs_list PySem.F.slot_list_append PySem.F.type_list_append mt_append pe_wp (pa_cons pe_wp pa_nil hs) hbase hfew hline hs hplain) hsw) ?_
  unfold sApp2 at q
  cases hf : f2 env with
  | er c fl => rw [hf] at q; exact q.elim
  | no => rw [hf] at q; exact q.elim
  | ok y =>
    obtain ⟨d, e1⟩ := y
    rw [hf] at q
    dsimp only at q
    rcases gvo_cases env i with ⟨ds, hi⟩ | hi
    · rw [hi] at q
      refine own_read r (gvo_ok hi) hN hv hd hcd fun p vs s1 s2 s3 s4 s5 => ⟨.inl ⟨rfl, vs, SqL.of s4⟩, ?_⟩
      refine he.2 Z env σ H O _ d e1 r hf fun v H1 r1 x1 d1 => ?_
      rcases gvo_cases e1 i with ⟨ds1, hi1⟩ | hi1
      · have q1 : SOk X W Z D (ofR (gvo e1 i) e1 fun xs => if xs.length < sizeLine then .nx (e1.set i (some (.own (xs ++ [d])))) else .no) := q
        rw [hi1] at q1
        have q2 : SOk X W Z D (if ds1.length < sizeLine then .nx (e1.set i (some (.own (ds1 ++ [d])))) else .no) := q1
        obtain ⟨u, h1, p1, ws, rfl, hp1, hc1, hH1, hD1⟩ := r1.sl i _ (gvo_ok hi1)
        rw [s1] at h1
        have ep : p = p1 := by injection h1 with h1; injection h1 with h1; injection h1
        subst ep
        by_cases hz : ds1.length < sizeLine
        · rw [if_pos hz] at q2
          exact ⟨p, ws, v, rfl, rfl, hH1, by rw [dpa_len hD1]; exact hz, q2 _ _ _ (r1.mutOwn (gvo_ok hi1) s1 (dpa_app hD1 (.cons d1 .nil)))⟩
        · rw [if_neg hz] at q2
          exact q2.elim
      · have q1 : SOk X W Z D (ofR (gvo e1 i) e1 fun xs => if xs.length < sizeLine then .nx (e1.set i (some (.own (xs ++ [d])))) else .no) := q
        rw [hi1] at q1
        exact q1.elim
    · rw [hi] at q
      exact q.elim
def sFor2 (f : E2) (gg : G) (body : S) : S := fun env => match f env with
  | .ok (d, e1) => ofR (dIter d) e1 fun items => forGo gg body items e1
  | _ => .no
end
end PD
set_option Elab.async false
set_option linter.all false
set_option maxRecDepth 100000
set_option maxHeartbeats 4000000
namespace PD
open PySem PySem.Spec PyProof.Rows L2
/-! ### comprehensions whose items change an own list of the frame -/
section
variable {K : PySem.W.Frag} {Z : Zn} {env : Env} {σ : Sg} {H : Hp} {O : List Addr} {D : Addr} {acc : List V}
variable [Tbs]
/-- no own list of the frame stands at D -/
def NoD (env : Env) (σ : Sg) (D : Addr) : Prop := ∀ (j : Nat) (ds : List PyData), env[j]? = some (some (SV.own ds)) → σ[j]? ≠ some (some (.ref D))
theorem Rep.drop (r : Rep K Z env σ H (D :: O)) (n : NoD env σ D) (hc : D ∉ Z.Oc) : Rep K Z env σ H O := by
  have sub : ∀ a ∈ O, a ∈ D :: O := fun a h => List.mem_cons_of_mem _ h
  have ex1 : Ext (hid (D :: O) H) (hid O H) := Ext.hid_sub sub
  refine ⟨r.ex.trans ex1, fun a h => ?_, r.kp, r.len, fun j s e => ?_, r.nd, fun a h => r.lv a (sub a h), r.tb⟩
  · rcases List.mem_cons.mp (r.sub a h) with z | z
    · exact absurd (z ▸ h) hc
    · exact z
  · obtain ⟨v, h1, h2⟩ := r.sl j s e
    refine ⟨v, h1, ?_⟩
    cases s with
    | fz d => exact ex1.dp h2
    | ob c fs => exact ex1.ob h2
    | own ds =>
      obtain ⟨a, vs, p1, p2, p3, p4, p5⟩ := h2
      rcases List.mem_cons.mp p2 with z | z
      · exact absurd (by rw [h1, p1, z]) (n j ds e)
      · exact ⟨a, vs, p1, z, p3, p4, ex1.dpa p5⟩
end
def comp2Go (g : G) (f : E2) (ws : List Nat) : Env → List PyData → RO (List PyData × Env)
  | env, [] => .ok ([], env)
  | env, x :: xs => g x (wipeE env ws) >>= fun e1 => f e1 >>= fun y => comp2Go g f ws y.2 xs >>= fun z => .ok (y.1 :: z.1, z.2)
def e2Comp (fs : A) (g : G) (f : E2) (ws : List Nat) : E2 := fun env => fs env >>= fun items => if items.length ≤ sizeLine then comp2Go g f ws env items >>= fun z => .ok (.list z.1, wipeE z.2 ws) else .no
section
variable {X : Cx} {W : WX} {tg iter elt : Expr} {scope : Scope} {own : List (Str × Nat)} {pos : Pos} {fs : A} {g : G} {is : List Nat} {f : E2}
variable [Tbs]
end
end PD
set_option Elab.async false
set_option linter.all false
set_option maxRecDepth 100000
set_option maxHeartbeats 4000000
namespace PD
open PySem PySem.Spec PyProof.Rows L2 HT
section
variable {prog : Program} {w : World} {A : Around} {E : Value → Shared → Prop} {s : Shared}
end
section
variable {X : Cx} {W : WX} {e : Expr} {f : E} {es : List Expr} {g : A} {p pos : Pos}
variable [Tbs]
def dRev (d : PyData) : RO PyData := match d with
  | .tuple xs => .ok (.tuple xs.reverse)
  | .list xs => .ok (.list xs.reverse)
  | _ => .no
def eRev (f : E) : E := fun env => f env >>= dRev
end
end PD
set_option Elab.async false
set_option linter.all false
set_option maxRecDepth 100000
set_option maxHeartbeats 4000000
namespace PD
open PySem PySem.Spec PyProof.Rows L2
section
variable {env e1 : PD.Env} {f : E} {f2 : E2} {t : T} {t2 u2 : T2} {g h : S2} {gg : G} {body : S} {d : PyData} {i j m n : Nat} {b : Bool} {fs : A} {ws : List Nat} {xs items : List PyData}
theorem x3_Set2 : s2Set2 j f2 env = of2 (f2 env) fun x => .nx (x.2.set j (some (.fz x.1))) := rfl
theorem x3_If2 : s2If2 t2 g h env = of2 (t2 env) fun x => if x.1 = true then g x.2 else h x.2 := rfl
theorem x3_Ret2 : s2Ret2 f2 env = of2 (f2 env) fun x => .rt x.1 x.2 := rfl
theorem x3_tP : t2P t env = (t env >>= fun b => .ok (b, env)) := rfl
theorem x3_tNt : t2Nt t2 env = (t2 env >>= fun x => .ok (!x.1, x.2)) := rfl
theorem x3_tAn : t2An t2 u2 env = (t2 env >>= fun x => if x.1 = true then u2 x.2 else .ok (false, x.2)) := rfl
theorem x3_tOr : t2Or t2 u2 env = (t2 env >>= fun x => if x.1 = true then .ok (true, x.2) else u2 x.2) := rfl
theorem x3_Tu : e2Tu f2 env = (f2 env >>= fun x => dSeq x.1 >>= fun xs => .ok (.tuple xs, x.2)) := rfl
theorem x3_Comp : e2Comp fs gg f2 ws env = (fs env >>= fun items => if items.length ≤ sizeLine then comp2Go gg f2 ws env items >>= fun z => .ok (.list z.1, wipeE z.2 ws) else .no) := rfl
def for2S (r : RO (PyData × PD.Env)) (gg : G) (body : S) : SO := match r with
  | .ok (d, e1) => ofR (dIter d) e1 fun items => forGo gg body items e1
  | _ => .no
theorem x3_For2 : sFor2 f2 gg body env = for2S (f2 env) gg body := rfl
theorem x3_For2S : for2S (.ok (d, e1)) gg body = ofR (dIter d) e1 fun items => forGo gg body items e1 := rfl
theorem x3_Rev : eRev f env = (f env >>= dRev) := rfl
theorem x3_dRev : dRev (.tuple xs) = .ok (.tuple xs.reverse) := rfl
theorem x3_start2 {l : List PyData} : startI 2 l [] = [some (.own l), none] := rfl
theorem x3_cI1 {F : List PyData → List PyData → RO (PyData × List PyData)} {l : List PyData} : callI 1 F l [] = F l [] := rfl
theorem x3_seqL : dSeq (.list xs) = .ok xs := rfl
theorem x3_seqT : dSeq (.tuple xs) = .ok xs := rfl
end
end PD
set_option Elab.async false
set_option linter.all false
set_option maxRecDepth 100000
set_option maxHeartbeats 4000000
namespace PD
open PySem PySem.Spec PyProof.Rows L2
/-! ### loops in defs that change a list of the caller's; walks whose items come with effects -/
def for2Go (gg : G) (body : S2) : List PyData → Env → SO2
  | [], env => .nx env
  | x :: xs, env => match gg x env with
    | .ok e1 => match body e1 with
      | .nx e => for2Go gg body xs e
      | r => r
    | _ => .no
section
variable {X : Cx} {W : WX} {tg it e a b c : Expr} {es rest : List Expr} {st : Stmt} {sts : List Stmt} {f : E} {f2 fa fb : E2} {t2 : T2} {g : S2} {gg : G} {is : List Nat} {Z : Zn} {env env' : Env} {σ : Sg} {H H' : Hp} {O : List Addr} {D : Ends} {pos p2 : Pos}
variable [Tbs]
abbrev I2 := Env → RO (List PyData × Env)
def CI2 (X : Cx) (tg it : Expr) (f : I2) : Prop := ∀ Z env σ H O R items env', Rep X.K Z env σ H O → f env = .ok (items, env') → (∀ J H', Rep X.K Z env' σ H' O → WalkD X.K O H' J items → R J H') → wpI X tg it σ H R
def i2P (f : A) : I2 := fun env => f env >>= fun items => .ok (items, env)
theorem ci2_pure {f : A} (tk : Takes X W) (h : CI X W tg it f) : CI2 X tg it (i2P f) := fun Z env σ H O R items env' r q k => by
  obtain ⟨x, hx, q⟩ := bind_okE q
  cases q
  refine h Z env σ H O R r ?_
  rw [hx]
  exact fun H1 e1 J wd => k J H1 (r.mono e1) wd
def i2Seq (f : E2) : I2 := fun env => f env >>= fun x => dIter x.1 >>= fun items => .ok (items, x.2)
def i2R1 (f : E2) : I2 := fun env => f env >>= fun x => rng1 x.1 >>= fun items => .ok (items, x.2)
/-! ### such loops -/
theorem SOk2.zone {i : Option Nat} {p : Addr} (r0 : Rep X.K Z env σ H O) : ∀ {r : SO2}, SOk2 X Z D i p r → SOk2 X (zn Z H O) D i p r
  | .nx _, h => fun σ' H' O' r hp => h σ' H' O' (r0.unzone r) hp
  | .rt _ _, h => fun v σ' H' O' r hp d => h v σ' H' O' (r0.unzone r) hp d
  | .rl _ _, h => fun q vs σ' H' O' r hp hq d => h q vs σ' H' O' (r0.unzone r) hp hq d
  | .no, h => h
theorem for_core2 {i : Option Nat} {p : Addr} {J : It} {items : List PyData} (hg : CG X tg is gg) (hpin : ∀ j, i = some j → j ∉ is) (hb : CSs2 X i sts g)
    (r0 : Rep X.K Z env σ H O) (pin : PinA i σ p) (wd : WalkD X.K O H J items) (q : SOk2 X Z D i p (for2Go gg g items env)) :
    ∃ Wv : Nat → Nat → L2.St → Hp → Prop, (∃ m, Wv 0 m σ H) ∧ ∀ k m σ H, Wv k m σ H →
      (J.stop k H ∧ D.nx σ H) ∨ (J.go k H ∧ ∃ N : L2.St → Hp → Prop, (∀ σ' H', N σ' H' → ∃ m', m' < m ∧ Wv (k + 1) m' σ' H') ∧ ∀ x H', J.yld k H x H' → wpG X tg x σ H' fun σ2 H2 => wpSs X sts { D with nx := N, ct := N, bk := D.nx } σ2 H2) := by
  have q0 := q.zone r0
  let Wv : Nat → Nat → L2.St → Hp → Prop := fun k m σ' H' => m = items.length - k ∧ k ≤ items.length ∧ ∃ env' O', Rep X.K (zn Z H O) env' σ' H' O' ∧ PinA i σ' p ∧ SOk2 X (zn Z H O) D i p (for2Go gg g (items.drop k) env')
  refine ⟨Wv, ⟨items.length, by simp, Nat.zero_le _, env, O, r0.zone, pin, by simpa using q0⟩, ?_⟩
  rintro k m σ1 H1 ⟨rfl, hi, env1, O1, r1, pin1, q1⟩
  have ex1 := r0.frz r1
  by_cases hlt : k < items.length
  · have hx : items[k]? = some items[k] := List.getElem?_eq_getElem hlt
    obtain ⟨hgo, hyld⟩ := wd.go k _ O1 H1 hx ex1 r1.lv
    refine .inr ⟨hgo, fun σ' H' => Wv (k + 1) (items.length - (k + 1)) σ' H', fun σ' H' h' => ⟨_, by omega, h'⟩, fun x H2 hy => ?_⟩
    obtain ⟨e2, d2⟩ := hyld x H2 hy
    rw [List.drop_eq_getElem_cons hlt] at q1
    refine hg (zn Z H O) env1 σ1 H2 O1 x _ _ (r1.mono e2) d2 ?_
    have q2 : SOk2 X (zn Z H O) D i p (match gg items[k] env1 with | .ok e1 => (match g e1 with | .nx e => for2Go gg g (items.drop (k + 1)) e | r => r) | _ => .no) := q1
    cases hgd : gg items[k] env1 with
    | ok e1 =>
      rw [hgd] at q2
      refine fun σ2 r2 l2 k2 => ?_
      have pin2 : PinA i σ2 p := by
        cases i with
        | none => trivial
        | some j =>
          have pin1' : σ1[j]? = some (some (.ref p)) := pin1
          show σ2[j]? = some (some (.ref p))
          rw [k2 j (hpin j rfl)]
          exact pin1'
      refine hb (zn Z H O) e1 σ2 H2 O1 _ p r2 pin2 ?_
      have q3 : SOk2 X (zn Z H O) D i p (match g e1 with | .nx e => for2Go gg g (items.drop (k + 1)) e | r => r) := q2
      cases hge : g e1 with
      | nx e => rw [hge] at q3; exact fun σ3 H3 O3 r3 pin3 => ⟨rfl, hlt, e, O3, r3, pin3, q3⟩
      | rt d e => rw [hge] at q3; exact q3
      | rl d e => rw [hge] at q3; exact q3
      | no => rw [hge] at q3; exact q3
    | er _ _ => rw [hgd] at q2; exact q2.elim
    | no => rw [hgd] at q2; exact q2.elim
  · have e0 : k = items.length := by omega
    subst e0
    rw [List.drop_length] at q1
    exact .inl ⟨wd.stop _ O1 H1 rfl ex1, q1 σ1 H1 O1 r1 pin1⟩
def s2For (fi : I2) (gg : G) (body : S2) : S2 := fun env => of2 (fi env) fun x => for2Go gg body x.1 x.2
theorem cs2_for {i : Option Nat} {fi : I2} (hp : PassesOwn (model X.prog X.w) X.A X.env X.xe) (hc : X.calm = true) (hi : CI2 X tg it fi) (hg : CG X tg is gg) (hpin : ∀ j, i = some j → j ∉ is) (hb : CSs2 X i sts g)
    (hs : ∀ x, foldedSetIterable it X.env x = pure x := by intro _; rfl) : CS2 X i (.For tg it sts [] pos) (s2For fi gg g) := fun Z env σ H O D p r hpn q => by
  refine wp_s (ps_for hp hc pi_wp pg_wp pss_wp hs) ?_
  obtain ⟨x, hx, q⟩ := of2_ok q
  exact hi Z env σ H O _ x.1 x.2 r hx fun J H1 r1 wd => for_core2 hg hpin hb r1 hpn wd q
/-- the same where the frame is nobody's -/
def sForX (fi : I2) (gg : G) (body : S) : S := fun env => match fi env with
  | .ok (items, e1) => forGo gg body items e1
  | _ => .no
/-! ### own lists of such frames -/
def s2SetL (j : Nat) (fl : A) : S2 := fun env => of2 (fl env) fun ds => .nx (env.set j (some (.own ds)))
theorem cs2_setL {i : Option Nat} {j : Nat} {x : Str} {pos' : Pos} {fl : A} (tk : Takes X W) (hN : X.N.Nodup) (hi : X.N[j]? = some x) (hx : Loc X.env.scope x) (he : CL X W e fl) (hne : i ≠ some j) (hs : swapsWith e (some (.Name x pos')) pos.line X.env = pure false := by rfl) (hf : X.fn x = true ∨ X.env.scope.names.lookup x = some .local := by first | exact .inl rfl | exact .inr rfl | assumption) :
    CS2 X i (.Assign [.Name x pos'] e pos) (s2SetL j fl) := fun Z env σ H O D p r hp q => by
  refine wp_s (ps_set hN hi hx pe_wp hs hf) ?_
  obtain ⟨ds, hd, q⟩ := of2_ok q
  refine he.ok2 r hd fun v vs H1 e1 hq d1 r1 => q _ _ _ (r1.setOwn j hq d1) ?_
  cases i with
  | none => trivial
  | some i =>
    have n : j ≠ i := fun z => hne (by rw [z])
    have hp' : σ[i]? = some (some (.ref p)) := hp
    show (σ.set j (some (.ref v)))[i]? = some (some (.ref p))
    rw [List.getElem?_set_ne n]
    exact hp'
def s2App2 (j : Nat) (f : E2) : S2 := fun env => of2 (gvo env j) fun _ => of2 (f env) fun x => of2 (gvo x.2 j) fun xs => if xs.length < sizeLine then .nx (x.2.set j (some (.own (xs ++ [x.1])))) else .no
theorem cs2_app2 {i : Option Nat} {j : Nat} {x : Str} {px apos cpos : Pos} (hN : X.N[j]? = some x) (hv : Vis X.env.scope x) (hd : (x == ("__debug__" : Str)) = false) (hcd : (x == ("__classdict__" : Str)) = false) (he : CE2 X e f2)
    (hbase : attributeBase (.Name x px) "append" X.env (eval (.Name x px) X.env) = eval (.Name x px) X.env := by rfl)
    (hfew : ((backTo cpos (starEach [e] X.env)).all (fun x => !x.1) && (backToKw cpos (keywordEach [] X.env)).all (fun x => x.1.isSome) && decide (([e] : List Expr).length + ([] : List Keyword).length + (if ([] : List Keyword).isEmpty then 0 else 1) < 30)) = true := by rfl)
    (hline : (apos.endLine == cpos.line) = true := by rfl) (hs : starEach [e] X.env = (false, eval e X.env) :: starEach [] X.env := by rfl) (hplain : (backTo cpos (starEach [] X.env)).any (·.1) = false := by rfl)
    (hsw : swapsWith (.Call (.Attribute (.Name x px) "append" apos) [e] [] cpos) none pos.line X.env = pure false := by rfl) :
    CS2 X i (.Expr (.Call (.Attribute (.Name x px) "append" apos) [e] [] cpos) pos) (s2App2 j f2) := fun Z env σ H O D p r hp q => by
  refine wp_s (ps_expr (pe_bm PySem.F.plainAttrs_list PySem.F.slot_list_append PySem.F.type_list_append mt_append pe_wp (pa_cons pe_wp pa_nil hs) hbase hfew hline hs hplain) hsw) ?_
  obtain ⟨ds, hi, q⟩ := of2_ok q
  obtain ⟨y, hy, q⟩ := of2_ok q
  obtain ⟨ds1, hi1, q⟩ := of2_ok q
  refine own_read r (gvo_ok hi) hN hv hd hcd fun p0 vs s1 s2 s3 s4 s5 => ⟨.inl ⟨rfl, vs, SqL.of s4⟩, ?_⟩
  refine he.2 Z env σ H O _ y.1 y.2 r hy fun v H1 r1 x1 d1 => ?_
  obtain ⟨u, h1, p1, ws, rfl, hp1, hc1, hH1, hD1⟩ := r1.sl j _ (gvo_ok hi1)
  rw [s1] at h1
  have ep : p0 = p1 := by injection h1 with h1; injection h1 with h1; injection h1
  subst ep
  by_cases hz : ds1.length < sizeLine
  · rw [if_pos hz] at q
    exact ⟨p0, ws, v, rfl, rfl, hH1, by rw [dpa_len hD1]; exact hz, q _ _ _ (r1.mutOwn (gvo_ok hi1) s1 (dpa_app hD1 (.cons d1 .nil))) hp⟩
  · rw [if_neg hz] at q
    exact q.elim
/-! ### a and b, as a value -/
def e2An (fa fb : E2) : E2 := fun env => fa env >>= fun x => tb x.1 >>= fun k => if k = true then fb x.2 else .ok (.bool false, x.2)
def e2Cm (bi : PyData → PyData → Option PyData) (fa fb : E2) : E2 := fun env => fa env >>= fun x => fb x.2 >>= fun y => ofO (bi x.1 y.1) >>= fun d => .ok (d, y.2)
/-- a statement that is never reached -/
theorem cs_never : CS X W st sNo := fun Z env σ H O D r q => q.elim
end
end PD
set_option Elab.async false
set_option linter.all false
set_option maxRecDepth 100000
set_option maxHeartbeats 4000000
namespace PD
open PySem PySem.Spec PyProof.Rows L2
/-! ### chains of two comparisons -/
def eChain (bi bi' : PyData → PyData → Option PyData) (fa fb fc : E) : E := fun env => fa env >>= fun x => fb env >>= fun y => ofO (bi x y) >>= fun d => tb d >>= fun k => if k = true then (fc env >>= fun z => ofO (bi' y z)) else .ok (.bool false)
section
variable {X : Cx} {W : WX} {e a b c : Expr} {f fa fb fc : E} {pos : Pos} [Tbs]
theorem ce_chain {op op' : CmpOp} {bi bi' : PyData → PyData → Option PyData} (ho : BinB X (compareOp op) bi) (ho' : BinB X (compareOp op') bi') (ha : CB X W a fa) (hb : CB X W b fb) (hc : CB X W c fc)
    (hm : lastMarks [op, op'] [b, c] = false := by with_unfolding_all rfl) : CE X W (.Compare a [op, op'] [b, c] pos) (eChain bi bi' fa fb fc) := fun Z env σ H O Q r q => by
  let R : R2 := fun vx vy H Q => ∃ (r : R2), OpR X (compareOp op) r ∧ r vx vy H Q
  have hR : OpR X (compareOp op) R := fun pins s σ H x y v u Q I rx ry ⟨r, h1, h2⟩ => h1 pins s σ H x y v u Q I rx ry h2
  let R' : R2 := fun vx vy H Q => ∃ (r : R2), OpR X (compareOp op') r ∧ r vx vy H Q
  have hR' : OpR X (compareOp op') R' := fun pins s σ H x y v u Q I rx ry ⟨r, h1, h2⟩ => h1 pins s σ H x y v u Q I rx ry h2
  refine wp_e (pe_chain hR hR' pe_wp pe_wp pe_wp hm) ?_
  refine ha.go r q fun dx vx H1 e1 d1 r1 q1 => ?_
  refine hb.go r1 q1 fun dy vy H2 e2 d2 r2 q2 => ?_
  cases e : bi dx dy with
  | none => rw [e] at q2; exact q2.elim
  | some d =>
    rw [e] at q2
    obtain ⟨rr, h1, h2⟩ := ho dx dy d e
    refine ⟨rr, h1, h2 H2 vx vy _ (e2.dp (Ext.unhid.dp d1)) (Ext.unhid.dp d2) fun v hv => ?_⟩
    cases d with
    | bool k =>
      have := dp_bool (hv H2)
      subst this
      refine ⟨k, rfl, ?_⟩
      cases k with
      | false => exact ROk.here q2 _ (.bl _)
      | true =>
        refine hc.go r2 q2 fun dz vz H3 e3 d3 r3 q3 => ?_
        cases e' : bi' dy dz with
        | none => rw [e'] at q3; exact q3.elim
        | some d' =>
          rw [e'] at q3
          obtain ⟨rr', g1, g2⟩ := ho' dy dz d' e'
          exact ⟨rr', g1, g2 H3 vy vz Q (e3.dp (Ext.unhid.dp d2)) (Ext.unhid.dp d3) fun v hv => q3.here v (hv _)⟩
    | _ => exact q2.elim
def tChn (bi bi' : PyData → PyData → Option PyData) (fa fb fc : E) : T := fun env => fa env >>= fun x => fb env >>= fun y => ofO (bi x y) >>= fun d => tb d >>= fun k => if k = true then (fc env >>= fun z => ofO (bi' y z) >>= tb) else .ok false
end
end PD
set_option Elab.async false
set_option linter.all false
set_option maxRecDepth 100000
set_option maxHeartbeats 4000000
namespace PD
open PySem PySem.Spec PyProof.Rows L2
section
variable {env e1 : PD.Env} {f fa fb fc : E} {f2 a2 b2 : E2} {g h : S2} {gg : G} {body : S} {i2 : I2} {fl fs : A} {d a b c : PyData} {i j m n : Nat} {xs items l : List PyData} {bi bi' : PyData → PyData → Option PyData} {F : List PyData → List PyData → RO (PyData × List PyData)}
theorem x4_For : s2For i2 gg g env = of2 (i2 env) fun x => for2Go gg g x.1 x.2 := rfl
theorem x4_iP : i2P fs env = (fs env >>= fun items => .ok (items, env)) := rfl
theorem x4_iR : i2R1 f2 env = (f2 env >>= fun x => rng1 x.1 >>= fun items => .ok (items, x.2)) := rfl
theorem x4_iS : i2Seq f2 env = (f2 env >>= fun x => dIter x.1 >>= fun items => .ok (items, x.2)) := rfl
def forXS (r : RO (List PyData × PD.Env)) (gg : G) (body : S) : SO := match r with
  | .ok (items, e1) => forGo gg body items e1
  | _ => .no
theorem x4_ForX : sForX i2 gg body env = forXS (i2 env) gg body := rfl
theorem x4_ForXS : forXS (.ok (items, e1)) gg body = forGo gg body items e1 := rfl
theorem x4_SetL : s2SetL j fl env = of2 (fl env) fun ds => .nx (env.set j (some (.own ds))) := rfl
theorem x4_App : s2App2 j f2 env = of2 (gvo env j) fun _ => of2 (f2 env) fun x => of2 (gvo x.2 j) fun xs => if xs.length < sizeLine then .nx (x.2.set j (some (.own (xs ++ [x.1])))) else .no := rfl
theorem x4_An : e2An a2 b2 env = (a2 env >>= fun x => tb x.1 >>= fun k => if k = true then b2 x.2 else .ok (.bool false, x.2)) := rfl
theorem x4_Cm : e2Cm bi a2 b2 env = (a2 env >>= fun x => b2 x.2 >>= fun y => ofO (bi x.1 y.1) >>= fun d => .ok (d, y.2)) := rfl
theorem x4_Ch : eChain bi bi' fa fb fc env = (fa env >>= fun x => fb env >>= fun y => ofO (bi x y) >>= fun d => tb d >>= fun k => if k = true then (fc env >>= fun z => ofO (bi' y z)) else .ok (.bool false)) := rfl
theorem x4_tCh : tChn bi bi' fa fb fc env = (fa env >>= fun x => fb env >>= fun y => ofO (bi x y) >>= fun d => tb d >>= fun k => if k = true then (fc env >>= fun z => ofO (bi' y z) >>= tb) else .ok false) := rfl
theorem x4_cI3 : callI 3 F l [a, b] = F l [a, b] := rfl
theorem x4_cI4 : callI 4 F l [a, b, c] = F l [a, b, c] := rfl
def app2S (r : RO (PyData × PD.Env)) (env : PD.Env) (i : Nat) : SO := match r with
  | .ok (d, e1) => ofR (gvo env i) env fun _ => ofR (gvo e1 i) e1 fun xs => if xs.length < sizeLine then .nx (e1.set i (some (.own (xs ++ [d])))) else .no
  | _ => .no
theorem x4_App2 : sApp2 i f2 env = app2S (f2 env) env i := rfl
theorem x4_App2S : app2S (.ok (d, e1)) env i = (ofR (gvo env i) env fun _ => ofR (gvo e1 i) e1 fun xs => if xs.length < sizeLine then .nx (e1.set i (some (.own (xs ++ [d])))) else .no) := rfl
end
/-- a loop's invariant over the items before -/
theorem for2_pre {β : Type} {gg : G} {body : S2} (f : β → PyData) (I : List β → PD.Env → Prop) : ∀ (xs pre : List β) (env : PD.Env), (∀ p x q env, pre ++ xs = p ++ x :: q → I p env → ∃ e1 e2, gg (f x) env = .ok e1 ∧ body e1 = .nx e2 ∧ I (p ++ [x]) e2) → I pre env →
    ∃ env', for2Go gg body (xs.map f) env = .nx env' ∧ I (pre ++ xs) env'
  | [], pre, env, _, h0 => ⟨env, rfl, by rw [List.append_nil]; exact h0⟩
  | x :: xs, pre, env, h, h0 => by
    obtain ⟨e1, e2, h1, h2, h3⟩ := h pre x xs env rfl h0
    obtain ⟨env', h4, h5⟩ := for2_pre f I xs (pre ++ [x]) e2 (fun p y q env hp hi => h p y q env (by rw [← hp, List.append_assoc]; rfl) hi) h3
    refine ⟨env', ?_, by rw [List.append_assoc] at h5; exact h5⟩
    rw [← h4]
    show (match gg (f x) env with
      | .ok e1 => (match body e1 with
        | .nx e => for2Go gg body (xs.map f) e
        | r => r)
      | _ => .no) = _
    rw [h1]
    show (match body e1 with
        | .nx e => for2Go gg body (xs.map f) e
        | r => r) = _
    rw [h2]
end PD
set_option Elab.async false
set_option linter.all false
set_option maxRecDepth 100000
set_option maxHeartbeats 4000000
namespace PySem.W
open PySem PySem.Spec PySem.Calls PyProof.Rows
section
variable {prog : Program} {w : World} {A : Around} {E : Value → Shared → Prop} {s : Shared} {K : Frag} {x D : Addr} {ox : Obj} {od : Option Obj}
end
end PySem.W
namespace PD
open PySem PySem.Spec PyProof.Rows L2
section
variable {X : Cx} {i : Nat} {a D : Addr} {oe : Obj} {pn : List (Addr × Obj)} {cls : Value} {od : Option Addr} {n x : Str} {pos p p1 p2 : Pos} {C : Addr} {b : Bool} {c0 : Str}
variable [Tbs]
end
end PD
set_option Elab.async false
set_option linter.all false
set_option maxRecDepth 100000
set_option maxHeartbeats 4000000
namespace L2
open PySem PySem.Spec PyProof.Rows
/-! ### several except clauses, with and without a name -/
abbrev ClX1 := Value × Option Nat × (Addr → Value → Option Addr → TS)
def Dset (i : Nat) (D : Ends) : Ends := { nx := fun σ' H' => D.nx (σ'.set i none) H', rt := D.rt, bk := fun σ' H' => D.bk (σ'.set i none) H', ct := fun σ' H' => D.ct (σ'.set i none) H' }
def wList (K : PySem.W.Frag) (Wout : WX) (D : Ends) : List ClX1 → WX
  | [] => Wout
  | (c, none, ts) :: r => fun cls d σ H => ∃ b, PySem.W.exmOne K cls c = some b ∧ (b = true → ∀ a, H a = none → ts a cls d D σ H) ∧ (b = false → wList K Wout D r cls d σ H)
  | (c, some i, ts) :: r => fun cls d σ H => ∃ b, PySem.W.exmOne K cls c = some b ∧ (b = true → ∀ a, H a = none → ts a cls d (Dset i D) (σ.set i (some (.ref a))) H) ∧ (b = false → wList K Wout D r cls d σ H)
inductive HdL (X : Cx) : List ExceptHandler → List ClX1 → Prop
  | nil : HdL X [] []
  | plain {x : Str} {c : Value} {ts : Addr → Value → Option Addr → TS} {b₀ : Stmt} {suite : List Stmt} {np pos' : Pos} {hds : List ExceptHandler} {l : List ClX1} (hc : Names X x c)
      (hsu : ∀ (a : Addr) (oe : Obj) (cls : Value) (d : Option Addr) (pn : List (Addr × Obj)), Zc cls d oe → (∃ vs, oe.data = .fields vs) → PSs (X.suite a ((a, oe) :: pn)) (b₀ :: suite) (ts a cls d)) (r : HdL X hds l) :
      HdL X (.ExceptHandler (some (.Name x np)) none (b₀ :: suite) pos' :: hds) ((c, none, ts) :: l)
  | named {x n : Str} {i : Nat} {c : Value} {ts : Addr → Value → Option Addr → TS} {b₀ : Stmt} {suite : List Stmt} {np pos' : Pos} {hds : List ExceptHandler} {l : List ClX1} (hi : X.N[i]? = some n) (hln : X.env.kindOf n = some .local) (hc : Names X x c)
      (hsu : ∀ (a : Addr) (oe : Obj) (cls : Value) (d : Option Addr) (pn : List (Addr × Obj)), Zc cls d oe → (∃ vs, oe.data = .fields vs) → PSs (X.suite a ((a, oe) :: pn)) (b₀ :: suite) (ts a cls d)) (r : HdL X hds l) :
      HdL X (.ExceptHandler (some (.Name x np)) (some n) (b₀ :: suite) pos' :: hds) ((c, some i, ts) :: l)
section
variable {X : Cx} {body : List Stmt} {h₀ : ExceptHandler} {hds : List ExceptHandler} {l : List ClX1} {pos : Pos} {tb : WX → TS} {Wout : WX}
end
end L2
set_option Elab.async false
set_option linter.all false
set_option maxRecDepth 100000
set_option maxHeartbeats 4000000
namespace PD
open PySem PySem.Spec PyProof.Rows L2
/-! ### try with several clauses -/
abbrev Hd1 := Option Nat × (Str → Option Bool) × Ex
/-- what the clauses make of an error -/
def hdGo (e1 : Env) (c : Str) (fl : Flds) : List Hd1 → SO
  | [] => .er e1 c fl
  | (none, mtc, fx) :: r => match mtc c with
    | some true => (match fx c fl e1 with | .ok d => .rt d | _ => .no)
    | some false => hdGo e1 c fl r
    | none => .no
  | (some i, mtc, fx) :: r => match mtc c with
    | some true => if i < e1.length then (match fx c fl (e1.set i none) with | .ok d => .rt d | _ => .no) else .no
    | some false => hdGo e1 c fl r
    | none => .no
abbrev tsOf (X : Cx) (e : Expr) (rpos : Pos) : Addr → Value → Option Addr → TS := fun a cls d D σ H => ∀ oe pn, Zc cls d oe → (∃ vs, oe.data = .fields vs) → wpSs (X.suite a ((a, oe) :: pn)) [.Return (some e) rpos] D σ H
inductive HdC [Tbs] (X : Cx) : List ExceptHandler → List Hd1 → Prop
  | nil : HdC X [] []
  | plain {x : Str} {cV : Value} {mtc : Str → Option Bool} {f : E} {e : Expr} {np pos' rpos : Pos} {hds : List ExceptHandler} {l : List Hd1} (hc : Names X x cV)
      (hsu : ∀ (a : Addr) (oe : Obj) (cls : Value) (d : Option Addr) (pn : List (Addr × Obj)), Zc cls d oe → (∃ vs, oe.data = .fields vs) → CE (X.suite a ((a, oe) :: pn)) WN e f)
      (hm : ∀ c b, mtc c = some b → ∀ C, X.mg c = some C → PySem.W.exmOne X.K C cV = some b) (r : HdC X hds l) :
      HdC X (.ExceptHandler (some (.Name x np)) none [.Return (some e) rpos] pos' :: hds) ((none, mtc, fun _ _ => f) :: l)
  | named {x n : Str} {i : Nat} {cV : Value} {mtc : Str → Option Bool} {fx : Ex} {e : Expr} {np pos' rpos : Pos} {hds : List ExceptHandler} {l : List Hd1} (hi : X.N[i]? = some n) (hln : X.env.kindOf n = some .local) (hc : Names X x cV)
      (hsu : ∀ (a : Addr) (oe : Obj) (cls : Value) (d : Option Addr) (pn : List (Addr × Obj)), Zc cls d oe → (∃ vs, oe.data = .fields vs) → CEx (X.suite a ((a, oe) :: pn)) i a cls d e fx)
      (hm : ∀ c b, mtc c = some b → ∀ C, X.mg c = some C → PySem.W.exmOne X.K C cV = some b) (r : HdC X hds l) :
      HdC X (.ExceptHandler (some (.Name x np)) (some n) [.Return (some e) rpos] pos' :: hds) ((some i, mtc, fx) :: l)
section
variable {X : Cx} {W : WX} {body : List Stmt} {h₀ : ExceptHandler} {hds : List ExceptHandler} {l : List Hd1} {pos : Pos} {g : S}
variable [Tbs]
theorem HdC.list {hds : List ExceptHandler} {l : List Hd1} (h : HdC X hds l) : ∃ l' : List ClX1, HdL X hds l' ∧ ∀ (Z : Zn) (D : Ends) (e1 : Env) (σ : Sg) (H : Hp) (O : List Addr) (c : Str) (fl : Flds) (C : Value) (od : Option Addr), Rep X.K Z e1 σ H O → ExR X.mg X.K (hid O H) c fl C od →
    SOk X W Z D (hdGo e1 c fl l) → wList X.K W D l' C od σ H := by
  induction h with
  | nil => exact ⟨[], .nil, fun Z D e1 σ H O c fl C od r x q => q C od σ H O r x⟩
  | @plain x cV mtc f e np pos' rpos hds l hc hsu hm r ih =>
    obtain ⟨l', h1, h2⟩ := ih
    refine ⟨(cV, none, tsOf X e rpos) :: l', .plain hc (fun a oe cls d pn z1 z2 => ⟨fun pins s _ _ _ I h => h oe pn z1 z2 pins s I⟩) h1, fun Z D e1 σ H O c fl C od r x1 q => ?_⟩
    cases hmt : mtc c with
    | none =>
      have q' : SOk X W Z D (match mtc c with | some true => (match f e1 with | .ok d => .rt d | _ => .no) | some false => hdGo e1 c fl l | none => .no) := q
      rw [hmt] at q'; exact q'.elim
    | some b =>
      have q' : SOk X W Z D (match mtc c with | some true => (match f e1 with | .ok d => .rt d | _ => .no) | some false => hdGo e1 c fl l | none => .no) := q
      rw [hmt] at q'
      refine ⟨b, hm c b hmt C x1.1, fun eb a na oe pn' hz hff => ?_, fun eb => ?_⟩
      · subst eb
        refine wp_ss (pss_one (ps_ret pe_wp)) ?_
        refine hsu a oe C od pn' hz hff Z e1 σ H O _ r ?_
        have q2 : SOk X W Z D (match f e1 with | .ok d => .rt d | _ => .no) := q'
        cases hfx : f e1 with
        | ok d => rw [hfx] at q2; exact fun H2 e2 v hv => q2 v H2 (r.whole.trans e2) ((Ext.hid_sub r.sub).dp hv)
        | er _ _ => rw [hfx] at q2; exact q2.elim
        | no => rw [hfx] at q2; exact q2.elim
      · subst eb
        exact h2 Z D e1 σ H O c fl C od r x1 q'
  | @named x n i cV mtc fx e np pos' rpos hds l hi hln hc hsu hm r ih =>
    obtain ⟨l', h1, h2⟩ := ih
    refine ⟨(cV, some i, tsOf X e rpos) :: l', .named hi hln hc (fun a oe cls d pn z1 z2 => ⟨fun pins s _ _ _ I h => h oe pn z1 z2 pins s I⟩) h1, fun Z D e1 σ H O c fl C od r x1 q => ?_⟩
    cases hmt : mtc c with
    | none =>
      have q' : SOk X W Z D (match mtc c with | some true => if i < e1.length then (match fx c fl (e1.set i none) with | .ok d => .rt d | _ => .no) else .no | some false => hdGo e1 c fl l | none => .no) := q
      rw [hmt] at q'; exact q'.elim
    | some b =>
      have q' : SOk X W Z D (match mtc c with | some true => if i < e1.length then (match fx c fl (e1.set i none) with | .ok d => .rt d | _ => .no) else .no | some false => hdGo e1 c fl l | none => .no) := q
      rw [hmt] at q'
      refine ⟨b, hm c b hmt C x1.1, fun eb a na oe pn' hz hff => ?_, fun eb => ?_⟩
      · subst eb
        have q2 : SOk X W Z D (if i < e1.length then (match fx c fl (e1.set i none) with | .ok d => .rt d | _ => .no) else .no) := q'
        by_cases hl : i < e1.length
        · rw [if_pos hl] at q2
          refine wp_ss (pss_one (ps_ret pe_wp)) ?_
          have r2 := r.setNone i (some (.ref a))
          refine hsu a oe C od pn' hz hff Z _ _ H O _ c fl r2 (List.getElem?_set_self (by rw [← r.len]; exact hl)) x1 ?_
          cases hfx : fx c fl (e1.set i none) with
          | ok d => rw [hfx] at q2; exact fun H2 e2 v hv => q2 v H2 (r.whole.trans e2) ((Ext.hid_sub r.sub).dp hv)
          | er _ _ => rw [hfx] at q2; exact q2.elim
          | no => rw [hfx] at q2; exact q2.elim
        · rw [if_neg hl] at q2
          exact q2.elim
      · subst eb
        exact h2 Z D e1 σ H O c fl C od r x1 q'
end
end PD
set_option Elab.async false
set_option linter.all false
set_option maxRecDepth 100000
set_option maxHeartbeats 4000000
namespace PD
open PySem PySem.Spec PyProof.Rows L2
section
variable {X : Cx} {i : Nat} {a : Addr} {cls : Value} {od : Option Addr} {e e1 e2 : Expr} {es rest : List Expr} {f : E} {fa fb : Ex} {ga : Str → Flds → Env → RO (List PyData)} {pos p : Pos} {x : Str} {T : String} {bi : List PyData → Option PyData}
variable [Tbs]
end
section
variable {X : Cx} {i : Option Nat} {st : Stmt} {g : S2}
variable [Tbs]
def frz2 (j : Nat) : S2 → S2 := fun s env => match env[j]? with
  | some (some (.own ds)) => s (env.set j (some (.fz (.list ds))))
  | _ => .no
theorem cs2_frz (j : Nat) (h : CS2 X i st g) : CS2 X i st (frz2 j g) := fun Z env σ H O D p r hp q => by
  unfold frz2 at q
  split at q
  · rename_i ds he
    obtain ⟨O', r', _⟩ := r.freeze he
    exact h Z _ σ H O' D p r' hp q
  · exact q.elim
end
end PD
set_option Elab.async false
set_option linter.all false
set_option maxRecDepth 100000
set_option maxHeartbeats 4000000
namespace PD
open PySem PySem.Spec PyProof.Rows L2
section
variable {X : Cx} {e : Expr} {f2 : E2} {pos : Pos}
variable [Tbs]
end
end PD
set_option Elab.async false
set_option linter.all false
set_option maxRecDepth 100000
set_option maxHeartbeats 4000000
namespace PD
open PySem PySem.Spec PyProof.Rows L2
/-! ### range(a, b, c) -/
section
variable {X : Cx} {W : WX} {tg a b c e elt : Expr} {ifs : List Expr} {scope : Scope} {own : List (Str × Nat)} {ga : A} {f : E} {g : G} {t : T} {is : List Nat} {p p1 p2 p3 p4 p5 p6 p7 pos : Pos} {Z : Zn} {env : Env} {σ : Sg} {H : Hp} {O : List Addr} {Q : VK}
variable [Tbs]
end
end PD
set_option Elab.async false
set_option linter.all false
set_option maxRecDepth 100000
set_option maxHeartbeats 4000000
namespace PD
open PySem PySem.Spec PyProof.Rows L2
/-! ### a call as a statement, its arguments with effects; it may raise -/
section
variable [Tbs] {X : Cx} {W : WX} {k kk n : Nat} {x : Str} {p pos pos2 : Pos} {e : Expr} {es : List Expr} {ga : A2}
end
section
variable {n : Nat} {F : List PyData → RO PyData} {ga : A2} {env e1 : Env} {ds : List PyData}
end
section
variable {f2 : E2} {env : Env}
end
end PD
set_option Elab.async false
set_option linter.all false
set_option maxRecDepth 100000
set_option maxHeartbeats 4000000
namespace PD
open PySem PySem.Spec PyProof.Rows L2
/-! ### repr of a tuple, where no repr is under way -/
def shows (d : PyData) : Bool :=
  isDisplay d && d.showable && !d.hasDict && decide (d.depth ≤ 40) && decide (d.shown.length ≤ sizeLine)
structure ShowsD (d : PyData) : Prop where
  disp : isDisplay d = true
  can : d.showable = true
  nod : d.hasDict = false
  deep : d.depth ≤ 40
  len : d.shown.length ≤ sizeLine
section
variable {X : Cx} {W : WX} {e : Expr} {es : List Expr} {g : A} {pos p : Pos}
variable [Tbs]
end
/-! ### a def at the caller's own frame -/
def TopOk (P : Program) (w : World) (K : PySem.W.Frag) (mg : Str → Option Value) (base : Heap) (f : Addr) (fd : FuncData) (ps : List Str) (sp : Sp) : Prop :=
  ∀ (s : Shared) (H : Hp) (args : Args) (us : List Value) (vs : List V) (Q : VK) (E : XK),
    Env0 P w K mg base callerA [] s H → BindsTo s fd args (ps.zip us) → Vals vs us → sp vs H Q E →
    codeAny (model P w) callerA (.call (.ref f) args) (CR (L2.CX P w) [] P w H s Q E) s
theorem TopOk.imp {P : Program} {w : World} {K : PySem.W.Frag} {mg : Str → Option Value} {base : Heap} {f : Addr} {fd : FuncData} {ps : List Str} {sp sp' : Sp}
    (T : TopOk P w K mg base f fd ps sp) (h : ∀ vs H Q E, sp' vs H Q E → sp vs H Q E) : TopOk P w K mg base f fd ps sp' :=
  fun s H args us vs Q E e0 hb hv q => T s H args us vs Q E e0 hb hv (h vs H Q E q)
section
variable [Tbs] {P : Program} {w : World} {K : PySem.W.Frag} {mg : Str → Option Value} {base : Heap}
end
end PD
set_option Elab.async false
set_option linter.all false
set_option maxRecDepth 100000
set_option maxHeartbeats 4000000
namespace PD
open PySem PySem.Spec PyProof.Rows L2
/-! ### the end, where the law's own def is read at the caller's frame -/
section
variable {T : List Addr} {free : Bool} {a b : Addr} {o : Obj} {xs : List V}
end
end PD
set_option Elab.async false
set_option linter.all false
set_option maxRecDepth 100000
set_option maxHeartbeats 4000000
namespace PD
open PySem PySem.Spec PyProof.Rows L2
section
variable {X : Cx} {i : Nat} {a : Addr} {cls : Value} {od : Option Addr} {c1 c2 e1 e2 : Expr} {f1 f2 fa fb : Ex} {pos p p2 : Pos}
variable [Tbs]
end
end PD
set_option Elab.async false
set_option linter.all false
set_option maxRecDepth 100000
set_option maxHeartbeats 4000000
namespace PD
open PySem PySem.Spec PyProof.Rows L2
/-! ### sum and max of a list of ints -/
section
variable {X : Cx} {W : WX} {e : Expr} {es : List Expr} {g : A} {pos p : Pos}
variable [Tbs]
end
end PD
set_option Elab.async false
set_option linter.all false
set_option maxRecDepth 100000
set_option maxHeartbeats 4000000
namespace PD
open PySem PySem.Spec PyProof.Rows L2
/-! ### xs.extend(ys), ys a list or a tuple that is kept -/
section
variable (l b : Addr) (xs ys : Array Value) (n m : Nat) (dd : Option Addr) (sl : Array (Option Value))
end
section
variable {X : Cx}
end
section
variable {X : Cx} {W : WX} {i : Nat} {x : Str} {px apos cpos pos : Pos} {e : Expr} {f : E}
variable [Tbs]
end
end PD
set_option Elab.async false
set_option linter.all false
set_option maxRecDepth 100000
set_option maxHeartbeats 4000000
namespace PD
open PySem PySem.Spec PyProof.Rows L2
/-! ### list(zip(a, b)) of two tuples -/
section
variable {prog : Program} {w : World} {A : Around} {E : Value → Shared → Prop} {s : Shared}
/-- the zip and its parts after i turns, S the list that takes its tuples -/
structure LzSt (z TI TO i1 i2 l1 l2 S : Addr) (xs ys : Array Value) (i : Nat) (h : Heap) : Prop where
  ti : IsPair h TI (.ref i1) (.ref i2)
  a1 : h.IsTupleIter i1 l1 i
  a2 : h.IsTupleIter i2 l2 i
  t1 : h.IsTuple l1 xs
  t2 : h.IsTuple l2 ys
  zz : (IsZip h z TI TO .none ∧ ∃ a b, IsPair h TO a b) ∨ ∃ T f oT, IsZipHeld h z TI TO T f ∧ h.get? T = some oT ∧ T ≠ z ∧ T ≠ i1 ∧ T ≠ i2 ∧ T ≠ S
/-- S lies apart from what the zip reads -/
structure LzApart (z TI TO i1 i2 l1 l2 S : Addr) : Prop where
  d : ZipApart z TI TO i1 i2 l1 l2
  sz : z < S
  sTI : TI < S
  sTO : TO < S
  s1 : i1 < S
  s2 : i2 < S
  sl1 : l1 < S
  sl2 : l2 < S
section
variable {z TI TO i1 i2 l1 l2 S : Addr} {xs ys : Array Value} {i : Nat}
theorem LzSt.keep {h h' : Heap} (D : LzApart z TI TO i1 i2 l1 l2 S) (st : LzSt z TI TO i1 i2 l1 l2 S xs ys i h) (k : ∀ b o, b ≠ S → h.get? b = some o → h'.get? b = some o) : LzSt z TI TO i1 i2 l1 l2 S xs ys i h' where
  ti := k _ _ (Nat.ne_of_lt D.sTI) st.ti
  a1 := st.a1.at fun o e => k _ o (Nat.ne_of_lt D.s1) e
  a2 := st.a2.at fun o e => k _ o (Nat.ne_of_lt D.s2) e
  t1 := st.t1.at fun o e => k _ o (Nat.ne_of_lt D.sl1) e
  t2 := st.t2.at fun o e => k _ o (Nat.ne_of_lt D.sl2) e
  zz := by
    rcases st.zz with ⟨hz, a, b, hTO⟩ | ⟨T, f, oT, hz, hT, r1, r2, r3, r4⟩
    · exact .inl ⟨k _ _ (Nat.ne_of_lt D.sz) hz, a, b, k _ _ (Nat.ne_of_lt D.sTO) hTO⟩
    · exact .inr ⟨T, f, oT, k _ _ (Nat.ne_of_lt D.sz) hz, k _ _ r4 hT, r1, r2, r3, r4⟩
end
/-- the tuples made so far, all above S -/
structure LzG (xs ys : Array Value) (S : Addr) (h : Heap) (as : List Addr) : Prop where
  rise : as.Pairwise (· < ·)
  above : ∀ a ∈ as, S < a
  there : ∀ a ∈ as, a < h.objs.size
  pairs : ∀ (j : Nat) a, as[j]? = some a → ∃ x y, xs[j]? = some x ∧ ys[j]? = some y ∧ IsPair h a x y
end
/-! ### the same in the layer -/
section
variable {X : Cx}
variable {e e2 : Expr} {ta : TA} {p pz zpos pos : Pos}
end
section
variable {X : Cx} {W : WX} {a b : Expr} {fa fb : E} {p pz zpos pos : Pos}
variable [Tbs]
end
end PD
set_option Elab.async false
set_option linter.all false
set_option maxRecDepth 100000
set_option maxHeartbeats 4000000
namespace PD
open PySem PySem.Spec PyProof.Rows L2
/-! ### max of a list of ints -/
section
variable {X : Cx} {W : WX} {e : Expr} {es : List Expr} {g : A} {pos p : Pos}
variable [Tbs]
end
end PD
set_option Elab.async false
set_option linter.all false
set_option maxRecDepth 100000
set_option maxHeartbeats 4000000
namespace PD
open PySem PySem.Spec PyProof.Rows L2
/-! ### calls of defs without arguments -/
section
variable {X : Cx} {W : WX} {k kk n : Nat} {f : Addr} {fd : FuncData} {ps : List Str} {F : List PyData → RO PyData} {x : Str} {p pos : Pos}
variable [Tbs]
end
end PD
set_option Elab.async false
set_option linter.all false
set_option maxRecDepth 100000
set_option maxHeartbeats 4000000
namespace PD
open PySem PySem.Spec PyProof.Rows L2
/-! ### tuple(range(a)), tuple(range(a, b)) -/
section
variable {X : Cx} {W : WX} {a b : Expr} {f g : E} {p p2 pos pos2 : Pos}
variable [Tbs]
end
end PD
set_option Elab.async false
set_option linter.all false
set_option maxRecDepth 100000
set_option maxHeartbeats 4000000
namespace PD
open PySem PySem.Spec PyProof.Rows L2
/-! ### an own list gets another name, and the old one is not read any more -/
section
variable {X : Cx} {W : WX} {Z : Zn} {env : Env} {σ : Sg} {H : Hp} {O : List Addr}
variable [Tbs]
end
end PD
set_option Elab.async false
set_option linter.all false
set_option maxRecDepth 100000
set_option maxHeartbeats 4000000
namespace PD
open PySem PySem.Spec PyProof.Rows L2
/-! ### zip of three tuples -/
section
variable {X : Cx} {W : WX} {a b c e : Expr} {elts : List Expr} {fa fb fc : E} {pos p tpos : Pos} {kk : Nat} {σ : Sg} {H : Hp} {R : It → Hp → Prop} {p1 p2 p3 : Addr} {vs us ws : List V} {ta : TA}
variable [Tbs]
end
section
variable {X : Cx} {W : WX} {a b c e : Expr} {elts : List Expr} {fa fb fc : E} {pos p tpos : Pos} {kk : Nat}
variable [Tbs]
end
end PD
set_option Elab.async false
set_option linter.all false
set_option maxRecDepth 100000
set_option maxHeartbeats 4000000
namespace PD
open PySem PySem.Spec PyProof.Rows L2
/-! ### calls within an except suite, of defs that don't raise (nothing is known of the handled exception) -/
section
variable {X : Cx} {i : Nat} {a : Addr} {oe : Obj} {pn : List (Addr × Obj)} {cls : Value} {od : Option Addr} {x : Str} {pos p : Pos} {e : Expr} {es : List Expr} {k n kk : Nat} {F : List PyData → RO PyData} {ga : Str → Flds → Env → RO (List PyData)}
variable [Tbs]
theorem CAx.go {β : Type} {g : List PyData → RO β} {P : β → Hp → Prop} {Z : Zn} {env : Env} {σ : Sg} {H : Hp} {O : List Addr} {c : Str} {fl : Flds} {Q : List V → Hp → Prop} (h : CAx X i a cls od es ga) (r : Rep X.K Z env σ H O) (hi : σ[i]? = some (some (.ref a))) (x : ExR X.mg X.K (hid O H) c fl cls od) (q : ROk X WN σ O P H (ga c fl env >>= g))
    (k : ∀ ds vs H1, Ext H H1 → DpAll X.K (hid O H1) vs ds → Rep X.K Z env σ H1 O → ROk X WN σ O P H1 (g ds) → Q vs H1) : wpA X es σ H Q :=
  h Z env σ H O Q c fl r hi x (q.then fun ds H1 _ e1 q1 vs hv => k ds vs H1 e1 hv (r.mono e1) q1)
end
/-! ### a comprehension into a slot, within a def that changes its caller's list -/
section
variable {X : Cx} {W : WX} {tg iter elt : Expr} {ifs : List Expr} {scope : Scope} {own : List (Str × Nat)} {fs : Env → RO (List PyData)} {gg : G} {is : List Nat} {tt : T} {f : E} {pos : Pos}
end
/-! ### x in a tuple or a list -/
section
variable {X : Cx}
variable [Tbs]
end
end PD
set_option Elab.async false
set_option linter.all false
set_option maxRecDepth 100000
set_option maxHeartbeats 4000000
namespace PD
open PySem PySem.Spec PyProof.Rows L2
/-! ### instances with fields that nobody changes -/
abbrev Fds := List (Str × PyData)
def gOb (c : Str) (env : Env) (i : Nat) : RO Fds := match env[i]? with
  | some (some (.ob c' fs)) => if c' = c then .ok fs else .no
  | _ => .no
theorem gOb_ok {c : Str} {env : Env} {i : Nat} {fs : Fds} (h : gOb c env i = .ok fs) : env[i]? = some (some (.ob c fs)) := by
  unfold gOb at h
  split at h
  · rename_i c' fs' e
    split at h
    · rename_i hc
      cases h
      rw [e, hc]
    · cases h
  · cases h
theorem gOb_er {c : Str} {env : Env} {i : Nat} {x : Str} {fl : Flds} (h : gOb c env i = .er x fl) : False := by
  unfold gOb at h
  split at h
  · split at h <;> cases h
  · cases h
def eFd (c : Str) (i : Nat) (f : Str) : E := fun env => gOb c env i >>= fun fs => match fs.lookup f with
  | some d => .ok d
  | none => .no
def eIsO (c : Str) (i : Nat) : E := fun env => gOb c env i >>= fun _ => .ok (.bool true)
structure ObC (K : PySem.W.Frag) (c : Str) (C : Addr) : Prop where
  ns : PySem.W.nsIn K mainGlobals c = some (some (.ref C))
  cl : Cls K C
section
variable {X : Cx} {W : WX} {i : Nat} {n c f x : Str} {C : Addr} {p pos p1 p2 : Pos} {e : Expr} {es : List Expr} {Z : Zn} {env : Env} {σ : Sg} {H : Hp} {O : List Addr} {k m kk : Nat}
variable [Tbs]
theorem ob_at (o : ObC X.K c C) (r : Rep X.K Z env σ H O) {fs : Fds} (he : env[i]? = some (some (.ob c fs))) : ∃ a dx fvs, σ[i]? = some (some (.ref a)) ∧ hid O H a = some (.ins C dx fvs) ∧ H a = some (.ins C dx fvs) ∧ ∀ f d, fs.lookup f = some d → ∃ y, fvs.lookup f = some y ∧ Dp X.K (hid O H) y d := by
  obtain ⟨v, h1, a, C', dx, fvs, rfl, h2, h3, h4⟩ := r.sl i _ he
  have e1 : C' = C := by
    have := h3.symm.trans o.ns
    cases this
    rfl
  subst e1
  exact ⟨a, dx, fvs, h1, h2, (hid_some h2).2, h4⟩
theorem ce_fd (o : ObC X.K c C) (na : NoAttr X.K C f) (hN : X.N[i]? = some n) (hv : Vis X.env.scope n) (hb : attributeBase (.Name n p1) f X.env (eval (.Name n p1) X.env) = eval (.Name n p1) X.env := by rfl)
    (hd : (n == ("__debug__" : Str)) = false := by decide) (hcd : (n == ("__classdict__" : Str)) = false := by decide) : CE X W (.Attribute (.Name n p1) f pos) (eFd c i f) := fun Z env σ H O Q r q => by
  unfold eFd at q
  cases hg : gOb c env i with
  | er x fl => exact (gOb_er hg).elim
  | no => rw [hg] at q; exact q.elim
  | ok fs =>
    rw [hg] at q
    obtain ⟨a, dx, fvs, h1, h2, h3, h4⟩ := ob_at o r (gOb_ok hg)
    refine wp_e (pe_fld (pe_var hN hv hd hcd) hb) ?_
    have q' : ROk X W σ O (VQ X.K O Q) H (match fs.lookup f with | some d => .ok d | none => .no) := q
    cases hl : fs.lookup f with
    | none => rw [hl] at q'; exact q'.elim
    | some d =>
      rw [hl] at q'
      obtain ⟨y, g1, g2⟩ := h4 f d hl
      exact ⟨_, h1, a, C, dx, fvs, y, rfl, h3, o.cl, na, g1, q'.here y g2⟩
theorem ce_isO (o : ObC X.K c C) (ic : C8.InsC X.K C) (hg : Gl X "isinstance") (hm : X.mg "isinstance" = none) (hgx : Gl X x) (hmx : X.mg x = some (.ref C)) (hN : X.N[i]? = some n) (hv : Vis X.env.scope n)
    (hd : (n == ("__debug__" : Str)) = false := by decide) (hcd : (n == ("__classdict__" : Str)) = false := by decide) (hdx : (x == ("__debug__" : Str)) = false := by decide)
    (he : starEach [.Name n p1, .Name x p2] X.env = (false, eval (.Name n p1) X.env) :: starEach [.Name x p2] X.env := by rfl) (he2 : starEach [.Name x p2] X.env = (false, eval (.Name x p2) X.env) :: starEach [] X.env := by rfl)
    (hpl : (backTo pos (starEach [.Name x p2] X.env)).any (·.1) = false := by rfl) :
    CE X W (.Call (.Name "isinstance" p) [.Name n p1, .Name x p2] [] pos) (eIsO c i) := fun Z env σ H O Q r q => by
  unfold eIsO at q
  cases hgb : gOb c env i with
  | er x fl => exact (gOb_er hgb).elim
  | no => rw [hgb] at q; exact q.elim
  | ok fs =>
    rw [hgb] at q
    obtain ⟨a, dx, fvs, h1, h2, h3, h4⟩ := ob_at o r (gOb_ok hgb)
    have hb : PE X (.Name x p2) (tC (.ref C)) := pe_glob hgx hmx rfl hdx
    refine wp_e (pe_callB (C8.call_isC ic) hg hm (by decide +kernel) (pa_cons (pe_var hN hv hd hcd) (pa_cons hb pa_nil he2) he) (by decide) (by decide) he hpl) ?_
    exact ⟨_, h1, a, dx, fvs, rfl, h3, ROk.here (show ROk X W σ O (VQ X.K O Q) H (.ok (.bool true)) from q) _ (.bl _)⟩
end
/-! ### defs whose first parameter is such an instance -/
def spO [Tbs] (K : PySem.W.Frag) (mg : Str → Option Value) (c : Str) (n : Nat) (F : Fds → List PyData → RO PyData) : Sp := fun vs H Q E => vs.length = n + 1 ∧ (∀ P ∈ Tbs.l, GxR.TabG H P) ∧ ∃ u us fs ds Oc, vs = u :: us ∧ Lv Oc H ∧ ObR K (hid Oc H) u c fs ∧ DpAll K (hid Oc H) us ds ∧ (match F fs ds with
  | .ok d => ∀ v H', Ext H H' → Dp K (hid Oc H') v d → Q v H'
  | .er e fl => ∀ C od H', Ext H H' → ExR mg K (hid Oc H') e fl C od → E C od H'
  | .no => False)
def startO (c : Str) (m : Nat) (fs : Fds) (ds : List PyData) : Env := some (.ob c fs) :: startE (m - 1) ds
def runO (c : Str) (m : Nat) (B : S) : Fds → List PyData → RO PyData := fun fs ds => match B (startO c m fs ds) with
  | .nx _ => .ok .none
  | .rt d => .ok d
  | .er _ e fl => .er e fl
  | _ => .no
theorem startO_rep [Tbs] {K : PySem.W.Frag} {H : Hp} {Oc : List Addr} {u : V} {c : Str} {fs : Fds} {vs : List V} {ds : List PyData} {N : List Str} (hN : 0 < N.length) (l : Lv Oc H) (tb : ∀ P ∈ Tbs.l, GxR.TabG H P) (ho : ObR K (hid Oc H) u c fs) (h : DpAll K (hid Oc H) vs ds) : Rep K ⟨H, Oc⟩ (startO c N.length fs ds) (L2.start N (u :: vs)) H Oc := by
  obtain ⟨x, N', rfl⟩ : ∃ x N', N = x :: N' := by
    cases N with
    | nil => cases hN
    | cons x N' => exact ⟨x, N', rfl⟩
  have r := start_rep (N := N') l tb h
  have es : L2.start (x :: N') (u :: vs) = some u :: L2.start N' vs := by
    unfold L2.start
    simp
  have ee : startO c (x :: N').length fs ds = some (.ob c fs) :: startE N'.length ds := rfl
  rw [es, ee]
  have noOwn : ∀ {i : Nat} {di : List PyData}, (some (SV.ob c fs) :: startE N'.length ds)[i]? = some (some (.own di)) → ∃ j, i = j + 1 ∧ (startE N'.length ds)[j]? = some (some (.own di)) := fun {i di} e => by
    cases i with
    | zero => cases e
    | succ j => exact ⟨j, rfl, e⟩
  refine ⟨Ext.refl _, fun _ h => h, fun _ _ => rfl, by simp [r.len], fun i s e => ?_, fun i j a di dj e1 e2 s1 s2 => ?_, l, tb⟩
  · cases i with
    | zero =>
      cases e
      exact ⟨u, rfl, ho⟩
    | succ i => exact r.sl i s e
  · obtain ⟨i, rfl, e1⟩ := noOwn e1
    obtain ⟨j, rfl, e2⟩ := noOwn e2
    rw [r.nd i j a di dj e1 e2 s1 s2]
section
variable {P : Program} {w : World} {K : PySem.W.Frag} {mg : Str → Option Value} {base : Heap}
variable [Tbs]
theorem bodyO_ok {N : List Str} {X : Cx} {H : Hp} {c : Str} {vs : List V} {Q : VK} {E : XK} {body : List Stmt} {B : S} {n : Nat} (hN : 0 < N.length) (hK : X.K = K) (hmg : X.mg = mg) (h : CSs X (fun cls d _ H => E cls d H) body B) (q : spO K mg c n (runO c N.length B) vs H Q E) :
    wpSs X body { nx := fun _ H' => Q .non H', rt := Q } (L2.start N vs) H := by
  subst hK
  subst hmg
  obtain ⟨_, tb, u, us, fs, ds, Oc, rfl, l, ho, hd, q⟩ := q
  refine h ⟨H, Oc⟩ (startO c N.length fs ds) _ H Oc _ (startO_rep hN l tb ho hd) ?_
  unfold runO at q
  cases hb : B (startO c N.length fs ds) with
  | nx e => rw [hb] at q; exact fun σ' H' O' r => q _ H' r.whole .non
  | rt d => rw [hb] at q; exact fun v H' e hv => q v H' e hv
  | bk e => rw [hb] at q; exact q.elim
  | ct e => rw [hb] at q; exact q.elim
  | er e c fl => rw [hb] at q; exact fun C od σ' H' O' r x => q C od H' r.whole (x.mono (Ext.hid_sub r.sub))
  | no => rw [hb] at q; exact q.elim
def DfnO (P : Program) (w : World) (K : PySem.W.Frag) (mg : Str → Option Value) (base : Heap) (x c : Str) (k n : Nat) (F : Fds → List PyData → RO PyData) : Prop := ∃ f fd ps, FnOk P w K mg base (L2.CX P w) k f fd ps (spO K mg c n F) ∧ mg x = some (.ref f) ∧ PySem.W.keepIn K (.ref f) = true ∧ Binds K fd ps []
theorem dfnO_of {x qual c : Str} {st : Stmt} {f : Addr} {fd : FuncData} {N ps : List Str} {B : S} {k n : Nat} (Fn : Fun K x qual st f fd) (Sc : FnScope N ps (defScope st)) (hn : ps.length = n + 1) (hN : 0 < N.length) (hb : Binds K fd ps []) (hm : mg x = some (.ref f))
    (h : ∀ (cdv : Value) (A : Around) (outer : List PySem.Env) (s : Shared) (H : Hp) (E : XK), Room k (A.deeper (envOfC qual (defScope st) s.heap.objs.size f cdv)) →
      CSs (cxOf (L2.CX P w) P w K mg base N qual (defScope st) f cdv A outer s H E) (fun cls d _ H => E cls d H) (defBody st) B) : DfnO P w K mg base x c (k + 1) n (runO c N.length B) :=
  ⟨f, fd, ps, Fn.okX Sc (fun vs H Q E q => by rw [q.1, hn]) fun cdv A outer s H vs Q E hr q => ⟨_, pss_wp, bodyO_ok (N := N) hN rfl rfl (h cdv A outer s H E hr) q⟩, hm, Fn.kp, hb⟩
end
def eCallO (c : Str) (n : Nat) (F : Fds → List PyData → RO PyData) (i : Nat) (ga : A) : E := fun env => gOb c env i >>= fun fs => ga env >>= fun ds => if ds.length = n then F fs ds else .no
section
variable {X : Cx} {W : WX} {i : Nat} {v c x : Str} {p pos p1 : Pos} {e : Expr} {es : List Expr} {k n kk : Nat} {F : Fds → List PyData → RO PyData} {ga : A}
variable [Tbs]
theorem c_callO (G : DfnO X.prog X.w X.K X.mg X.base x c k n F) (hr : Room kk X.A) (hk : k ≤ kk) (tk : Takes X W) (hg : Gl X x) (hN : X.N[i]? = some v) (hv : Vis X.env.scope v) (ha : CA X W es ga)
    (hd : (v == ("__debug__" : Str)) = false := by decide) (hcd : (v == ("__classdict__" : Str)) = false := by decide) (hdb : (x == ("__debug__" : Str)) = false := by decide) (he : starEach (.Name v p1 :: es) X.env = (false, eval (.Name v p1) X.env) :: starEach es X.env := by rfl) (hpl : (backTo pos (starEach es X.env)).any (·.1) = false := by rfl) :
    CE X W (.Call (.Name x p) (.Name v p1 :: es) [] pos) (eCallO c n F i ga) := fun Z env σ H O Q r q => by
  obtain ⟨f, fd, ps, G, hm, hkp, hb⟩ := G
  refine wp_e (pe_callS G (hr.mono hk) hg hm hkp hb (fun σ => passAt tk σ) (pa_cons (pe_var hN hv hd hcd) pa_wp he) hdb he hpl) ?_
  unfold eCallO at q
  cases hgb : gOb c env i with
  | er x fl => exact (gOb_er hgb).elim
  | no => rw [hgb] at q; exact q.elim
  | ok fs =>
    rw [hgb] at q
    obtain ⟨u, h1, h2⟩ := r.sl i _ (gOb_ok hgb)
    refine ⟨u, h1, ?_⟩
    have q' : ROk X W σ O (VQ X.K O Q) H (ga env >>= fun ds => if ds.length = n then F fs ds else .no) := q
    refine ha.go r q' fun d vs H1 e1 d1 r1 q1 => ?_
    by_cases hl : d.length = n
    · rw [if_pos hl] at q1
      refine ⟨by rw [List.length_cons, dpa_len d1, hl], r1.tb, u, vs, fs, d, O, rfl, r1.lv, (e1.hid O).ob h2, d1, ?_⟩
      cases hF : F fs d with
      | ok y => rw [hF] at q1; exact fun v H' e' h => q1 H' e' v h
      | er c fl => rw [hF] at q1; exact q1
      | no => rw [hF] at q1; exact q1
    · rw [if_neg hl] at q1
      exact q1.elim
end
end PD
set_option Elab.async false
set_option linter.all false
set_option maxRecDepth 100000
set_option maxHeartbeats 4000000
namespace PD
open PySem PySem.Spec PyProof.Rows L2
/-! ### an instance is made: an __init__ that stores its four arguments -/
def spI4 (C : Addr) (f1 f2 f3 f4 : Str) : Sp := fun vs H Q E => ∃ a dx v1 v2 v3 v4, vs = [.ref a, v1, v2, v3, v4] ∧ H a = some (.ins C dx []) ∧ Q .non (upd H a (.ins C dx [(f1, v1), (f2, v2), (f3, v3), (f4, v4)]))
theorem init4_ok {K : PySem.W.Frag} {C : Addr} {f1 f2 f3 f4 : Str} {vs : List V} {H : Hp} {Q : VK} {E : XK} {N : List Str} (hN : N.length = 5) (cl : Cls K C) (n1 : NoAttr K C f1) (n2 : NoAttr K C f2) (n3 : NoAttr K C f3) (n4 : NoAttr K C f4) (d12 : f1 ≠ f2) (d13 : f1 ≠ f3) (d14 : f1 ≠ f4) (d23 : f2 ≠ f3) (d24 : f2 ≠ f4) (d34 : f3 ≠ f4)
    (h : spI4 C f1 f2 f3 f4 vs H Q E) : tSeq (sFld K (tVar 0) (tVar 1) f1) (tSeq (sFld K (tVar 0) (tVar 2) f2) (tSeq (sFld K (tVar 0) (tVar 3) f3) (sFld K (tVar 0) (tVar 4) f4))) { nx := fun _ H' => Q .non H', rt := Q } (L2.start N vs) H := by
  obtain ⟨a, dx, v1, v2, v3, v4, rfl, ha, q⟩ := h
  have st : L2.start N [.ref a, v1, v2, v3, v4] = [some (.ref a), some v1, some v2, some v3, some v4] := by
    unfold L2.start
    simp [hN]
  rw [st]
  refine ⟨v1, rfl, .ref a, rfl, a, C, dx, [], rfl, ha, cl, n1, by decide, ?_⟩
  refine ⟨v2, rfl, .ref a, rfl, a, C, dx, [(f1, v1)], rfl, upd_same, cl, n2, by show 1 < 1000; decide, ?_⟩
  refine ⟨v3, rfl, .ref a, rfl, a, C, dx, [(f1, v1), (f2, v2)], rfl, by rw [show putF f2 v2 [(f1, v1)] = [(f1, v1), (f2, v2)] from by simp [putF, d12]]; exact upd_same, cl, n3, by show 2 < 1000; decide, ?_⟩
  refine ⟨v4, rfl, .ref a, rfl, a, C, dx, [(f1, v1), (f2, v2), (f3, v3)], rfl, by rw [show putF f3 v3 [(f1, v1), (f2, v2)] = [(f1, v1), (f2, v2), (f3, v3)] from by simp [putF, d13, d23]]; exact upd_same, cl, n4, by show 3 < 1000; decide, ?_⟩
  rw [show putF f4 v4 [(f1, v1), (f2, v2), (f3, v3)] = [(f1, v1), (f2, v2), (f3, v3), (f4, v4)] from by simp [putF, d14, d24, d34], upd_upd, upd_upd, upd_upd]
  exact q
theorem Rep.setOb [Tbs] {K : PySem.W.Frag} {Z : Zn} {H : Hp} {env : Env} {σ : Sg} {O : List Addr} (r : Rep K Z env σ H O) (i : Nat) {v : V} {c : Str} {fs : Fds} (h : ObR K (hid O H) v c fs) : Rep K Z (env.set i (some (.ob c fs))) (σ.set i (some v)) H O := by
  refine ⟨r.ex, r.sub, r.kp, by simp [r.len], fun j s e => ?_, fun j k a dj dk e1 e2 s1 s2 => ?_, r.lv, r.tb⟩
  · rcases set_some e with ⟨rfl, hl, e⟩ | ⟨hj, e⟩
    · cases e
      exact ⟨v, List.getElem?_set_self (by rw [← r.len]; exact hl), h⟩
    · obtain ⟨w, h1, h2⟩ := r.sl j s e
      exact ⟨w, by rw [List.getElem?_set_ne (Ne.symm hj)]; exact h1, h2⟩
  · rcases set_some e1 with ⟨_, _, e⟩ | ⟨n1, e1⟩
    · cases e
    rcases set_some e2 with ⟨_, _, e⟩ | ⟨n2, e2⟩
    · cases e
    rw [List.getElem?_set_ne (Ne.symm n1)] at s1
    rw [List.getElem?_set_ne (Ne.symm n2)] at s2
    exact r.nd j k a dj dk e1 e2 s1 s2
theorem look_zip {K : PySem.W.Frag} {H : Hp} : ∀ (ns : List Str) (vs : List V) (ds : List PyData), DpAll K H vs ds → ∀ f d, (ns.zip ds).lookup f = some d → ∃ y, (ns.zip vs).lookup f = some y ∧ Dp K H y d
  | [], vs, ds, _, f, d, h => by cases h
  | n :: ns, _, _, .nil, f, d, h => by cases h
  | n :: ns, v :: vs, x :: ds, .cons h1 h2, f, d, h => by
    rw [List.zip_cons_cons, List.lookup_cons] at h ⊢
    cases hf : f == n with
    | true =>
      rw [hf] at h
      cases h
      exact ⟨v, rfl, h1⟩
    | false =>
      rw [hf] at h
      exact look_zip ns vs ds h2 f d h
def sMk4 (i : Nat) (c f1 f2 f3 f4 : Str) (ga : A) : S := fun env => ofR (ga env) env fun ds => match ds with
  | [d1, d2, d3, d4] => .nx (env.set i (some (.ob c [(f1, d1), (f2, d2), (f3, d3), (f4, d4)])))
  | _ => .no
section
variable {X : Cx} {W : WX} {i : Nat} {v c x f1 f2 f3 f4 : Str} {C f : Addr} {fd : FuncData} {ps : List Str} {p pos pos2 pos' : Pos} {e : Expr} {es : List Expr} {k kk : Nat} {ga : A}
variable [Tbs]
theorem passesE {X : Cx} : Passes (L2.CX X.prog X.w) X (fun _ _ _ => False) := fun pins σ H s e s' I c => by
  obtain ⟨_, _, _, _, _, _, _, _, _, _, _, _, z⟩ := c
  exact z.elim
theorem cs_mk4 (o : ObC X.K c C) (M : Mk X.K C f) (F : FnOk X.prog X.w X.K X.mg X.base (L2.CX X.prog X.w) k f fd ps (spI4 C f1 f2 f3 f4)) (hr : Room kk X.A) (hk : k + 1 ≤ kk) (hg : Gl X x) (hm : X.mg x = some (.ref C)) (hb : Binds X.K fd ps [])
    (hN : X.N.Nodup) (hi : X.N[i]? = some v) (hx : Loc X.env.scope v) (ha : CA X W (e :: es) ga)
    (hdb : (x == ("__debug__" : Str)) = false := by decide) (he : starEach (e :: es) X.env = (false, eval e X.env) :: starEach es X.env := by rfl) (hpl : (backTo pos (starEach es X.env)).any (·.1) = false := by rfl)
    (hs : swapsWith (.Call (.Name x p) (e :: es) [] pos) (some (.Name v pos')) pos2.line X.env = pure false := by rfl) (hf : X.fn v = true ∨ X.env.scope.names.lookup v = some .local := by first | exact .inl rfl | exact .inr rfl | assumption) :
    CS X W (.Assign [.Name v pos'] (.Call (.Name x p) (e :: es) [] pos) pos2) (sMk4 i c f1 f2 f3 f4 ga) := fun Z env σ H O D r q => by
  refine wp_s (ps_set hN hi hx (pe_make (E := fun _ _ _ => False) (ds := []) (dvs := []) M F (hr.mono hk) hg hm hb .nil passesE pa_wp hdb he hpl) hs hf) ?_
  unfold sMk4 at q
  refine ha Z env σ H O _ r (ROk.of_so r q fun ds H1 e1 q1 vs hv => ?_)
  intro x dx hx hdx hne
  have r1 := r.mono e1
  match ds, hv, q1 with
  | [d1, d2, d3, d4], .cons (v := v1) g1 (.cons (v := v2) g2 (.cons (v := v3) g3 (.cons (v := v4) g4 .nil))), q1 =>
    refine ⟨x, dx, v1, v2, v3, v4, rfl, upd_same, rfl, ?_⟩
    rw [upd_upd]
    have hx2 : upd H1 dx (.own x) x = none := by rw [upd_ne (fun z => hne z.symm)]; exact hx
    have E2 : Ext H1 (upd (upd H1 dx (.own x)) x (.ins C dx [(f1, v1), (f2, v2), (f3, v3), (f4, v4)])) := (Ext.new hdx).trans (Ext.new hx2)
    refine q1 _ _ _ ((r1.mono E2).setOb i ⟨x, C, dx, _, rfl, by rw [hid_out (r1.notin hx)]; exact upd_same, o.ns, ?_⟩)
    exact look_zip [f1, f2, f3, f4] [v1, v2, v3, v4] [d1, d2, d3, d4] (.cons ((E2.hid O).dp g1) (.cons ((E2.hid O).dp g2) (.cons ((E2.hid O).dp g3) (.cons ((E2.hid O).dp g4) .nil))))
end
end PD
set_option Elab.async false
set_option linter.all false
set_option maxRecDepth 100000
set_option maxHeartbeats 4000000
namespace PD
open PySem PySem.Spec PyProof.Rows L2
/-! ### shifts, bitwise and -/
def shlOk (i j : Int) : Bool := decide (0 ≤ j ∧ (Builtin.Int.intBits i : Int) + j ≤ 2 ^ 27)
def dShl : PyData → PyData → Option PyData
  | .int i, .int j => if shlOk i j = true then some (.int (i * 2 ^ j.toNat)) else none
  | _, _ => none
section
variable {X : Cx}
variable [Tbs]
theorem bin_shl : BinR X (binaryOp .LShift) dShl := fun dx dy d e => by
  cases dx <;> cases dy <;> first | (simp only [dShl] at e; cases e; done) | skip
  rename_i i j
  simp only [dShl] at e
  split at e
  · rename_i hz
    cases e
    refine ⟨_, op_shlW, fun O H vx vy Q l hx hy k => ?_⟩
    cases dp_int hx
    cases dp_int hy
    exact ⟨i, j, rfl, rfl, (show CShl i j from of_decide_eq_true (p := 0 ≤ j ∧ (Builtin.Int.intBits i : Int) + j ≤ 2 ^ 27) hz), k _ H (Ext.refl _) (.int _)⟩
  · cases e
end
end PD
set_option Elab.async false
set_option linter.all false
set_option maxRecDepth 100000
set_option maxHeartbeats 4000000
namespace PD
open PySem PySem.Spec PyProof.Rows L2
/-! ### own lists lent to a def that reads them and gives data without lists -/
mutual
def noL : PyData → Bool
  | .list _ => false
  | .tuple ds => noLs ds
  | _ => true
def noLs : List PyData → Bool
  | [] => true
  | d :: ds => noL d && noLs ds
end
theorem hid_tup {O O' : List Addr} {H : Hp} {a : Addr} {u : HO} (l : Lv O H) (n : ∀ xs, u ≠ .lst xs) (h : hid O' H a = some u) : hid O H a = some u := by
  have h' := (hid_some h).2
  rw [hid_out (fun z => by
    obtain ⟨xs, e⟩ := l a z
    rw [h'] at e
    cases e
    exact n xs rfl)]
  exact h'
theorem st_move {K : PySem.W.Frag} {O O' : List Addr} {H : Hp} {a : Addr} {xs : List V} (l : Lv O H) (h : SqT K (hid O' H) a xs) : SqT K (hid O H) a xs := by
  rcases h with (h | ⟨o, h⟩) | h
  · exact .inl (.inl (hid_tup l (fun _ z => by cases z) h))
  · exact .inl (.inr ⟨o, hid_tup l (fun _ z => by cases z) h⟩)
  · exact .inr h
mutual
theorem dp_move {K : PySem.W.Frag} {O O' : List Addr} {H : Hp} (l : Lv O H) : ∀ {v : V} {d : PyData}, noL d = true → Dp K (hid O' H) v d → Dp K (hid O H) v d
  | _, _, _, .non => .non
  | _, _, _, .bl b => .bl b
  | _, _, _, .int i => .int i
  | _, _, _, .str x => .str x
  | _, _, n, .lst h a => by simp [noL] at n
  | _, _, n, .tup h a => .tup (st_move l h) (dpa_move l (by simpa [noL] using n) a)
theorem dpa_move {K : PySem.W.Frag} {O O' : List Addr} {H : Hp} (l : Lv O H) : ∀ {vs : List V} {ds : List PyData}, noLs ds = true → DpAll K (hid O' H) vs ds → DpAll K (hid O H) vs ds
  | _, _, _, .nil => .nil
  | _, _, n, .cons h a => by
    simp only [noLs, Bool.and_eq_true] at n
    exact .cons (dp_move l n.1 h) (dpa_move l n.2 a)
end
def CAB [Tbs] (X : Cx) (W : WX) (es : List Expr) (f : A) : Prop := ∀ Z env σ H O Q, Rep X.K Z env σ H O → ROk X W σ O (AQ X.K Z.Oc Q) H (f env) → wpA X es σ H Q
def eCallB (n : Nat) (F : List PyData → RO PyData) (ga : A) : E := fun env => ga env >>= fun ds => match callD n F ds with
  | .ok d => if noL d = true then .ok d else .no
  | _ => .no
section
variable {X : Cx} {W : WX} {x : Str} {p pos : Pos} {e : Expr} {es : List Expr} {f : E} {g ga : A} {k n kk : Nat} {F : List PyData → RO PyData}
variable [Tbs]
theorem cab_nil : CAB X W [] aNil := fun Z env σ H O Q r q => wp_a pa_nil (ROk.here q _ .nil)
theorem cab_cons (h : CB X W e f) (k : CAB X W es g) (hs : starEach (e :: es) X.env = (false, eval e X.env) :: starEach es X.env := by rfl) : CAB X W (e :: es) (aCons f g) := fun Z env σ H O Q r q => by
  refine wp_a (pa_cons pe_wp pa_wp hs) ?_
  have q' : ROk X W σ O (AQ X.K Z.Oc Q) H (f env >>= fun d => g env >>= fun ds => .ok (d :: ds)) := q
  refine h Z env σ H O _ r (q'.then fun d H1 _ e1 q1 v hv => ?_)
  refine k Z env σ H1 O _ (r.mono e1) (ROk.then q1 fun ds H2 _ e2 q2 vs hvs => ?_)
  exact ROk.here (P := AQ X.K Z.Oc Q) q2 _ (.cons ((e2.hid Z.Oc).dp hv) hvs)
theorem c_callB (G : Dfn X.prog X.w X.K X.mg X.base x k n F) (hr : Room kk X.A) (hk : k ≤ kk) (hg : Gl X x) (ha : CAB X W (e :: es) ga) (hdb : (x == ("__debug__" : Str)) = false := by decide) (he : starEach (e :: es) X.env = (false, eval e X.env) :: starEach es X.env := by rfl) (hpl : (backTo pos (starEach es X.env)).any (·.1) = false := by rfl) :
    CE X W (.Call (.Name x p) (e :: es) [] pos) (eCallB n F ga) := fun Z env σ H O Q r q => by
  obtain ⟨f, fd, ps, G, hm, hkp, hb⟩ := G
  refine wp_e (pe_callS G (hr.mono hk) hg hm hkp hb (fun σ => passAt (W := WN) takes0 σ) pa_wp hdb he hpl) ?_
  have q' : ROk X W σ O (VQ X.K O Q) H (ga env >>= fun ds => match callD n F ds with | .ok d => if noL d = true then .ok d else .no | _ => .no) := q
  refine ha Z env σ H O _ r (q'.then fun ds H1 _ e1 q1 vs hv => ?_)
  have r1 := r.mono e1
  unfold callD at q1
  by_cases hl : ds.length = n
  · rw [if_pos hl] at q1
    cases hF : F ds with
    | er c fl => rw [hF] at q1; exact q1.elim
    | no => rw [hF] at q1; exact q1.elim
    | ok d =>
      rw [hF] at q1
      dsimp only at q1
      by_cases hn : noL d = true
      · rw [if_pos hn] at q1
        have lz : Lv Z.Oc H1 := fun a h => r1.lv a (r1.sub a h)
        refine ⟨by rw [dpa_len hv]; exact hl, r1.tb, ds, Z.Oc, lz, hv, ?_⟩
        rw [hF]
        intro v H2 e2 h
        have r2 := r1.mono e2
        exact q1 H2 e2 v (dp_move r2.lv hn h)
      · rw [if_neg hn] at q1
        exact q1.elim
  · rw [if_neg hl] at q1
    exact q1.elim
end
end PD
set_option Elab.async false
set_option linter.all false
set_option maxRecDepth 100000
set_option maxHeartbeats 4000000
namespace PD
open PySem PySem.Spec PyProof.Rows L2
/-! ### max, min over arguments with effects -/
def e2Bf (bi : List PyData → Option PyData) (ga : A2) : E2 := fun env => ga env >>= fun x => ofO (bi x.1) >>= fun d => .ok (d, x.2)
section
variable {X : Cx} {W : WX} {x : Str} {p pos : Pos} {e : Expr} {es : List Expr} {ga : A2} {id : String} {bi : List PyData → Option PyData}
variable [Tbs]
theorem c2_bf (hc : CalR X (.builtin id) bi) (hg : Gl X x) (hm : X.mg x = none) (hv : bootBuiltins x = some (.builtin id)) (ha : CA2 X (e :: es) ga) (hn : x ≠ "__name__") (hdb : (x == ("__debug__" : Str)) = false)
    (he : starEach (e :: es) X.env = (false, eval e X.env) :: starEach es X.env := by rfl) (hpl : (backTo pos (starEach es X.env)).any (·.1) = false := by rfl) : CE2 X (.Call (.Name x p) (e :: es) [] pos) (e2Bf bi ga) := ⟨(fun env d env' q => by
  obtain ⟨y, hy, q⟩ := bind_okE q
  obtain ⟨z, hz, q⟩ := bind_okE q
  cases q
  exact ha.1 env y.1 y.2 hy), fun Z env σ H O Q d env' r q kk => by
  obtain ⟨y, hy, q⟩ := bind_okE q
  obtain ⟨z, hz, q⟩ := bind_okE q
  cases q
  refine wp_e (pe_callB any_call hg hm hv pa_wp hn hdb he hpl) ?_
  refine ha.2 Z env σ H O _ y.1 y.2 r hy fun vs H1 r1 e1 d1 => ?_
  obtain ⟨rr, h1, h2⟩ := hc y.1 _ (ofO_ok hz)
  exact ⟨rr, h1, h2 O H1 vs Q r1.lv d1 fun v H' e' hv => kk v H' (r1.mono e') (e1.trans (e'.hid O)) hv⟩⟩
theorem c2_max (hc : X.calm = true) (hg : Gl X "max") (hm : X.mg "max" = none) (ha : CA2 X (e :: es) ga) (he : starEach (e :: es) X.env = (false, eval e X.env) :: starEach es X.env := by rfl) (hpl : (backTo pos (starEach es X.env)).any (·.1) = false := by rfl) :
    CE2 X (.Call (.Name "max" p) (e :: es) [] pos) (e2Bf cMax ga) := c2_bf (cal_max hc).cal hg hm (by decide +kernel) ha (by decide) (by decide) he hpl
theorem c2_min (hc : X.calm = true) (hg : Gl X "min") (hm : X.mg "min" = none) (ha : CA2 X (e :: es) ga) (he : starEach (e :: es) X.env = (false, eval e X.env) :: starEach es X.env := by rfl) (hpl : (backTo pos (starEach es X.env)).any (·.1) = false := by rfl) :
    CE2 X (.Call (.Name "min" p) (e :: es) [] pos) (e2Bf cMin ga) := c2_bf (cal_min hc).cal hg hm (by decide +kernel) ha (by decide) (by decide) he hpl
end
end PD
set_option Elab.async false
set_option linter.all false
set_option maxRecDepth 100000
set_option maxHeartbeats 4000000
namespace PD
open PySem PySem.Spec PyProof.Rows L2
/-! ### a new list handed to a def that changes it -/
theorem Rep.same [Tbs] {K : PySem.W.Frag} {Z : Zn} {H H' : Hp} {env : Env} {σ : Sg} {O : List Addr} (r : Rep K Z env σ H O) (E : Ext (hid O H) (hid O H')) (kp : ∀ a ∈ O, H' a = H a) (tb : ∀ P ∈ Tbs.l, GxR.TabG H' P) : Rep K Z env σ H' O := by
  refine ⟨r.ex.trans E, r.sub, fun a ha => by rw [kp a (r.sub a ha)]; exact r.kp a ha, r.len, fun j s e => ?_, r.nd, fun a ha => by rw [kp a ha]; exact r.lv a ha, tb⟩
  obtain ⟨v, h1, h2⟩ := r.sl j s e
  refine ⟨v, h1, ?_⟩
  cases s with
  | fz d => exact E.dp h2
  | ob c fs => exact E.ob h2
  | own ds =>
    obtain ⟨a, ws, e1, ha, hc, h3, h4⟩ := h2
    exact ⟨a, ws, e1, ha, hc, by rw [kp a ha]; exact h3, E.dpa h4⟩
def e2CallL (n : Nat) (F : List PyData → List PyData → RO (PyData × List PyData)) (fl ga : A) : E2 := fun env => fl env >>= fun l => ga env >>= fun ds => callI n F l ds >>= fun z => .ok (z.1, env)
section
variable {X : Cx} {W : WX} {x : Str} {p pos : Pos} {e : Expr} {es : List Expr} {fl ga : A} {k n kk : Nat} {F : List PyData → List PyData → RO (PyData × List PyData)}
variable [Tbs]
theorem c2_callL (G : DfnI X.prog X.w X.K X.mg X.base x k n F) (hr : Room kk X.A) (hk : k ≤ kk) (tk : Takes X W) (hg : Gl X x) (hl : CL X W e fl) (ha : CA X W es ga) (hdb : (x == ("__debug__" : Str)) = false := by decide)
    (he : starEach (e :: es) X.env = (false, eval e X.env) :: starEach es X.env := by rfl) (hpl : (backTo pos (starEach es X.env)).any (·.1) = false := by rfl) :
    CE2 X (.Call (.Name x p) (e :: es) [] pos) (e2CallL n F fl ga) := ⟨(fun env d env' q => by
  obtain ⟨l, hl0, q⟩ := bind_okE q
  obtain ⟨a, hy, q⟩ := bind_okE q
  obtain ⟨z, hz, q⟩ := bind_okE q
  cases q
  exact .refl), fun Z env σ H O Q d env' r q kk => by
  obtain ⟨f, fd, ps, G, hm, hkp, hb⟩ := G
  obtain ⟨l, hl0, q⟩ := bind_okE q
  obtain ⟨a, hy, q⟩ := bind_okE q
  obtain ⟨z, hz, q⟩ := bind_okE q
  cases q
  refine wp_e (pe_callS G (hr.mono hk) hg hm hkp hb (fun σ => passAt tk σ) (pa_cons pe_wp pa_wp he) hdb he hpl) ?_
  refine hl.ok2 r hl0 fun q0 vs H1 e1 hq0 hd0 r1 => ?_
  have r2 := r1.setOwn env.length hq0 hd0
  rw [List.set_eq_of_length_le (Nat.le_refl _), List.set_eq_of_length_le (by rw [r1.len]; exact Nat.le_refl _)] at r2
  refine ha Z env σ _ (q0 :: O) _ r2 ?_
  rw [hy]
  intro H3 e3 ws hws
  have r3 := r2.mono e3
  have np := r1.notin hq0
  unfold callI at hz
  by_cases hll : a.length + 1 = n
  · rw [if_pos hll] at hz
    have ld : DpAll X.K (hid (q0 :: O) H3) vs l := (e3.hid _).dpa ((Ext.hid_new hq0).dpa hd0)
    refine ⟨by rw [List.length_cons, dpa_len hws]; exact hll, r3.tb, q0, ws, vs, l, a, O, rfl, np, r3.lv, e3.lst upd_same, ld, hws, ?_⟩
    rw [hz]
    intro v H' ls' ex kp hp' hD' hv' tb'
    have sub : Ext (hid (q0 :: O) H') (hid O H') := Ext.hid_sub fun b hb => List.mem_cons_of_mem _ hb
    have E : Ext (hid O H) (hid O H') := ((((e1.hid O).trans (Ext.hid_new hq0)).trans (e3.hid _)).trans ex).trans sub
    refine kk v H' (r.same E (fun b hb => ?_) tb') E (sub.dp hv')
    obtain ⟨us, hu⟩ := r.lv b hb
    have nb : b ≠ q0 := fun z => np (z ▸ hb)
    rw [kp b hb, hu]
    exact e3.lst (by rw [upd_ne nb]; exact e1.lst hu)
  · rw [if_neg hll] at hz
    cases hz⟩
end
end PD
set_option Elab.async false
set_option linter.all false
set_option maxRecDepth 100000
set_option maxHeartbeats 4000000
namespace PD
open PySem PySem.Spec PyProof.Rows L2
/-! ### constants of the module: data of any shape -/
def GCon (K : PySem.W.Frag) (mg : Str → Option Value) (x : Str) (d : PyData) : Prop := ∃ v u, mg x = some u ∧ RelV v u ∧ ∀ H, Dp K H v d
theorem ce_gD [Tbs] {X : Cx} {W : WX} {x : Str} {pos : Pos} {d : PyData} (G : GCon X.K X.mg x d) (hg : Gl X x) (hdb : (x == ("__debug__" : Str)) = false := by decide) : CE X W (.Name x pos) (eC d) := fun Z env σ H O Q r q => by
  obtain ⟨v, u, hm, hr, hd⟩ := G
  exact wp_e (pe_glob hg hm hr hdb) (ROk.here q _ (hd _))
/-- a value that K holds -/
def KD (K : PySem.W.Frag) (u : Value) (d : PyData) : Prop := ∃ v, RelV v u ∧ ∀ H, Dp K H v d
theorem kd_str {K : PySem.W.Frag} {s : Str} {t : Tok} : KD K (.str s t) (.str s) := ⟨.str s, ⟨t, rfl⟩, fun _ => .str s⟩
inductive KDs (K : PySem.W.Frag) : List Value → List PyData → Prop
  | nil : KDs K [] []
  | cons {u : Value} {us : List Value} {d : PyData} {ds : List PyData} : KD K u d → KDs K us ds → KDs K (u :: us) (d :: ds)
theorem kds_vals {K : PySem.W.Frag} : ∀ {us : List Value} {ds : List PyData}, KDs K us ds → ∃ vs, Vals vs us ∧ ∀ H, DpAll K H vs ds
  | _, _, .nil => ⟨[], .nil, fun _ => .nil⟩
  | _, _, .cons ⟨v, r, h⟩ k => by
    obtain ⟨vs, rs, hs⟩ := kds_vals k
    exact ⟨v :: vs, .cons r rs, fun H => .cons (h H) (hs H)⟩
theorem kd_tup {K : PySem.W.Frag} {a : Addr} {o : Obj} {its : Array Value} {m : Nat} {ds : List PyData} (hk : K.lookup a = some o) (hc : o.cls = .type "tuple") (hd : o.data = .seq its m) (hz : its.size ≤ sizeLine) (h : KDs K its.toList ds) : KD K (.ref a) (.tuple ds) := by
  obtain ⟨vs, rs, hs⟩ := kds_vals h
  exact ⟨.ref a, rfl, fun H => .tup (xs := vs) (.inr ⟨o, its, m, hk, hc, hd, hz, rs⟩) (hs H)⟩
theorem gcon_of {K : PySem.W.Frag} {mg : Str → Option Value} {x : Str} {u : Value} {d : PyData} (hm : mg x = some u) (h : KD K u d) : GCon K mg x d := let ⟨v, r, k⟩ := h; ⟨v, u, hm, r, k⟩
end PD
set_option Elab.async false
set_option linter.all false
set_option maxRecDepth 100000
set_option maxHeartbeats 4000000
namespace PD
open PySem PySem.Spec PyProof.Rows L2
/-! ### zip of a str and a tuple -/
def ItzS (K : PySem.W.Frag) (t : Str) (b : Addr) : It where
  go := fun i H => ∃ (ys : List V) (c : _) (y : V), SqT K H b ys ∧ t.cps[i]? = some c ∧ ys[i]? = some y
  yld := fun i H v H' => ∃ T c y, v = .ref T ∧ H T = none ∧ H' = upd H T (.tup [.str ⟨#[c]⟩, y]) ∧ t.cps[i]? = some c ∧ ∀ ys, SqT K H b ys → ys[i]? = some y
  stop := fun i H => ∃ ys : List V, SqT K H b ys ∧ i ≤ t.cps.size ∧ i ≤ ys.length ∧ (i = t.cps.size ∨ i = ys.length)
theorem turn_zipS {P : Program} {w : World} {K : PySem.W.Frag} {elts : List Expr} {kk : Nat} {tpos : Pos} {t : Str} {tk0 : Tok} {b z TI TO i1 i2 : Addr} (D : ZipSep2 z TI TO i1 i2 [i1] [i2, b]) (l2 : b ≠ i2) :
    Turn P w K (.Tuple elts kk tpos) (ItzS K t b) [z, TI, TO, i1, i2] z (fun i h => (IsZip h z TI TO .none ∧ IsTupOf2 h TI (.ref i1) (.ref i2) ∧ (∃ x y, IsTupOf2 h TO x y)) ∧ h.IsStrIter i1 (strIterType t) t tk0 i ∧ h.IsTupleIter i2 b i) where
  mem := by simp
  obj := fun i h st d hd => by
    obtain ⟨⟨s1, s2, x, y, s3⟩, ⟨o1, s4, _, d1⟩, ⟨o2, s5, _, d2⟩⟩ := st
    simp only [List.mem_cons, List.not_mem_nil, or_false] at hd
    rcases hd with rfl | rfl | rfl | rfl | rfl
    · exact ⟨_, s1, fun v q => nomatch q⟩
    · exact ⟨_, s2, fun v q => nomatch q⟩
    · exact ⟨_, s3, fun v q => nomatch q⟩
    · exact ⟨o1, s4, fun v q => by rw [d1] at q; cases q⟩
    · exact ⟨o2, s5, fun v q => by rw [d2] at q; cases q⟩
  keep := fun i h h' st k => by
    obtain ⟨⟨s1, s2, x, y, s3⟩, s4, s5⟩ := st
    exact ⟨⟨k z (by simp) _ s1, k TI (by simp) _ s2, x, y, k TO (by simp) _ s3⟩, (let ⟨o, ho, rr⟩ := s4; ⟨o, k i1 (by simp) o ho, rr⟩), s5.at fun o q => k i2 (by simp) o q⟩
  item := by
    intro X hP hw hK hc i pins s σ H E I hf st hg
    subst hP
    subst hw
    subst hK
    obtain ⟨⟨s1, s2, x0, y0, s3⟩, s4, s5⟩ := st
    obtain ⟨ys, c, y, ty, gx, gy⟩ := hg
    obtain ⟨bs, rb, pb, _⟩ := I.tuple ty
    have hz : z < s.heap.objs.size := Heap.lt_size s1
    have hh : X.A.in1.handled = none := I.ok.hd hc
    have lb := rb.length
    have ia := (Array.getElem?_eq_some_iff.mp gx).1
    have ib := (List.getElem?_eq_some_iff.mp gy).1
    refine wpAny_pyNext_zipD2_item (i := i) D (Draws.text hh i1 t tk0) (Draws.tuple hh i2 b l2 bs.toArray) s1 s2 s3 s4 ⟨s5, pb⟩ ia (by rw [List.size_toArray]; omega) fun x1 x2 h' tk p1 p2 z' TO' t1 t2 hT hsz hk => ?_
    obtain ⟨c', u', gc, rfl⟩ := p1
    rw [gx] at gc
    cases gc
    obtain ⟨uy, guy, ry⟩ := rb.get gy
    have ey : x2 = uy := Option.some.inj (p2.symm.trans (by simpa using guy))
    subst ey
    refine ⟨_, rfl, ?_⟩
    refine wpAny_letOwnedTupleGo_zip (s := { s with heap := h', toks := tk }) z' fun h2 z2 sb => ?_
    have hT2 : h2.get? s.heap.objs.size = some { cls := .type "tuple", data := .seq #[.str ⟨#[c]⟩ u', x2] } := (sb.2 _ (Nat.ne_of_gt hz)).trans hT
    have new : ObjOk X.prog X.w (upd H s.heap.objs.size (.tup [.str ⟨#[c]⟩, y])) h2 s.heap.objs.size (.tup [.str ⟨#[c]⟩, y]) :=
      ⟨by show 2 ≤ sizeLine; decide, [.str ⟨#[c]⟩ u', x2], .cons ⟨u', rfl⟩ (.cons ry .nil), ⟨_, hT2, rfl, _, rfl⟩⟩
    have keep : ∀ c o, c ∉ [z, TI, TO, i1, i2] → s.heap.get? c = some o → h2.get? c = some o := fun c o nc e => by
      simp only [List.mem_cons, List.not_mem_nil, or_false, not_or] at nc
      exact (sb.2 c nc.1).trans (hk c o nc.1 nc.2.2.1 nc.2.2.2.1 nc.2.2.2.2 e)
    have I1 := I.turnedNew (t' := tk) keep hf (Nat.le_refl _) new
    have m1 : i1 ≠ z := fun q => D.zf1 (by simp [q])
    have m2 : i2 ≠ z := fun q => D.zf2 (by simp [q])
    refine ⟨.ref s.heap.objs.size, _, I1, rfl, ⟨_, c, y, rfl, I.hok.fresh (Nat.le_refl _), rfl, gx, fun l hl => by rw [I.tuple_inj hl ty]; exact gy⟩, ⟨⟨z2, ?_, .str ⟨#[c]⟩ u', x2, ?_⟩, ?_, ?_⟩, fun d hdm => ?_⟩
    · exact (sb.2 _ D.TIz).trans (hk _ _ D.TIz D.TITO D.TIi1 D.TIi2 s2)
    · exact (sb.2 _ D.TOz).trans TO'
    · exact let ⟨o, ho, rr⟩ := t1; ⟨o, (sb.2 _ m1).trans ho, rr⟩
    · exact t2.1.at fun o q => (sb.2 _ m2).trans q
    · have hlt : d < s.heap.objs.size := by
        simp only [List.mem_cons, List.not_mem_nil, or_false] at hdm
        rcases hdm with rfl | rfl | rfl | rfl | rfl
        · exact hz
        · exact Heap.lt_size s2
        · exact Heap.lt_size s3
        · obtain ⟨_, e1, _⟩ := s4
          exact Heap.lt_size e1
        · obtain ⟨_, e2, _⟩ := s5
          exact Heap.lt_size e2
      rw [upd_ne (Nat.ne_of_lt hlt)]
      exact (hf d hdm).1
  done := by
    intro X hP hw hK hc i pins s σ H E I hf st hg
    subst hP
    subst hw
    subst hK
    obtain ⟨⟨s1, s2, x0, y0, s3⟩, s4, s5⟩ := st
    obtain ⟨ys, ty, b1, b2, hend⟩ := hg
    obtain ⟨bs, rb, pb, _⟩ := I.tuple ty
    have hh : X.A.in1.handled = none := I.ok.hd hc
    have lb := rb.length
    refine wpAny_pyNext_zipD2_end (i := i) D (Draws.text hh i1 t tk0) (Draws.tuple hh i2 b l2 bs.toArray) s1 s2 s3 s4 ⟨s5, pb⟩ b1 (by rw [List.size_toArray]; omega) (by rcases hend with q | q; exact .inl q; exact .inr (by rw [List.size_toArray]; omega)) fun h' tk hk => ⟨rfl, ?_⟩
    exact I.turnedL (t' := tk) (ch := [z, TI, TO, i1, i2]) (fun c o nc e => by
      simp only [List.mem_cons, List.not_mem_nil, or_false, not_or] at nc
      exact hk c o nc.1 nc.2.2.1 nc.2.2.2.1 nc.2.2.2.2 e) hf
  self := fun A i s Q E st h => wpAny_pyIter_zip st.1.1 h
section
variable {X : Cx} {W : WX} {a b e : Expr} {elts : List Expr} {fa fb : E} {pos p tpos : Pos} {kk : Nat} {σ : Sg} {H : Hp} {R : It → Hp → Prop} {p2 : Addr} {us : List V} {t : Str}
theorem wz_st [Tbs] (h2 : SqT X.K H p2 us) (q : R (ItzS X.K t p2) H) : wpZ X (.Tuple elts kk tpos) [.str t, .ref p2] σ H R := fun pins s ws I r => by
  cases r with
  | cons r1 rr =>
    cases rr with
    | cons r2 rr =>
      cases rr
      obtain ⟨tk0, rfl⟩ := r1
      cases r2
      obtain ⟨ys, _, l2, _⟩ := I.tuple h2
      obtain ⟨o2, k2, _⟩ := id l2
      have m2 := Heap.lt_size k2
      refine zip_begins2 (begins_text t tk0) (begins_tuple p2 ys.toArray) trivial l2 fun h' c1 c2 c3 c4 c5 _ c7 => wpAny_pyIter_zip c1 ?_
      have D := zip_sep2 (N := s.heap.objs.size) (fp1 := []) (fp2 := [p2]) (fun b hb => nomatch hb) (fun b hb => by rw [List.mem_singleton.mp hb]; exact m2)
      exact ⟨_, _, _, _, H, rfl, I.kept (t' := s.toks) c7, turn_zipS D (Nat.ne_of_lt (Nat.lt_succ_of_lt m2)), ⟨⟨c1, c2, _, _, c3⟩, ⟨_, c4, rfl, rfl⟩, ⟨_, c5, rfl, rfl⟩⟩, fresh5 I, q⟩
end
theorem walk_zs [Tbs] {K : PySem.W.Frag} {O : List Addr} {H : Hp} {t : Str} {b : Addr} {us : List V} {es : List PyData} (h' : SqT K (hid O H) b us) (he : DpAll K (hid O H) us es) : WalkD K O H (ItzS K t b) (List.zipWith pr (strItems t) es) where
  go := fun i d O1 H1 e x l => by
    obtain ⟨dx, dy, g1, g2, rfl⟩ := zip_get e
    obtain ⟨u, h3, h4⟩ := dpa_get he g2
    have s2 : SqT K H1 b us := Ext.unhid.st (x.st h')
    unfold strItems at g1
    rw [List.getElem?_map] at g1
    cases gc : t.cps.toList[i]? with
    | none => rw [gc] at g1; cases g1
    | some c =>
    rw [gc] at g1
    cases g1
    have gc' : t.cps[i]? = some c := by simpa using gc
    refine ⟨⟨us, c, u, s2, gc', h3⟩, fun y H2 ⟨T, x1, x2, ey, hT, e2, f1, f2⟩ => ?_⟩
    subst e2
    subst ey
    have q2 := f2 us s2
    rw [h3] at q2
    cases q2
    rw [gc'] at f1
    cases f1
    exact ⟨Ext.new hT, dp_newT l hT (.cons (.str _) (.cons (x.dp h4) .nil))⟩
  stop := fun i O1 H1 hi x => ⟨us, Ext.unhid.st (x.st h'), by
    rw [List.length_zipWith] at hi
    rw [dpa_len he]
    unfold strItems at hi
    simp only [List.length_map, Array.length_toList] at hi
    omega⟩
def dZipS (d e : PyData) : RO (List PyData) := match d, e with
  | .str xs, .tuple ys => .ok (List.zipWith pr (strItems xs) ys)
  | _, _ => .no
def iZipS (fa fb : E) : A := fun env => fa env >>= fun x => fb env >>= fun y => dZipS x y
section
variable {X : Cx} {W : WX} {a b e : Expr} {elts : List Expr} {fa fb : E} {pos p tpos : Pos} {kk : Nat}
variable [Tbs]
theorem ci_zipS (h : CE X W a fa) (k : CE X W b fb) (hg : Gl X "zip") (hm : X.mg "zip" = none) (hs : starEach [a, b] X.env = (false, eval a X.env) :: starEach [b] X.env := by rfl) (hs2 : starEach [b] X.env = [(false, eval b X.env)] := by rfl) (hpl : (backTo pos (starEach [b] X.env)).any (·.1) = false := by rfl) :
    CI X W (.Tuple elts kk tpos) (.Call (.Name "zip" p) [a, b] [] pos) (iZipS fa fb) := fun Z env σ H O R r q => by
  refine wp_i (pi_zipX hg hm (pa_cons pe_wp (pa_cons pe_wp pa_nil (by rw [hs2] <;> rfl)) hs) hs hpl) ?_
  unfold iZipS at q
  refine h.go r q fun dx vx H1 e1 d1 r1 q1 => ?_
  refine k.go r1 q1 fun dy vy H2 e2 d2 r2 q2 => ?_
  have d1' := (e2.hid O).dp d1
  cases dx with
  | str xs =>
    cases dy with
    | tuple ys =>
      have ev := dp_str d1'
      subst ev
      obtain ⟨p2, us, rfl, h3, h4⟩ := dp_tup d2
      exact wz_st (Ext.unhid.st h3) (q2.here _ (walk_zs h3 h4))
    | _ => exact q2.elim
  | _ => exact q2.elim
end
end PD
set_option Elab.async false
set_option linter.all false
set_option maxRecDepth 100000
set_option maxHeartbeats 4000000
namespace KM
open PySem PySem.Spec PyProof.Rows L2 PD
def B_is_integer : S := (sRet (eAn (eIsi "int" (eVar 0)) (eNt (eIsi "bool" (eVar 0)))))
def F_is_integer : List PyData → RO PyData := runD 1 B_is_integer
def B_is_width : S := (sRet (eAn (eCall 1 F_is_integer (aCons (eVar 0) aNil)) (eChain dLe dLe (eC (.int 2)) (eVar 0) (eC (.int 200)))))
def F_is_width : List PyData → RO PyData := runD 1 B_is_width
def B_is_number : S := (sRet (eAn (eCall 1 F_is_integer (aCons (eVar 0) aNil)) (eChain dLe dLe (eC (.int 1)) (eVar 0) (eC (.int 10000)))))
def F_is_number : List PyData → RO PyData := runD 1 B_is_number
def B_least_fitting : S := (sRet (eUn dNeg (eOp dShl (eC (.int 1)) (eOp dSub (eVar 0) (eC (.int 1))))))
def F_least_fitting : List PyData → RO PyData := runD 1 B_least_fitting
def B_most_fitting : S := (sRet (eOp dSub (eOp dShl (eC (.int 1)) (eOp dSub (eVar 0) (eC (.int 1)))) (eC (.int 1))))
def F_most_fitting : List PyData → RO PyData := runD 1 B_most_fitting
def B_fits : S := (sRet (eChain dLe dLe (eCall 1 F_least_fitting (aCons (eVar 1) aNil)) (eVar 0) (eCall 1 F_most_fitting (aCons (eVar 1) aNil))))
def F_fits : List PyData → RO PyData := runD 2 B_fits
def B_is_part : S := (sSeq (sIf (tNt (tT (eCall 1 F_is_integer (aCons (eVar 2) aNil)))) (sRet (eC (.bool false))) sNx) (sSeq (sIf (tCm dEq (eVar 1) (eC (.str "n"))) (sRet (eCall 2 F_fits (aCons (eVar 2) (aCons (eFd "Code" 0 "width") aNil)))) sNx) (sRet (eChain dLe dLt (eC (.int 0)) (eVar 2) (eIf (tCm dEq (eVar 1) (eC (.str "r"))) (eFd "Code" 0 "registers") (eFd "Code" 0 "inputs"))))))
def F_is_part : Fds → List PyData → RO PyData := runO "Code" 3 B_is_part
def B_is_instruction : S := (sSeq (sIf (tOr (tNt (tT (eIsi "tuple" (eVar 1)))) (tCm dEq (eVar 1) (eTup aNil))) (sRet (eC (.bool false))) sNx) (sSeq (sFor (iSeq (eC (.tuple [(.tuple [(.str "load"), (.str "ri")]), (.tuple [(.str "set"), (.str "rn")]), (.tuple [(.str "times"), (.str "rrn")]), (.tuple [(.str "add"), (.str "rr")]), (.tuple [(.str "bend"), (.str "r")]), (.tuple [(.str "give"), (.str "r")])]))) (gT 2 (gsC (gN 2) (gsC (gN 3) gsN))) (sIf (tCm dEq (eIx (eVar 1) (eC (.int 0))) (eVar 2)) (sSeq (sSet 4 (eSl (eVar 1) (oS (eC (.int 1))) oN)) (sSeq (sIf (tCm dNe (eBf cLen (aCons (eVar 4) aNil)) (eBf cLen (aCons (eVar 3) aNil))) (sRet (eC (.bool false))) sNx) (sRet (eBf cAll (aCons (eL (lComp (iZipS (eVar 3) (eVar 4)) (gT 2 (gsC (gN 5) (gsC (gN 6) gsN))) tY (eCallO "Code" 2 F_is_part 0 (aCons (eVar 5) (aCons (eVar 6) aNil))) [5, 6])) aNil))))) sNx)) (sRet (eC (.bool false)))))
def F_is_instruction : Fds → List PyData → RO PyData := runO "Code" 7 B_is_instruction
def B_check_code : S := (sSeq (sIf (tOr (tNt (tT (eIsO "Code" 0))) (tNt (tT (eCall 1 F_is_width (aCons (eFd "Code" 0 "width") aNil))))) sNo sNx) (sSeq (sIf (tOr (tNt (tT (eCall 1 F_is_number (aCons (eFd "Code" 0 "inputs") aNil)))) (tOr (tNt (tT (eCall 1 F_is_number (aCons (eFd "Code" 0 "registers") aNil)))) (tNt (tT (eIsi "tuple" (eFd "Code" 0 "instructions")))))) sNo sNx) (sFor (iEnu (eFd "Code" 0 "instructions")) (gT 2 (gsC (gN 1) (gsC (gN 2) gsN))) (sIf (tNt (tT (eCallO "Code" 1 F_is_instruction 0 (aCons (eVar 2) aNil)))) sNo sNx))))
def F_check_code : Fds → List PyData → RO PyData := runO "Code" 3 B_check_code
def B_becomes : S := (sSeq (sSet 3 (eIx (eVar 0) (eC (.int 0)))) (sSeq (sIf (tCm dEq (eVar 3) (eC (.str "load"))) (sRet (eIx (eVar 2) (eIx (eVar 0) (eC (.int 2))))) sNx) (sSeq (sIf (tCm dEq (eVar 3) (eC (.str "set"))) (sRet (eIx (eVar 0) (eC (.int 2)))) sNx) (sSeq (sIf (tCm dEq (eVar 3) (eC (.str "times"))) (sRet (eOp dMulX (eIx (eVar 0) (eC (.int 3))) (eIx (eVar 1) (eIx (eVar 0) (eC (.int 2)))))) sNx) (sSeq (sIf (tCm dEq (eVar 3) (eC (.str "add"))) (sRet (eOp dAdd (eIx (eVar 1) (eIx (eVar 0) (eC (.int 1)))) (eIx (eVar 1) (eIx (eVar 0) (eC (.int 2)))))) sNx) (sRet (eBf cMax (aCons (eC (.int 0)) (aCons (eIx (eVar 1) (eIx (eVar 0) (eC (.int 1)))) aNil)))))))))
def F_becomes : List PyData → RO PyData := runD 4 B_becomes
def B_run_code : S := (sSeq (sSetL 2 (lRep (lLst (aCons (eC (.int 0)) aNil)) (eFd "Code" 0 "registers"))) (sSeq (sSetL 3 (lLst aNil)) (sSeq (sFor (iEnu (eFd "Code" 0 "instructions")) (gT 2 (gsC (gN 4) (gsC (gN 5) gsN))) (sSeq (sIf (tCm dEq (eIx (eVar 5) (eC (.int 0))) (eC (.str "give"))) (sSeq (sApp 3 (eIxO 2 (eIx (eVar 5) (eC (.int 1))))) sCt) sNx) (sSeq (sSet 6 (eCallB 3 F_becomes (aCons (eVar 5) (aCons (eB 2) (aCons (eVar 1) aNil))))) (sSeq (sIf (tNt (tT (eCall 2 F_fits (aCons (eVar 6) (aCons (eFd "Code" 0 "width") aNil))))) (sRet (eTup (aCons (eC (.str "overflow")) (aCons (eVar 4) aNil)))) sNx) (sSetI 2 (eIx (eVar 5) (eC (.int 1))) (eVar 6)))))) (sRet (eTup (aCons (eC (.str "done")) (aCons (eTuO 3) aNil)))))))
def F_run_code : Fds → List PyData → RO PyData := runO "Code" 7 B_run_code
def B__law_cell : S := (sSeq (sIf (tCm dLt (eVar 1) (eBf cLen (aCons (eVar 0) aNil))) (sRet (eIx (eVar 0) (eVar 1))) sNx) (sRet (eC (.int 0))))
def F__law_cell : List PyData → RO PyData := runD 2 B__law_cell
def B__law_stream : S2 := (s2Seq (s2If (tCm dGe (eVar 0) (eOp dPow (eC (.int 10)) (eC (.int 18)))) (s2RetL (lLst (aCons (eVar 0) (aCons (eC (.int 1)) aNil)))) s2Nx) (s2RetL (lLst (aCons (eC (.int 0)) (aCons (eVar 0) aNil)))))
def F__law_stream : List PyData → RO (List PyData) := runN 1 B__law_stream
def B__law_take : S2 := (s2Seq (s2If (tCm dGt (eIxO 0 (eC (.int 0))) (eC (.int 0))) (s2Seq (s2Set 2 (eOp dMod (eBf cInt (aCons (eIxO 0 (eC (.int 0))) aNil)) (eVar 1))) (s2Seq (s2SetI 0 (eC (.int 0)) (eOp dDiv (eIxO 0 (eC (.int 0))) (eVar 1))) (s2Ret (eVar 2)))) s2Nx) (s2Seq (s2SetI 0 (eC (.int 1)) (eOp dMod (eBf cInt (aCons (eOp dAdd (eOp dMulX (eIxO 0 (eC (.int 1))) (eC (.int 48271))) (eC (.int 69621))) aNil)) (eC (.int 2147483647)))) (s2Ret (eOp dMod (eBf cInt (aCons (eOp dAdd (eOp dDiv (eOp dMulX (eIxO 0 (eC (.int 1))) (eIxO 0 (eC (.int 1)))) (eC (.int 1009))) (eOp dDiv (eIxO 0 (eC (.int 1))) (eC (.int 7)))) aNil)) (eVar 1)))))
def F__law_take : List PyData → List PyData → RO (PyData × List PyData) := runI 3 B__law_take
def B__law_same (self : List PyData → RO PyData) : S := (sSeq (sIf (tT (eIsi "tuple" (eVar 1))) (sSeq (sIf (tOr (tNt (tT (eIsi "tuple" (eVar 0)))) (tCm dNe (eBf cLen (aCons (eVar 0) aNil)) (eBf cLen (aCons (eVar 1) aNil)))) (sRet (eC (.bool false))) sNx) (sSeq (sFor (iR1 (eBf cLen (aCons (eVar 1) aNil))) (gN 2) (sIf (tNt (tT (eCall 2 self (aCons (eIx (eVar 0) (eVar 2)) (aCons (eIx (eVar 1) (eVar 2)) aNil))))) (sRet (eC (.bool false))) sNx)) (sRet (eC (.bool true))))) sNx) (sSeq (sIf (tCm dIs (eVar 1) (eC .none)) (sRet (eOp dIs (eVar 0) (eC .none))) sNx) (sSeq (sIf (tT (eIsi "str" (eVar 1))) (sRet (eAn (eIsi "str" (eVar 0)) (eOp dEq (eVar 0) (eVar 1)))) sNx) (sSeq (sIf (tT (eIsi "bool" (eVar 1))) (sRet (eAn (eIsi "bool" (eVar 0)) (eOp dEq (eVar 0) (eVar 1)))) sNx) (sRet (eAn (eIsi "int" (eVar 0)) (eAn (eNt (eIsi "bool" (eVar 0))) (eOp dEq (eVar 0) (eVar 1)))))))))
def F__law_same : Nat → List PyData → RO PyData
  | 0 => fun _ => .no
  | fu + 1 => runD 3 (B__law_same (F__law_same fu))
def B__law_machine : S := (sSeq (sSet 4 (eOp dShl (eC (.int 1)) (eOp dSub (eVar 0) (eC (.int 1))))) (sSeq (sSetL 5 (lComp (iR1 (eVar 1)) (gN 10) tY (eC (.int 0)) [10])) (sSeq (sSetL 6 (lLst aNil)) (sSeq (sFor (iR1 (eBf cLen (aCons (eVar 2) aNil))) (gN 7) (sSeq (sSet 8 (eIx (eVar 2) (eVar 7))) (sSeq (sIf (tCm dEq (eIx (eVar 8) (eC (.int 0))) (eC (.str "give"))) (sSeq (sApp 6 (eIxO 5 (eIx (eVar 8) (eC (.int 1))))) sCt) sNx) (sSeq (sSet 9 (eBf cMax (aCons (eC (.int 0)) (aCons (eIxO 5 (eIx (eVar 8) (eC (.int 1)))) aNil)))) (sSeq (sIf (tCm dEq (eIx (eVar 8) (eC (.int 0))) (eC (.str "load"))) (sSet 9 (eIx (eVar 3) (eIx (eVar 8) (eC (.int 2))))) sNx) (sSeq (sIf (tCm dEq (eIx (eVar 8) (eC (.int 0))) (eC (.str "set"))) (sSet 9 (eIx (eVar 8) (eC (.int 2)))) sNx) (sSeq (sIf (tCm dEq (eIx (eVar 8) (eC (.int 0))) (eC (.str "times"))) (sSet 9 (eOp dMulX (eIx (eVar 8) (eC (.int 3))) (eIxO 5 (eIx (eVar 8) (eC (.int 2)))))) sNx) (sSeq (sIf (tCm dEq (eIx (eVar 8) (eC (.int 0))) (eC (.str "add"))) (sSet 9 (eOp dAdd (eIxO 5 (eIx (eVar 8) (eC (.int 1)))) (eIxO 5 (eIx (eVar 8) (eC (.int 2)))))) sNx) (sSeq (sIf (tOr (tCm dLt (eVar 9) (eUn dNeg (eVar 4))) (tCm dGe (eVar 9) (eVar 4))) (sRet (eTup (aCons (eC (.str "overflow")) (aCons (eVar 7) aNil)))) sNx) (sSetI 5 (eIx (eVar 8) (eC (.int 1))) (eVar 9))))))))))) (sRet (eTup (aCons (eC (.str "done")) (aCons (eTuO 6) aNil))))))))
def F__law_machine : List PyData → RO PyData := runD 11 B__law_machine
def B__law_width : S2 := (s2Ret2 (e2Ix (e2Lst (a2C (e2Op dAdd (e2P (eC (.int 2))) (e2CallI 2 0 F__law_take (a2C (e2P (eC (.int 7))) a2N))) (a2C (e2Op dAdd (e2P (eC (.int 2))) (e2CallI 2 0 F__law_take (a2C (e2P (eC (.int 30))) a2N))) (a2C (e2Op dAdd (e2P (eC (.int 2))) (e2CallI 2 0 F__law_take (a2C (e2P (eC (.int 199))) a2N))) (a2C (e2P (eC (.int 200))) a2N))))) (e2CallI 2 0 F__law_take (a2C (e2P (eC (.int 4))) a2N))))
def F__law_width : List PyData → List PyData → RO (PyData × List PyData) := runI 1 B__law_width
def B__law_integer : S2 := (s2Seq (s2Set 2 (eOp dShl (eC (.int 1)) (eOp dSub (eVar 1) (eC (.int 1))))) (s2Seq (s2Set2 3 (e2CallI 2 0 F__law_take (a2C (e2P (eC (.int 3))) a2N))) (s2Seq (s2Set2 4 (e2Lst (a2C (e2P (eVar 3)) (a2C (e2P (eUn dNeg (eVar 3))) (a2C (e2P (eOp dSub (eOp dSub (eVar 2) (eC (.int 1))) (eVar 3))) (a2C (e2P (eOp dSub (eVar 3) (eVar 2))) (a2C (e2Op dSub (e2CallI 2 0 F__law_take (a2C (e2P (eOp dMulX (eC (.int 2)) (eVar 2))) a2N)) (e2P (eVar 2))) (a2C (e2Op dSub (e2CallI 2 0 F__law_take (a2C (e2P (eC (.int 9))) a2N)) (e2P (eC (.int 4)))) a2N)))))))) (s2Ret2 (e2Bf cMax (a2C (e2P (eUn dNeg (eVar 2))) (a2C (e2Bf cMin (a2C (e2P (eOp dSub (eVar 2) (eC (.int 1)))) (a2C (e2Ix (e2P (eVar 4)) (e2CallI 2 0 F__law_take (a2C (e2P (eC (.int 6))) a2N))) a2N))) a2N)))))))
def F__law_integer : List PyData → List PyData → RO (PyData × List PyData) := runI 5 B__law_integer
def B__law_row : S2 := (s2Seq (s2Set2 4 (e2CallI 2 0 F__law_take (a2C (e2P (eC (.int 7))) a2N))) (s2Seq (s2Set2 5 (e2CallI 2 0 F__law_take (a2C (e2P (eVar 3)) a2N))) (s2Seq (s2Set2 6 (e2CallI 2 0 F__law_take (a2C (e2P (eVar 3)) a2N))) (s2Seq (s2If (tCm dEq (eVar 4) (eC (.int 0))) (s2Ret2 (e2Tup (a2C (e2P (eC (.str "load"))) (a2C (e2P (eVar 5)) (a2C (e2CallI 2 0 F__law_take (a2C (e2P (eVar 2)) a2N)) a2N))))) s2Nx) (s2Seq (s2If (tCm dEq (eVar 4) (eC (.int 1))) (s2Ret2 (e2Tup (a2C (e2P (eC (.str "set"))) (a2C (e2P (eVar 5)) (a2C (e2CallI 2 0 F__law_integer (a2C (e2P (eVar 1)) a2N)) a2N))))) s2Nx) (s2Seq (s2If (tCm dEq (eVar 4) (eC (.int 2))) (s2Ret2 (e2Tup (a2C (e2P (eC (.str "times"))) (a2C (e2P (eVar 5)) (a2C (e2P (eVar 6)) (a2C (e2CallI 2 0 F__law_integer (a2C (e2P (eVar 1)) a2N)) a2N)))))) s2Nx) (s2Seq (s2If (tCm dLt (eVar 4) (eC (.int 5))) (s2Ret (eTup (aCons (eC (.str "add")) (aCons (eVar 5) (aCons (eVar 6) aNil))))) s2Nx) (s2Ret (eIx (eL (lLst (aCons (eTup (aCons (eC (.str "bend")) (aCons (eVar 5) aNil))) (aCons (eTup (aCons (eC (.str "give")) (aCons (eVar 5) aNil))) aNil)))) (eOp dSub (eVar 4) (eC (.int 5))))))))))))
def F__law_row : List PyData → List PyData → RO (PyData × List PyData) := runI 7 B__law_row
def B__law_inputs : S2 := (s2Seq (s2Set 3 (eOp dShl (eC (.int 1)) (eOp dSub (eVar 1) (eC (.int 1))))) (s2Seq (s2SetL 4 (lLst aNil)) (s2Seq (s2For (i2P (iR1 (eVar 2))) (gN 5) (s2Seq (s2Set2 6 (e2CallI 2 0 F__law_integer (a2C (e2P (eVar 1)) a2N))) (s2Seq (s2If2 (t2Cm dEq (e2CallI 2 0 F__law_take (a2C (e2P (eC (.int 12))) a2N)) (e2P (eC (.int 0)))) (s2Set2 6 (e2Ix (e2Lst (a2C (e2P (eVar 3)) (a2C (e2P (eOp dSub (eUn dNeg (eVar 3)) (eC (.int 1)))) (a2C (e2Op dAdd (e2P (eVar 3)) (e2CallI 2 0 F__law_take (a2C (e2P (eOp dPow (eC (.int 10)) (eC (.int 6)))) a2N))) a2N)))) (e2CallI 2 0 F__law_take (a2C (e2P (eC (.int 3))) a2N)))) s2Nx) (s2App2 4 (e2P (eVar 6)))))) (frz2 4 (s2Ret (eVar 4))))))
def F__law_inputs : List PyData → List PyData → RO (PyData × List PyData) := runI 7 B__law_inputs
def B_law : S := (sSeq (sSetL 1 (lCallN 1 F__law_stream (aCons (eCall 2 F__law_cell (aCons (eVar 0) (aCons (eC (.int 0)) aNil))) aNil))) (sSeq (sSet2 2 (e2CallI 1 1 F__law_width a2N)) (sSeq (sSet2 3 (e2Op dAdd (e2P (eC (.int 1))) (e2CallI 2 1 F__law_take (a2C (e2P (eC (.int 4))) a2N)))) (sSeq (sSet2 4 (e2Op dAdd (e2P (eC (.int 1))) (e2CallI 2 1 F__law_take (a2C (e2P (eC (.int 6))) a2N)))) (sSeq (sSet2 5 (e2CallI 3 1 F__law_inputs (a2C (e2P (eVar 2)) (a2C (e2P (eVar 3)) a2N)))) (sSeq (sSetL 6 (lComp (iR1 (eVar 3)) (gN 11) tY (eTup (aCons (eC (.str "load")) (aCons (eOp dMod (eVar 11) (eVar 4)) (aCons (eVar 11) aNil)))) [11])) (sSeq (sFor (iSeq (eSl (eVar 0) (oS (eC (.int 1))) (oS (eC (.int 41))))) (gN 7) (sApp2 6 (e2CallL 4 F__law_row (lCallN 1 F__law_stream (aCons (eVar 7) aNil)) (aCons (eVar 2) (aCons (eVar 3) (aCons (eVar 4) aNil)))))) (sSeq (sMk4 8 "Code" "width" "inputs" "registers" "instructions" (aCons (eVar 2) (aCons (eVar 3) (aCons (eVar 4) (aCons (eTuO 6) aNil))))) (sSeq (sIf (tCm dIsN (eCallO "Code" 0 F_check_code 8 aNil) (eC .none)) (sRet (eC (.bool false))) sNx) (sSeq (sSet 9 (eCallB 4 F__law_machine (aCons (eVar 2) (aCons (eVar 4) (aCons (eB 6) (aCons (eVar 5) aNil)))))) (sSeq (sSet 10 (eL (lLi (eVar 5)))) (sSeq (sFor (iR1 (eC (.int 2))) (gN 11) (sIf (tOr (tNt (tT (eCall 2 (F__law_same RD) (aCons (eCallO "Code" 1 F_run_code 8 (aCons (eVar 10) aNil)) (aCons (eVar 9) aNil))))) (tCm dNe (eVar 10) (eVar 5))) (sRet (eC (.bool false))) sNx)) (sSeq (sIf (tNt (tT (eCall 2 (F__law_same RD) (aCons (eCallO "Code" 1 F_run_code 8 (aCons (eTu (eVar 5)) aNil)) (aCons (eVar 9) aNil))))) (sRet (eC (.bool false))) sNx) (sRet (eAn (eOp dEq (eFd "Code" 8 "instructions") (eTuO 6)) (eAn (eOp dEq (eFd "Code" 8 "width") (eVar 2)) (eAn (eOp dEq (eFd "Code" 8 "registers") (eVar 4)) (eOp dEq (eFd "Code" 8 "inputs") (eVar 3)))))))))))))))))))
def F_law : List PyData → RO PyData := runD 12 B_law
end KM
set_option Elab.async false
set_option linter.all false
set_option maxRecDepth 100000
set_option maxHeartbeats 4000000
namespace KM
open PySem PySem.Spec PyProof.Rows L2 PD
/-! ### ratios -/
def rat (p q : Int) : PyData := .tuple [.int p, .int q]
/-- what stands for a over b in lowest terms -/
def Lw (a b p q : Int) : Prop := 0 < q ∧ Int.gcd p q = 1 ∧ p * b = a * q ∧ p.natAbs ≤ a.natAbs ∧ q.natAbs ≤ b.natAbs
/-! ### the law's own -/
/-- a ratio of that size -/
def Rt (n : Nat) (p q : Int) : Prop := 0 < q ∧ Int.gcd p q = 1 ∧ Sm n p ∧ Sm n q
theorem Lw.rt {n : Nat} {a b p q : Int} (h : Lw a b p q) (sa : Sm n a) (sb : Sm n b) : Rt n p q := ⟨h.1, h.2.1, sa.le h.2.2.2.1, sb.le h.2.2.2.2⟩
theorem fdiv_le {c : Int} {k : Int} (h : 0 < k) : (c.fdiv k).natAbs ≤ c.natAbs := by
  rw [Int.fdiv_eq_ediv_of_nonneg c (Int.le_of_lt h)]
  exact Int.natAbs_ediv_le_natAbs c k
theorem ml {m n : Nat} {i j : Int} (h : Sm m i) (k : Sm n j) (l : m + n < 100000000 := by decide) : dMul (.int i) (.int j) = some (.int (i * j)) := x_mul (mulOk_sm h k l)
def rt (x : Int × Int) : PyData := rat x.1 x.2
/-! ### the pair in lowest terms that stands for a over b, 0 < b -/
theorem mlX {m n : Nat} {i j : Int} (h : Sm m i) (k : Sm n j) (l : m + n < 100000000 := by decide) : dMulX (.int i) (.int j) = some (.int (i * j)) := by
  show (if mulOk i j = true then some (PyData.int (i * j)) else none) = _
  rw [if_pos (mulOk_sm h k l)]
def negL (x : Int × Int) : Int × Int := (-x.1, x.2)
section
variable {x y : Int × Int} {n m : Nat}
end
/-! ### the law's own equality -/
inductive Flat : Nat → PyData → Prop where
  | int {n : Nat} (i : Int) : Flat n (.int i)
  | bool {n : Nat} (b : Bool) : Flat n (.bool b)
  | tup {n : Nat} (xs : List PyData) : xs.length ≤ 1000 → (∀ x ∈ xs, Flat n x) → Flat (n + 1) (.tuple xs)
theorem all_true {α : Type} (xs : List α) : cAll [.list (xs.map fun _ => PyData.bool true)] = some (.bool true) := by
  have h : bools (xs.map fun _ => PyData.bool true) = some (xs.map fun _ => true) := by
    induction xs with
    | nil => rfl
    | cons x xs ih =>
      show (bools (xs.map fun _ => PyData.bool true)).map (true :: ·) = _
      rw [ih]
      rfl
  show (bools (xs.map fun _ => PyData.bool true)).map _ = _
  rw [h]
  show some (PyData.bool ((xs.map fun _ => true).all id)) = _
  congr 2
  rw [List.all_eq_true]
  intro b hb
  obtain ⟨_, _, rfl⟩ := List.mem_map.mp hb
  rfl
/-! ### dot -/
abbrev PP := (Int × Int) × (Int × Int)
theorem Rt.mono {n m : Nat} {a b : Int} (h : Rt n a b) (l : n ≤ m) : Rt m a b := ⟨h.1, h.2.1, h.2.2.1.mono l, h.2.2.2.mono l⟩
def vz (zs : List PP) : List PyData := zs.map fun z => rt z.1
/-! ### what the law draws -/
theorem pick {P : Int → Prop} : ∀ (l : List Int) (i : Nat), i < l.length → (∀ v ∈ l, P v) → ∃ v, (l.map PyData.int)[i]? = some (.int v) ∧ P v
  | [], i, h, _ => absurd h (Nat.not_lt_zero _)
  | x :: l, 0, _, h => ⟨x, rfl, h x (List.mem_cons_self ..)⟩
  | x :: l, i + 1, hi, h => pick l i (Nat.lt_of_succ_lt_succ hi) fun v hv => h v (List.mem_cons_of_mem _ hv)
theorem pickI {P : Int → Prop} {l : List Int} {i : Int} (h0 : 0 ≤ i) (h1 : i < l.length) (h : ∀ v ∈ l, P v) : ∃ v, atI (l.map PyData.int) i = some (.int v) ∧ P v := by
  obtain ⟨j, rfl⟩ := Int.eq_ofNat_of_zero_le h0
  obtain ⟨v, e, hv⟩ := pick l j (by omega) h
  exact ⟨v, atI_nat e, hv⟩
/-! ### vectors -/
/-! ### zero, unit -/
/-! ### comprehensions over range that walk a list by places -/
theorem compR {i n : Nat} {f : E} {env : PD.Env} (fo : Nat → PyData) (hn : n ≤ 1000) (h : ∀ k, k < n → f (env.set i (some (.fz (.int (0 + (k : Int)))))) = .ok (fo k)) : compD (gN i) tY f env ((List.range n).map fun k : Nat => PyData.int (0 + (k : Int))) = .ok ((List.range n).map fo) :=
  compD_map (fun k : Nat => PyData.int (0 + (k : Int))) fo (List.range n) (by rw [List.length_range]; exact hn) fun k hk => ⟨_, rfl, h k (List.mem_range.mp hk)⟩
/-- such a comprehension, told by the list's items -/
theorem Rt.negL {n : Nat} {x : Int × Int} (h : Rt n x.1 x.2) : Rt n (negL x).1 (negL x).2 := ⟨h.1, by show Int.gcd (-x.1) x.2 = 1; rw [Int.neg_gcd]; exact h.2.1, h.2.2.1.neg, h.2.2.2⟩
/-! ### unit, identity -/
/-! ### matrices -/
end KM
set_option Elab.async false
set_option linter.all false
set_option maxRecDepth 100000
set_option maxHeartbeats 4000000
namespace KM
open PySem PySem.Spec PyProof.Rows L2 PD
/-! ### the law's own ratios -/
section
variable {x0 x1 : PyData}
end
/-! ### draws -/
def St (a b : Int) : Prop := a.natAbs.log2 ≤ 1048576 ∧ b.natAbs.log2 ≤ 1048576
theorem mlB {i j : Int} (h : i.natAbs.log2 ≤ 1048576) (k : j.natAbs.log2 ≤ 1048576) : dMulX (.int i) (.int j) = some (.int (i * j)) := by
  show (if mulOk i j = true then some (PyData.int (i * j)) else none) = _
  rw [if_pos (show mulOk i j = true from decide_eq_true (by omega))]
theorem log_le {i j : Int} (h : i.natAbs ≤ j.natAbs) (k : j.natAbs.log2 ≤ 1048576) : i.natAbs.log2 ≤ 1048576 := by
  by_cases z : i.natAbs = 0
  · rw [z]
    decide
  · have h1 : j.natAbs ≠ 0 := by omega
    have h2 : 2 ^ i.natAbs.log2 ≤ j.natAbs := Nat.le_trans (Nat.log2_self_le z) h
    exact Nat.le_trans ((Nat.le_log2 h1).mpr h2) k
theorem log_small {i : Int} {n : Nat} (h : Sm n i) (l : n ≤ 1048576) : i.natAbs.log2 ≤ 1048576 := by
  by_cases z : i.natAbs = 0
  · rw [z]
    decide
  · have := (Nat.log2_lt z).mpr h
    omega
theorem sm31m (i : Int) : Sm 31 (i % 2147483647) := by
  have h0 := Int.emod_nonneg i (show (2147483647 : Int) ≠ 0 by decide)
  have h1 := Int.emod_lt_of_pos i (show (0 : Int) < 2147483647 by decide)
  unfold Sm
  omega
theorem take_ok {a b m : Int} (hs : St a b) (hm : 0 < m) (hd : divOk m = true) : ∃ v a' b' : Int, F__law_take [.int a, .int b] [.int m] = .ok (.int v, [.int a', .int b']) ∧ 0 ≤ v ∧ v < m ∧ St a' b' := by
  have d7 : divOk 7 = true := by decide +kernel
  have d1009 : divOk 1009 = true := by decide +kernel
  by_cases z : a > 0
  · refine ⟨a % m, a.fdiv m, b, ?_, Int.emod_nonneg a (by omega), Int.emod_lt_of_pos a hm, log_le (fdiv_le hm) hs.1, hs.2⟩
    unfold F__law_take B__law_take
    simp (implicitDefEqProofs := false) only [x_run, x_out_nx, x_out_rt, x_out_er, x_seq, x_seq_nx, x_seq_rt, x_seq_er, x_seq_ct, x_seq_bk, x_ofR_ok, x_ofR_er, x_nx, x_bk, x_ct, x_set, x_setL, x_ret, x_drop, x_retN, x_if, x_raise, x_var, x_gv0, x_gvS, x_gvo0, x_gvoS, x_gb, x_gb0, x_gbO, x_gbS, x_c, x_op, x_cm, x_un, x_bf, x_isi, x_ix, x_ixO, x_ofO_some, x_anil, x_acons, x_tup, x_lst, x_eL, x_tb, x_nt, x_an, x_or, x_ent, x_ean, x_eor, x_eif, x_tT, x_tV, x_tY, x_call, x_callD, x_callK, x_cd1, x_cd2, x_cd3, x_cd4, x_st0, x_stS, x_stN, x_wh, x_for, x_iseq, x_ir1, x_ir2, x_add, x_sub, x_neg, x_dcmp, x_eqI, x_neI, x_absI, x_intI, x_gcdI, x_maxI, x_minI, x_lenL, x_lenT, x_ixL, x_ixT, x_at0, x_at1, x_sz0, x_sz1, x_sz2, x_sz3, x_gN, x_forN, x_for0, x_fB_nx, x_fB_ct, x_fB_bk, x_fB_rt, x_fB_er, x_iTT, x_iTL, x_iTI, x_iLT, x_iLL, x_iII, x_iBI, x_iSS, x_iBB, x_truB, x_itT, x_itL, x_try, RO.bind_ok, RO.bind_er, RO.pure_ok, List.set_cons_zero, List.set_cons_succ, List.cons_append, List.nil_append, if_true, if_false, ite_true, ite_false, reduceIte, Bool.false_eq_true, Bool.true_eq_false, Bool.not_true, Bool.not_false, x_len1, and_self, decide_eq_true_eq, decide_true, decide_false, eq_self, Bool.not_eq_true', decide_eq_false_iff_not, not_true_eq_false, not_false_eq_true, ne_eq, x_eqB, x_neB, x_intB, x_iIB, x_gT2, x_lLi, x_eTu, x_eTuO, x_eLeO, x_dSeqL, x_dSeqT, x_oN, x_oS, x_tI, x_sl, x_cutL, x_cutT, x_comp, x_app, x_asg, x_aug, wipeE, List.length_map, x2_seq, x2_seq_nx, x2_seq_rt, x2_seq_rl, x2_of, x2_nx, x2_set, x2_setI, x2_set20, x2_set21, x2_if, x2_ret, x2_retL, x2_runI, x2_fin, x2_start3, x2_runN, x2_finN, x2_start1, x2_P, x2_N, x2_C, x2_Op, x2_Cm, x2_Ix, x2_Lst, x2_Tup, x2_Call, x2_CallI, x2_cI2, x2_set2, x2_set2S, x2_if2, x2_if2S, x2_callN, x2_cN1, x2_okL, eq_true z, x_mod hm, x_div hd]
  · generalize hb' : (b * 48271 + 69621) % 2147483647 = b'
    have sb : Sm 31 b' := by rw [← hb']; exact sm31m _
    have l1 := log_small sb (by decide)
    have m1 := mlB hs.2 (log_small (show Sm 20 48271 by unfold Sm; decide) (by decide))
    have m2 := mlB l1 l1
    refine ⟨((b' * b').fdiv 1009 + b'.fdiv 7) % m, a, b', ?_, Int.emod_nonneg _ (by omega), Int.emod_lt_of_pos _ hm, hs.1, l1⟩
    unfold F__law_take B__law_take
    simp (implicitDefEqProofs := false) only [x_run, x_out_nx, x_out_rt, x_out_er, x_seq, x_seq_nx, x_seq_rt, x_seq_er, x_seq_ct, x_seq_bk, x_ofR_ok, x_ofR_er, x_nx, x_bk, x_ct, x_set, x_setL, x_ret, x_drop, x_retN, x_if, x_raise, x_var, x_gv0, x_gvS, x_gvo0, x_gvoS, x_gb, x_gb0, x_gbO, x_gbS, x_c, x_op, x_cm, x_un, x_bf, x_isi, x_ix, x_ixO, x_ofO_some, x_anil, x_acons, x_tup, x_lst, x_eL, x_tb, x_nt, x_an, x_or, x_ent, x_ean, x_eor, x_eif, x_tT, x_tV, x_tY, x_call, x_callD, x_callK, x_cd1, x_cd2, x_cd3, x_cd4, x_st0, x_stS, x_stN, x_wh, x_for, x_iseq, x_ir1, x_ir2, x_add, x_sub, x_neg, x_dcmp, x_eqI, x_neI, x_absI, x_intI, x_gcdI, x_maxI, x_minI, x_lenL, x_lenT, x_ixL, x_ixT, x_at0, x_at1, x_sz0, x_sz1, x_sz2, x_sz3, x_gN, x_forN, x_for0, x_fB_nx, x_fB_ct, x_fB_bk, x_fB_rt, x_fB_er, x_iTT, x_iTL, x_iTI, x_iLT, x_iLL, x_iII, x_iBI, x_iSS, x_iBB, x_truB, x_itT, x_itL, x_try, RO.bind_ok, RO.bind_er, RO.pure_ok, List.set_cons_zero, List.set_cons_succ, List.cons_append, List.nil_append, if_true, if_false, ite_true, ite_false, reduceIte, Bool.false_eq_true, Bool.true_eq_false, Bool.not_true, Bool.not_false, x_len1, and_self, decide_eq_true_eq, decide_true, decide_false, eq_self, Bool.not_eq_true', decide_eq_false_iff_not, not_true_eq_false, not_false_eq_true, ne_eq, x_eqB, x_neB, x_intB, x_iIB, x_gT2, x_lLi, x_eTu, x_eTuO, x_eLeO, x_dSeqL, x_dSeqT, x_oN, x_oS, x_tI, x_sl, x_cutL, x_cutT, x_comp, x_app, x_asg, x_aug, wipeE, List.length_map, x2_seq, x2_seq_nx, x2_seq_rt, x2_seq_rl, x2_of, x2_nx, x2_set, x2_setI, x2_set20, x2_set21, x2_if, x2_ret, x2_retL, x2_runI, x2_fin, x2_start3, x2_runN, x2_finN, x2_start1, x2_P, x2_N, x2_C, x2_Op, x2_Cm, x2_Ix, x2_Lst, x2_Tup, x2_Call, x2_CallI, x2_cI2, x2_set2, x2_set2S, x2_if2, x2_if2S, x2_callN, x2_cN1, x2_okL, eq_false z, m1, x_mod (by decide : (0 : Int) < 2147483647), hb', m2, x_div d7, x_div d1009, x_mod hm]
theorem pow_ok (k : Nat) (h : powOk 10 (k : Int) = true) : dPow (.int 10) (.int (k : Int)) = some (.int (10 ^ k)) := by
  show (if powOk 10 (k : Int) = true then some (PyData.int (10 ^ ((k : Int)).toNat)) else none) = _
  rw [if_pos h, Int.toNat_natCast]
theorem pow18 : dPow (.int 10) (.int 18) = some (.int (10 ^ 18)) := pow_ok 18 (by decide +kernel)
theorem stream_ok {c : Int} (h : c.natAbs.log2 ≤ 1048576) : ∃ a b : Int, F__law_stream [.int c] = .ok [.int a, .int b] ∧ St a b := by
  by_cases z : c ≥ 10 ^ 18
  · refine ⟨c, 1, ?_, h, by decide⟩
    unfold F__law_stream B__law_stream
    simp (implicitDefEqProofs := false) only [x_run, x_out_nx, x_out_rt, x_out_er, x_seq, x_seq_nx, x_seq_rt, x_seq_er, x_seq_ct, x_seq_bk, x_ofR_ok, x_ofR_er, x_nx, x_bk, x_ct, x_set, x_setL, x_ret, x_drop, x_retN, x_if, x_raise, x_var, x_gv0, x_gvS, x_gvo0, x_gvoS, x_gb, x_gb0, x_gbO, x_gbS, x_c, x_op, x_cm, x_un, x_bf, x_isi, x_ix, x_ixO, x_ofO_some, x_anil, x_acons, x_tup, x_lst, x_eL, x_tb, x_nt, x_an, x_or, x_ent, x_ean, x_eor, x_eif, x_tT, x_tV, x_tY, x_call, x_callD, x_callK, x_cd1, x_cd2, x_cd3, x_cd4, x_st0, x_stS, x_stN, x_wh, x_for, x_iseq, x_ir1, x_ir2, x_add, x_sub, x_neg, x_dcmp, x_eqI, x_neI, x_absI, x_intI, x_gcdI, x_maxI, x_minI, x_lenL, x_lenT, x_ixL, x_ixT, x_at0, x_at1, x_sz0, x_sz1, x_sz2, x_sz3, x_gN, x_forN, x_for0, x_fB_nx, x_fB_ct, x_fB_bk, x_fB_rt, x_fB_er, x_iTT, x_iTL, x_iTI, x_iLT, x_iLL, x_iII, x_iBI, x_iSS, x_iBB, x_truB, x_itT, x_itL, x_try, RO.bind_ok, RO.bind_er, RO.pure_ok, List.set_cons_zero, List.set_cons_succ, List.cons_append, List.nil_append, if_true, if_false, ite_true, ite_false, reduceIte, Bool.false_eq_true, Bool.true_eq_false, Bool.not_true, Bool.not_false, x_len1, and_self, decide_eq_true_eq, decide_true, decide_false, eq_self, Bool.not_eq_true', decide_eq_false_iff_not, not_true_eq_false, not_false_eq_true, ne_eq, x_eqB, x_neB, x_intB, x_iIB, x_gT2, x_lLi, x_eTu, x_eTuO, x_eLeO, x_dSeqL, x_dSeqT, x_oN, x_oS, x_tI, x_sl, x_cutL, x_cutT, x_comp, x_app, x_asg, x_aug, wipeE, List.length_map, x2_seq, x2_seq_nx, x2_seq_rt, x2_seq_rl, x2_of, x2_nx, x2_set, x2_setI, x2_set20, x2_set21, x2_if, x2_ret, x2_retL, x2_runI, x2_fin, x2_start3, x2_runN, x2_finN, x2_start1, x2_P, x2_N, x2_C, x2_Op, x2_Cm, x2_Ix, x2_Lst, x2_Tup, x2_Call, x2_CallI, x2_cI2, x2_set2, x2_set2S, x2_if2, x2_if2S, x2_callN, x2_cN1, x2_okL, pow18, eq_true z]
  · refine ⟨0, c, ?_, by decide, h⟩
    unfold F__law_stream B__law_stream
    simp (implicitDefEqProofs := false) only [x_run, x_out_nx, x_out_rt, x_out_er, x_seq, x_seq_nx, x_seq_rt, x_seq_er, x_seq_ct, x_seq_bk, x_ofR_ok, x_ofR_er, x_nx, x_bk, x_ct, x_set, x_setL, x_ret, x_drop, x_retN, x_if, x_raise, x_var, x_gv0, x_gvS, x_gvo0, x_gvoS, x_gb, x_gb0, x_gbO, x_gbS, x_c, x_op, x_cm, x_un, x_bf, x_isi, x_ix, x_ixO, x_ofO_some, x_anil, x_acons, x_tup, x_lst, x_eL, x_tb, x_nt, x_an, x_or, x_ent, x_ean, x_eor, x_eif, x_tT, x_tV, x_tY, x_call, x_callD, x_callK, x_cd1, x_cd2, x_cd3, x_cd4, x_st0, x_stS, x_stN, x_wh, x_for, x_iseq, x_ir1, x_ir2, x_add, x_sub, x_neg, x_dcmp, x_eqI, x_neI, x_absI, x_intI, x_gcdI, x_maxI, x_minI, x_lenL, x_lenT, x_ixL, x_ixT, x_at0, x_at1, x_sz0, x_sz1, x_sz2, x_sz3, x_gN, x_forN, x_for0, x_fB_nx, x_fB_ct, x_fB_bk, x_fB_rt, x_fB_er, x_iTT, x_iTL, x_iTI, x_iLT, x_iLL, x_iII, x_iBI, x_iSS, x_iBB, x_truB, x_itT, x_itL, x_try, RO.bind_ok, RO.bind_er, RO.pure_ok, List.set_cons_zero, List.set_cons_succ, List.cons_append, List.nil_append, if_true, if_false, ite_true, ite_false, reduceIte, Bool.false_eq_true, Bool.true_eq_false, Bool.not_true, Bool.not_false, x_len1, and_self, decide_eq_true_eq, decide_true, decide_false, eq_self, Bool.not_eq_true', decide_eq_false_iff_not, not_true_eq_false, not_false_eq_true, ne_eq, x_eqB, x_neB, x_intB, x_iIB, x_gT2, x_lLi, x_eTu, x_eTuO, x_eLeO, x_dSeqL, x_dSeqT, x_oN, x_oS, x_tI, x_sl, x_cutL, x_cutT, x_comp, x_app, x_asg, x_aug, wipeE, List.length_map, x2_seq, x2_seq_nx, x2_seq_rt, x2_seq_rl, x2_of, x2_nx, x2_set, x2_setI, x2_set20, x2_set21, x2_if, x2_ret, x2_retL, x2_runI, x2_fin, x2_start3, x2_runN, x2_finN, x2_start1, x2_P, x2_N, x2_C, x2_Op, x2_Cm, x2_Ix, x2_Lst, x2_Tup, x2_Call, x2_CallI, x2_cI2, x2_set2, x2_set2S, x2_if2, x2_if2S, x2_callN, x2_cN1, x2_okL, pow18, eq_false z]
end KM
set_option Elab.async false
set_option linter.all false
set_option maxRecDepth 100000
set_option maxHeartbeats 4000000
namespace KM
open PySem PySem.Spec PyProof.Rows L2 PD
/-! ### rounding -/
def wh (p q n : Int) : Int := (2 * (p.natAbs : Int) * n + q).fdiv (2 * q)
section
variable {x : Int × Int} {n : Int} {k m : Nat}
end
end KM
set_option Elab.async false
set_option linter.all false
set_option maxRecDepth 100000
set_option maxHeartbeats 4000000
namespace KM
open PySem PySem.Spec PyProof.Rows L2 PD
/-! ### what the law asks of a rounded ratio -/
section
variable {x y : Int × Int} {n m : Nat}
end
end KM
set_option Elab.async false
set_option linter.all false
set_option maxRecDepth 100000
set_option maxHeartbeats 4000000
namespace KM
open PySem PySem.Spec PyProof.Rows L2 PD
theorem log_bits {z : Int} (h : Builtin.Int.intBits z ≤ 1048576) : z.natAbs.log2 ≤ 1048576 := by
  by_cases e : z = 0
  · subst e; decide
  · rw [show Builtin.Int.intBits z = z.natAbs.log2 + 1 from if_neg (by simpa using e)] at h
    omega
theorem cell_ok (ns : List Int) (hb : ∀ z ∈ ns, Builtin.Int.intBits z ≤ 1048576) (k : Nat) : ∃ c, F__law_cell [.list (ns.map .int), .int k] = .ok (.int c) ∧ c.natAbs.log2 ≤ 1048576 := by
  unfold F__law_cell B__law_cell
  by_cases hk : k < ns.length
  · have e : atI (ns.map PyData.int) (k : Int) = some (.int ns[k]) := atI_nat (by rw [List.getElem?_map, List.getElem?_eq_getElem hk]; rfl)
    refine ⟨ns[k], ?_, log_bits (hb _ (List.getElem_mem hk))⟩
    simp (implicitDefEqProofs := false) only [x_run, x_out_nx, x_out_rt, x_out_er, x_seq, x_seq_nx, x_seq_rt, x_seq_er, x_seq_ct, x_seq_bk, x_ofR_ok, x_ofR_er, x_nx, x_bk, x_ct, x_set, x_setL, x_ret, x_drop, x_retN, x_if, x_raise, x_var, x_gv0, x_gvS, x_gvo0, x_gvoS, x_gb, x_gb0, x_gbO, x_gbS, x_c, x_op, x_cm, x_un, x_bf, x_isi, x_ix, x_ixO, x_ofO_some, x_anil, x_acons, x_tup, x_lst, x_eL, x_tb, x_nt, x_an, x_or, x_ent, x_ean, x_eor, x_eif, x_tT, x_tV, x_tY, x_call, x_callD, x_callK, x_cd1, x_cd2, x_cd3, x_cd4, x_st0, x_stS, x_stN, x_wh, x_for, x_iseq, x_ir1, x_ir2, x_add, x_sub, x_neg, x_dcmp, x_eqI, x_neI, x_absI, x_intI, x_gcdI, x_maxI, x_minI, x_lenL, x_lenT, x_ixL, x_ixT, x_at0, x_at1, x_sz0, x_sz1, x_sz2, x_sz3, x_gN, x_forN, x_for0, x_fB_nx, x_fB_ct, x_fB_bk, x_fB_rt, x_fB_er, x_iTT, x_iTL, x_iTI, x_iLT, x_iLL, x_iII, x_iBI, x_iSS, x_iBB, x_truB, x_itT, x_itL, x_try, RO.bind_ok, RO.bind_er, RO.pure_ok, List.set_cons_zero, List.set_cons_succ, List.cons_append, List.nil_append, if_true, if_false, ite_true, ite_false, reduceIte, Bool.false_eq_true, Bool.true_eq_false, Bool.not_true, Bool.not_false, x_len1, and_self, decide_eq_true_eq, decide_true, decide_false, eq_self, Bool.not_eq_true', decide_eq_false_iff_not, not_true_eq_false, not_false_eq_true, ne_eq, x_eqB, x_neB, x_intB, x_iIB, x_gT2, x_lLi, x_eTu, x_eTuO, x_eLeO, x_dSeqL, x_dSeqT, x_oN, x_oS, x_tI, x_sl, x_cutL, x_cutT, x_comp, x_app, x_asg, x_aug, wipeE, List.length_map, List.length_map, Int.ofNat_lt, hk, e]
  · refine ⟨0, ?_, by decide⟩
    simp (implicitDefEqProofs := false) only [x_run, x_out_nx, x_out_rt, x_out_er, x_seq, x_seq_nx, x_seq_rt, x_seq_er, x_seq_ct, x_seq_bk, x_ofR_ok, x_ofR_er, x_nx, x_bk, x_ct, x_set, x_setL, x_ret, x_drop, x_retN, x_if, x_raise, x_var, x_gv0, x_gvS, x_gvo0, x_gvoS, x_gb, x_gb0, x_gbO, x_gbS, x_c, x_op, x_cm, x_un, x_bf, x_isi, x_ix, x_ixO, x_ofO_some, x_anil, x_acons, x_tup, x_lst, x_eL, x_tb, x_nt, x_an, x_or, x_ent, x_ean, x_eor, x_eif, x_tT, x_tV, x_tY, x_call, x_callD, x_callK, x_cd1, x_cd2, x_cd3, x_cd4, x_st0, x_stS, x_stN, x_wh, x_for, x_iseq, x_ir1, x_ir2, x_add, x_sub, x_neg, x_dcmp, x_eqI, x_neI, x_absI, x_intI, x_gcdI, x_maxI, x_minI, x_lenL, x_lenT, x_ixL, x_ixT, x_at0, x_at1, x_sz0, x_sz1, x_sz2, x_sz3, x_gN, x_forN, x_for0, x_fB_nx, x_fB_ct, x_fB_bk, x_fB_rt, x_fB_er, x_iTT, x_iTL, x_iTI, x_iLT, x_iLL, x_iII, x_iBI, x_iSS, x_iBB, x_truB, x_itT, x_itL, x_try, RO.bind_ok, RO.bind_er, RO.pure_ok, List.set_cons_zero, List.set_cons_succ, List.cons_append, List.nil_append, if_true, if_false, ite_true, ite_false, reduceIte, Bool.false_eq_true, Bool.true_eq_false, Bool.not_true, Bool.not_false, x_len1, and_self, decide_eq_true_eq, decide_true, decide_false, eq_self, Bool.not_eq_true', decide_eq_false_iff_not, not_true_eq_false, not_false_eq_true, ne_eq, x_eqB, x_neB, x_intB, x_iIB, x_gT2, x_lLi, x_eTu, x_eTuO, x_eLeO, x_dSeqL, x_dSeqT, x_oN, x_oS, x_tI, x_sl, x_cutL, x_cutT, x_comp, x_app, x_asg, x_aug, wipeE, List.length_map, List.length_map, Int.ofNat_lt, hk]
section
variable {ns : List Int} {a b n above mode : Int} {x : Int × Int} {x6 : Option SV}
end
end KM
set_option Elab.async false
set_option linter.all false
set_option maxRecDepth 100000
set_option maxHeartbeats 4000000
namespace KM
open PySem PySem.Spec PyProof.Rows L2 PD
/-! ### lows and highs -/
inductive Fine : Nat → PyData → Prop
  | int {n : Nat} (i : Int) (h : Sm 2000 i) : Fine n (.int i)
  | bool {n : Nat} (b : Bool) : Fine n (.bool b)
  | non {n : Nat} : Fine n .none
  | str {n : Nat} (s : Str) (h : PyData.strOk s = true) : Fine n (.str s)
  | list {n : Nat} (xs : List PyData) (h : xs.length ≤ 100) (k : ∀ x ∈ xs, Fine n x) : Fine (n + 1) (.list xs)
  | tup {n : Nat} (xs : List PyData) (h : xs.length ≤ 100) (k : ∀ x ∈ xs, Fine n x) : Fine (n + 1) (.tuple xs)
theorem canAll : ∀ xs : List PyData, (∀ x ∈ xs, PyData.canLay0 x = true) → PyData.canLayAll0 xs = true
  | [], _ => by simp [PyData.canLayAll0]
  | x :: xs, h => by
    simp [PyData.canLayAll0]
    exact ⟨h x (.head _), canAll xs fun y hy => h y (.tail _ hy)⟩
theorem depAll {n : Nat} : ∀ xs : List PyData, (∀ x ∈ xs, PyData.depth x ≤ n) → PyData.depthAll xs ≤ n
  | [], _ => by simp [PyData.depthAll]
  | x :: xs, h => by
    simp [PyData.depthAll]
    exact Nat.max_le.mpr ⟨h x (.head _), depAll xs fun y hy => h y (.tail _ hy)⟩
theorem Fine.lay {n : Nat} {d : PyData} (h : Fine n d) : PyData.canLay0 d = true ∧ PyData.depth d ≤ n := by
  induction h with
  | int i h => simp [PyData.canLay0, PyData.depth]
  | bool b => simp [PyData.canLay0, PyData.depth]
  | non => simp [PyData.canLay0, PyData.depth]
  | str s h => simp [PyData.canLay0, PyData.depth, h]
  | list xs h k ih =>
    have h1 := canAll xs fun x hx => (ih x hx).1
    have h2 := depAll xs fun x hx => (ih x hx).2
    simp [PyData.canLay0, PyData.depth, h1]
    omega
  | tup xs h k ih =>
    have h1 := canAll xs fun x hx => (ih x hx).1
    have h2 := depAll xs fun x hx => (ih x hx).2
    simp [PyData.canLay0, PyData.depth, h1]
    omega
theorem Fine.shaped {n : Nat} {d : PyData} (h : Fine n d) (l : n ≤ 64) : SeqAt.shaped d = true := by
  unfold SeqAt.shaped
  rw [h.lay.1, decide_eq_true (Nat.le_trans h.lay.2 l)]
  rfl
theorem Fine.up {n : Nat} {d : PyData} (h : Fine n d) : ∀ {m : Nat}, n ≤ m → Fine m d := by
  induction h with
  | int i h => exact fun _ => .int i h
  | bool b => exact fun _ => .bool b
  | non => exact fun _ => .non
  | str s h => exact fun _ => .str s h
  | list xs h k ih =>
    intro m l
    cases m with
    | zero => omega
    | succ m => exact .list xs h fun x hx => ih x hx (by omega)
  | tup xs h k ih =>
    intro m l
    cases m with
    | zero => omega
    | succ m => exact .tup xs h fun x hx => ih x hx (by omega)
theorem j1 {i : Int} : isiO "int" (.int i) = some (.bool true) := rfl
theorem j2 {i : Int} : isiO "bool" (.int i) = some (.bool false) := rfl
theorem isInt_i {i : Int} : F_is_integer [.int i] = .ok (.bool true) := by unfold F_is_integer B_is_integer; simp (implicitDefEqProofs := false) only [x_run, x_out_nx, x_out_rt, x_out_er, x_seq, x_seq_nx, x_seq_rt, x_seq_er, x_seq_ct, x_seq_bk, x_ofR_ok, x_ofR_er, x_nx, x_bk, x_ct, x_set, x_setL, x_ret, x_drop, x_retN, x_if, x_raise, x_var, x_gv0, x_gvS, x_gvo0, x_gvoS, x_gb, x_gb0, x_gbO, x_gbS, x_c, x_op, x_cm, x_un, x_bf, x_isi, x_ix, x_ixO, x_ofO_some, x_anil, x_acons, x_tup, x_lst, x_eL, x_tb, x_nt, x_an, x_or, x_ent, x_ean, x_eor, x_eif, x_tT, x_tV, x_tY, x_call, x_callD, x_callK, x_cd1, x_cd2, x_cd3, x_cd4, x_st0, x_stS, x_stN, x_wh, x_for, x_iseq, x_ir1, x_ir2, x_add, x_sub, x_neg, x_dcmp, x_eqI, x_neI, x_absI, x_intI, x_gcdI, x_maxI, x_minI, x_lenL, x_lenT, x_ixL, x_ixT, x_at0, x_at1, x_sz0, x_sz1, x_sz2, x_sz3, x_gN, x_forN, x_for0, x_fB_nx, x_fB_ct, x_fB_bk, x_fB_rt, x_fB_er, x_iTT, x_iTL, x_iTI, x_iLT, x_iLL, x_iII, x_iBI, x_iSS, x_iBB, x_truB, x_itT, x_itL, x_try, RO.bind_ok, RO.bind_er, RO.pure_ok, List.set_cons_zero, List.set_cons_succ, List.cons_append, List.nil_append, if_true, if_false, ite_true, ite_false, reduceIte, Bool.false_eq_true, Bool.true_eq_false, Bool.not_true, Bool.not_false, x_len1, and_self, decide_eq_true_eq, decide_true, decide_false, eq_self, Bool.not_eq_true', decide_eq_false_iff_not, not_true_eq_false, not_false_eq_true, ne_eq, x_eqB, x_neB, x_intB, x_iIB, x_gT2, x_lLi, x_eTu, x_eTuO, x_eLeO, x_dSeqL, x_dSeqT, x_oN, x_oS, x_tI, x_sl, x_cutL, x_cutT, x_comp, x_app, x_asg, x_aug, wipeE, List.length_map, j1, j2]
theorem eqvAll_refl : ∀ xs : List PyData, (∀ x ∈ xs, PyData.eqv x x = true) → PyData.eqvAll xs xs = true
  | [], _ => by simp [PyData.eqvAll]
  | x :: xs, h => by
    simp [PyData.eqvAll]
    exact ⟨h x (.head _), eqvAll_refl xs fun y hy => h y (.tail _ hy)⟩
theorem Fine.refl {n : Nat} {d : PyData} (h : Fine n d) : PyData.eqv d d = true := by
  induction h with
  | int i h => simp [PyData.eqv]
  | bool b => simp [PyData.eqv]
  | non => simp [PyData.eqv]
  | str s h => simp [PyData.eqv]
  | list xs h k ih => simp [PyData.eqv, eqvAll_refl xs ih]
  | tup xs h k ih => simp [PyData.eqv, eqvAll_refl xs ih]
theorem Fine.eq_self {n : Nat} {d : PyData} (h : Fine n d) (l : n ≤ 64) : dEq d d = some (.bool true) := by
  have hs := h.shaped l
  have hr := h.refl
  cases h with
  | int i _ => show some (PyData.bool (decide (i = i))) = _; rw [decide_eq_true rfl]
  | bool b => show some (PyData.bool (decide (b = b))) = _; rw [decide_eq_true rfl]
  | non =>
    show (if SeqAt.shaped .none = true ∧ SeqAt.shaped .none = true then some (PyData.bool (PyData.eqv .none .none)) else none) = _
    rw [if_pos ⟨hs, hs⟩, hr]
  | str s _ => show some (PyData.bool (decide (s = s))) = _; rw [decide_eq_true rfl]
  | list xs _ _ =>
    show (if SeqAt.shaped (.list xs) = true ∧ SeqAt.shaped (.list xs) = true then some (PyData.bool (PyData.eqv (.list xs) (.list xs))) else none) = _
    rw [if_pos ⟨hs, hs⟩, hr]
  | tup xs _ _ =>
    show (if SeqAt.shaped (.tuple xs) = true ∧ SeqAt.shaped (.tuple xs) = true then some (PyData.bool (PyData.eqv (.tuple xs) (.tuple xs))) else none) = _
    rw [if_pos ⟨hs, hs⟩, hr]
theorem Fine.ne_self {n : Nat} {d : PyData} (h : Fine n d) (l : n ≤ 64) : dNe d d = some (.bool false) := by
  unfold dNe
  rw [h.eq_self l]
  rfl
end KM
set_option Elab.async false
set_option linter.all false
set_option maxRecDepth 100000
set_option maxHeartbeats 4000000
namespace KM
open PySem PySem.Spec PyProof.Rows L2 PD
/-! ### instances, evaluated -/
def lk (fs : Fds) (f : Str) : RO PyData := match fs.lookup f with
  | some d => .ok d
  | none => .no
section
variable {c f : Str} {fs : Fds} {r env : PD.Env} {i m n : Nat} {x : Option SV} {a b d : PyData} {ds xs : List PyData} {B : S} {F : Fds → List PyData → RO PyData} {G : List PyData → RO PyData} {ga fl : A} {fa fb fk : E}
theorem gob0 : gOb c (some (.ob c fs) :: r) 0 = .ok fs := by
  unfold gOb
  rw [List.getElem?_cons_zero]
  show (if c = c then RO.ok fs else .no) = _
  rw [if_pos rfl]
theorem gobS : gOb c (x :: r) (i + 1) = gOb c r i := by
  unfold gOb
  rw [List.getElem?_cons_succ]
theorem x_fd : eFd c i f env = (gOb c env i >>= fun fs => lk fs f) := rfl
theorem x_isO : eIsO c i env = (gOb c env i >>= fun _ => RO.ok (.bool true)) := rfl
theorem x_runO : runO c m B fs ds = outD (B (startO c m fs ds)) := by
  unfold runO
  cases B (startO c m fs ds) <;> rfl
theorem x_stO : startO c (m + 1) fs ds = some (.ob c fs) :: startE m ds := rfl
theorem x_callO : eCallO c n F i ga env = (gOb c env i >>= fun fs => ga env >>= fun ds => if ds.length = n then F fs ds else .no) := rfl
def nL (r : RO PyData) : RO PyData := match r with
  | .ok d => if noL d = true then .ok d else .no
  | _ => .no
theorem x_callB : eCallB n G ga env = (ga env >>= fun ds => nL (callD n G ds)) := rfl
theorem nL_ok (h : noL d = true) : nL (.ok d) = .ok d := if_pos h
theorem nL_int {k : Int} : nL (.ok (.int k)) = .ok (.int k) := rfl
theorem x_len0 : (([] : List PyData).length = 0) = True := eq_true rfl
theorem x_len2 : ([a, b].length = 2) = True := eq_true rfl
theorem x_eB : eB i env = gb env i := rfl
theorem x_rep : lRep ga fb env = (ga env >>= fun xs => fb env >>= fun y => match y with
  | .int k => if -(2 ^ 62) ≤ k ∧ xs.length * k.toNat ≤ 1000000 ∧ k ≤ 2 ^ 62 then .ok (List.replicate k.toNat xs).flatten else .no
  | _ => .no) := rfl
def setR (env : PD.Env) (i : Nat) (d : PyData) (xs : List PyData) (k : PyData) : SO := match k with
  | .int k => (match setD xs k d with
    | some ys => .nx (env.set i (some (.own ys)))
    | none => .no)
  | _ => .no
theorem x_setI : sSetI i fk fa env = ofR (fa env) env fun d => ofR (gvo env i) env fun xs => ofR (fk env) env fun k => setR env i d xs k := rfl
theorem setD_nat {k : Nat} (h : k < xs.length) : setD xs (k : Int) d = some (xs.set k d) := by
  unfold setD
  have e : ixN xs.length (k : Int) = some k := by
    unfold ixN
    rw [if_pos (by omega), if_pos (by omega), Int.toNat_natCast]
  rw [e]
  rfl
theorem setR_ok {k : Nat} (h : k < xs.length) : setR env i d xs (.int (k : Nat)) = .nx (env.set i (some (.own (xs.set k d)))) := by
  unfold setR
  dsimp only
  rw [setD_nat h]
theorem x_enu : iEnu fa env = (fa env >>= dEnu) := rfl
theorem x_dEnu : dEnu (.tuple xs) = .ok (enD xs) := rfl
end
theorem x_at2 {α : Type} {a b c : α} {l : List α} : atI (a :: b :: c :: l) 2 = some c := atI_nat (j := 2) rfl
theorem x_at3 {α : Type} {a b c d : α} {l : List α} : atI (a :: b :: c :: d :: l) 3 = some d := atI_nat (j := 3) rfl
/-! ### the width -/
def hf (w : Nat) : Int := 2 ^ (w - 1)
theorem hf_pos (w : Nat) : 0 < hf w := Int.pow_pos (by decide)
theorem hf_le {w : Nat} (h : w ≤ 200) : hf w ≤ 2 ^ 199 := by
  have h1 : ((2 ^ (w - 1) : Nat) : Int) ≤ ((2 ^ 199 : Nat) : Int) := Int.ofNat_le.mpr (Nat.pow_le_pow_right (by decide) (by omega))
  have e1 : ((2 ^ (w - 1) : Nat) : Int) = hf w := Int.natCast_pow 2 (w - 1)
  have e2 : ((2 ^ 199 : Nat) : Int) = 2 ^ 199 := Int.natCast_pow 2 199
  rw [e1, e2] at h1
  exact h1
theorem shl_ok {w : Nat} (h1 : 2 ≤ w) (h2 : w ≤ 200) : dShl (.int 1) (.int ((w : Int) - 1)) = some (.int (hf w)) := by
  have hb : Builtin.Int.intBits 1 = 1 := by decide +kernel
  have ho : shlOk 1 ((w : Int) - 1) = true := by
    unfold shlOk
    rw [hb]
    exact decide_eq_true ⟨by omega, by omega⟩
  have et : ((w : Int) - 1).toNat = w - 1 := by omega
  show (if shlOk 1 ((w : Int) - 1) = true then some (PyData.int (1 * 2 ^ ((w : Int) - 1).toNat)) else none) = _
  rw [if_pos ho, et, Int.one_mul]
  rfl
def Fit (w : Nat) (x : Int) : Prop := -(hf w) ≤ x ∧ x < hf w
instance {w : Nat} {x : Int} : Decidable (Fit w x) := inferInstanceAs (Decidable (_ ∧ _))
theorem Fit.sm {w : Nat} {x : Int} (h : Fit w x) (l : w ≤ 200) : Sm 200 x := by
  have h1 := hf_le l
  have h2 := h.1
  have h3 := h.2
  have e : (2 : Int) ^ 199 + 2 ^ 199 = 2 ^ 200 := by decide +kernel
  have e2 : ((2 ^ 200 : Nat) : Int) = 2 ^ 200 := by decide +kernel
  have e3 : (0 : Int) < 2 ^ 199 := by decide +kernel
  unfold Sm
  have : ((x.natAbs : Nat) : Int) < ((2 ^ 200 : Nat) : Int) := by
    rw [e2]
    generalize (2 : Int) ^ 200 = p at *
    generalize (2 : Int) ^ 199 = q at *
    omega
  exact Int.ofNat_lt.mp this
theorem fits_ok {w : Nat} {x : Int} (h1 : 2 ≤ w) (h2 : w ≤ 200) : F_fits [.int x, .int (w : Int)] = .ok (.bool (decide (Fit w x))) := by
  have l1 : F_least_fitting [.int (w : Int)] = .ok (.int (-(hf w))) := by
    unfold F_least_fitting B_least_fitting
    simp (implicitDefEqProofs := false) only [x_run, x_out_nx, x_out_rt, x_out_er, x_seq, x_seq_nx, x_seq_rt, x_seq_er, x_seq_ct, x_seq_bk, x_ofR_ok, x_ofR_er, x_nx, x_bk, x_ct, x_set, x_setL, x_ret, x_drop, x_retN, x_if, x_raise, x_var, x_gv0, x_gvS, x_gvo0, x_gvoS, x_gb, x_gb0, x_gbO, x_gbS, x_c, x_op, x_cm, x_un, x_bf, x_isi, x_ix, x_ixO, x_ofO_some, x_anil, x_acons, x_tup, x_lst, x_eL, x_tb, x_nt, x_an, x_or, x_ent, x_ean, x_eor, x_eif, x_tT, x_tV, x_tY, x_call, x_callD, x_callK, x_cd1, x_cd2, x_cd3, x_cd4, x_st0, x_stS, x_stN, x_wh, x_for, x_iseq, x_ir1, x_ir2, x_add, x_sub, x_neg, x_dcmp, x_eqI, x_neI, x_absI, x_intI, x_gcdI, x_maxI, x_minI, x_lenL, x_lenT, x_ixL, x_ixT, x_at0, x_at1, x_sz0, x_sz1, x_sz2, x_sz3, x_gN, x_forN, x_for0, x_fB_nx, x_fB_ct, x_fB_bk, x_fB_rt, x_fB_er, x_iTT, x_iTL, x_iTI, x_iLT, x_iLL, x_iII, x_iBI, x_iSS, x_iBB, x_truB, x_itT, x_itL, x_try, RO.bind_ok, RO.bind_er, RO.pure_ok, List.set_cons_zero, List.set_cons_succ, List.cons_append, List.nil_append, if_true, if_false, ite_true, ite_false, reduceIte, Bool.false_eq_true, Bool.true_eq_false, Bool.not_true, Bool.not_false, x_len1, and_self, decide_eq_true_eq, decide_true, decide_false, eq_self, Bool.not_eq_true', decide_eq_false_iff_not, not_true_eq_false, not_false_eq_true, ne_eq, x_eqB, x_neB, x_intB, x_iIB, x_gT2, x_lLi, x_eTu, x_eTuO, x_eLeO, x_dSeqL, x_dSeqT, x_oN, x_oS, x_tI, x_sl, x_cutL, x_cutT, x_comp, x_app, x_asg, x_aug, wipeE, List.length_map, x2_seq, x2_seq_nx, x2_seq_rt, x2_seq_rl, x2_of, x2_nx, x2_set, x2_setI, x2_set20, x2_set21, x2_if, x2_ret, x2_retL, x2_runI, x2_fin, x2_start3, x2_runN, x2_finN, x2_start1, x2_P, x2_N, x2_C, x2_Op, x2_Cm, x2_Ix, x2_Lst, x2_Tup, x2_Call, x2_CallI, x2_cI2, x2_set2, x2_set2S, x2_if2, x2_if2S, x2_callN, x2_cN1, x2_okL, x3_Set2, x3_If2, x3_Ret2, x3_tP, x3_tNt, x3_tAn, x3_tOr, x3_Tu, x3_Comp, x3_For2, x3_For2S, x3_Rev, x3_dRev, x3_start2, x3_cI1, x3_seqL, x3_seqT, x4_For, x4_iP, x4_iR, x4_iS, x4_ForX, x4_ForXS, x4_SetL, x4_App, x4_An, x4_Cm, x4_Ch, x4_tCh, x4_cI3, x4_cI4, x4_App2, x4_App2S, shl_ok h1 h2]
  have l2 : F_most_fitting [.int (w : Int)] = .ok (.int (hf w - 1)) := by
    unfold F_most_fitting B_most_fitting
    simp (implicitDefEqProofs := false) only [x_run, x_out_nx, x_out_rt, x_out_er, x_seq, x_seq_nx, x_seq_rt, x_seq_er, x_seq_ct, x_seq_bk, x_ofR_ok, x_ofR_er, x_nx, x_bk, x_ct, x_set, x_setL, x_ret, x_drop, x_retN, x_if, x_raise, x_var, x_gv0, x_gvS, x_gvo0, x_gvoS, x_gb, x_gb0, x_gbO, x_gbS, x_c, x_op, x_cm, x_un, x_bf, x_isi, x_ix, x_ixO, x_ofO_some, x_anil, x_acons, x_tup, x_lst, x_eL, x_tb, x_nt, x_an, x_or, x_ent, x_ean, x_eor, x_eif, x_tT, x_tV, x_tY, x_call, x_callD, x_callK, x_cd1, x_cd2, x_cd3, x_cd4, x_st0, x_stS, x_stN, x_wh, x_for, x_iseq, x_ir1, x_ir2, x_add, x_sub, x_neg, x_dcmp, x_eqI, x_neI, x_absI, x_intI, x_gcdI, x_maxI, x_minI, x_lenL, x_lenT, x_ixL, x_ixT, x_at0, x_at1, x_sz0, x_sz1, x_sz2, x_sz3, x_gN, x_forN, x_for0, x_fB_nx, x_fB_ct, x_fB_bk, x_fB_rt, x_fB_er, x_iTT, x_iTL, x_iTI, x_iLT, x_iLL, x_iII, x_iBI, x_iSS, x_iBB, x_truB, x_itT, x_itL, x_try, RO.bind_ok, RO.bind_er, RO.pure_ok, List.set_cons_zero, List.set_cons_succ, List.cons_append, List.nil_append, if_true, if_false, ite_true, ite_false, reduceIte, Bool.false_eq_true, Bool.true_eq_false, Bool.not_true, Bool.not_false, x_len1, and_self, decide_eq_true_eq, decide_true, decide_false, eq_self, Bool.not_eq_true', decide_eq_false_iff_not, not_true_eq_false, not_false_eq_true, ne_eq, x_eqB, x_neB, x_intB, x_iIB, x_gT2, x_lLi, x_eTu, x_eTuO, x_eLeO, x_dSeqL, x_dSeqT, x_oN, x_oS, x_tI, x_sl, x_cutL, x_cutT, x_comp, x_app, x_asg, x_aug, wipeE, List.length_map, x2_seq, x2_seq_nx, x2_seq_rt, x2_seq_rl, x2_of, x2_nx, x2_set, x2_setI, x2_set20, x2_set21, x2_if, x2_ret, x2_retL, x2_runI, x2_fin, x2_start3, x2_runN, x2_finN, x2_start1, x2_P, x2_N, x2_C, x2_Op, x2_Cm, x2_Ix, x2_Lst, x2_Tup, x2_Call, x2_CallI, x2_cI2, x2_set2, x2_set2S, x2_if2, x2_if2S, x2_callN, x2_cN1, x2_okL, x3_Set2, x3_If2, x3_Ret2, x3_tP, x3_tNt, x3_tAn, x3_tOr, x3_Tu, x3_Comp, x3_For2, x3_For2S, x3_Rev, x3_dRev, x3_start2, x3_cI1, x3_seqL, x3_seqT, x4_For, x4_iP, x4_iR, x4_iS, x4_ForX, x4_ForXS, x4_SetL, x4_App, x4_An, x4_Cm, x4_Ch, x4_tCh, x4_cI3, x4_cI4, x4_App2, x4_App2S, shl_ok h1 h2]
  unfold F_fits B_fits
  by_cases a : -(hf w) ≤ x
  · by_cases b : x ≤ hf w - 1
    · have c : Fit w x := ⟨a, by omega⟩
      simp (implicitDefEqProofs := false) only [x_run, x_out_nx, x_out_rt, x_out_er, x_seq, x_seq_nx, x_seq_rt, x_seq_er, x_seq_ct, x_seq_bk, x_ofR_ok, x_ofR_er, x_nx, x_bk, x_ct, x_set, x_setL, x_ret, x_drop, x_retN, x_if, x_raise, x_var, x_gv0, x_gvS, x_gvo0, x_gvoS, x_gb, x_gb0, x_gbO, x_gbS, x_c, x_op, x_cm, x_un, x_bf, x_isi, x_ix, x_ixO, x_ofO_some, x_anil, x_acons, x_tup, x_lst, x_eL, x_tb, x_nt, x_an, x_or, x_ent, x_ean, x_eor, x_eif, x_tT, x_tV, x_tY, x_call, x_callD, x_callK, x_cd1, x_cd2, x_cd3, x_cd4, x_st0, x_stS, x_stN, x_wh, x_for, x_iseq, x_ir1, x_ir2, x_add, x_sub, x_neg, x_dcmp, x_eqI, x_neI, x_absI, x_intI, x_gcdI, x_maxI, x_minI, x_lenL, x_lenT, x_ixL, x_ixT, x_at0, x_at1, x_sz0, x_sz1, x_sz2, x_sz3, x_gN, x_forN, x_for0, x_fB_nx, x_fB_ct, x_fB_bk, x_fB_rt, x_fB_er, x_iTT, x_iTL, x_iTI, x_iLT, x_iLL, x_iII, x_iBI, x_iSS, x_iBB, x_truB, x_itT, x_itL, x_try, RO.bind_ok, RO.bind_er, RO.pure_ok, List.set_cons_zero, List.set_cons_succ, List.cons_append, List.nil_append, if_true, if_false, ite_true, ite_false, reduceIte, Bool.false_eq_true, Bool.true_eq_false, Bool.not_true, Bool.not_false, x_len1, and_self, decide_eq_true_eq, decide_true, decide_false, eq_self, Bool.not_eq_true', decide_eq_false_iff_not, not_true_eq_false, not_false_eq_true, ne_eq, x_eqB, x_neB, x_intB, x_iIB, x_gT2, x_lLi, x_eTu, x_eTuO, x_eLeO, x_dSeqL, x_dSeqT, x_oN, x_oS, x_tI, x_sl, x_cutL, x_cutT, x_comp, x_app, x_asg, x_aug, wipeE, List.length_map, x2_seq, x2_seq_nx, x2_seq_rt, x2_seq_rl, x2_of, x2_nx, x2_set, x2_setI, x2_set20, x2_set21, x2_if, x2_ret, x2_retL, x2_runI, x2_fin, x2_start3, x2_runN, x2_finN, x2_start1, x2_P, x2_N, x2_C, x2_Op, x2_Cm, x2_Ix, x2_Lst, x2_Tup, x2_Call, x2_CallI, x2_cI2, x2_set2, x2_set2S, x2_if2, x2_if2S, x2_callN, x2_cN1, x2_okL, x3_Set2, x3_If2, x3_Ret2, x3_tP, x3_tNt, x3_tAn, x3_tOr, x3_Tu, x3_Comp, x3_For2, x3_For2S, x3_Rev, x3_dRev, x3_start2, x3_cI1, x3_seqL, x3_seqT, x4_For, x4_iP, x4_iR, x4_iS, x4_ForX, x4_ForXS, x4_SetL, x4_App, x4_An, x4_Cm, x4_Ch, x4_tCh, x4_cI3, x4_cI4, x4_App2, x4_App2S, l1, l2, eq_true a, eq_true b, eq_true c]
    · have c : ¬ Fit w x := fun z => b (by have := z.2; omega)
      simp (implicitDefEqProofs := false) only [x_run, x_out_nx, x_out_rt, x_out_er, x_seq, x_seq_nx, x_seq_rt, x_seq_er, x_seq_ct, x_seq_bk, x_ofR_ok, x_ofR_er, x_nx, x_bk, x_ct, x_set, x_setL, x_ret, x_drop, x_retN, x_if, x_raise, x_var, x_gv0, x_gvS, x_gvo0, x_gvoS, x_gb, x_gb0, x_gbO, x_gbS, x_c, x_op, x_cm, x_un, x_bf, x_isi, x_ix, x_ixO, x_ofO_some, x_anil, x_acons, x_tup, x_lst, x_eL, x_tb, x_nt, x_an, x_or, x_ent, x_ean, x_eor, x_eif, x_tT, x_tV, x_tY, x_call, x_callD, x_callK, x_cd1, x_cd2, x_cd3, x_cd4, x_st0, x_stS, x_stN, x_wh, x_for, x_iseq, x_ir1, x_ir2, x_add, x_sub, x_neg, x_dcmp, x_eqI, x_neI, x_absI, x_intI, x_gcdI, x_maxI, x_minI, x_lenL, x_lenT, x_ixL, x_ixT, x_at0, x_at1, x_sz0, x_sz1, x_sz2, x_sz3, x_gN, x_forN, x_for0, x_fB_nx, x_fB_ct, x_fB_bk, x_fB_rt, x_fB_er, x_iTT, x_iTL, x_iTI, x_iLT, x_iLL, x_iII, x_iBI, x_iSS, x_iBB, x_truB, x_itT, x_itL, x_try, RO.bind_ok, RO.bind_er, RO.pure_ok, List.set_cons_zero, List.set_cons_succ, List.cons_append, List.nil_append, if_true, if_false, ite_true, ite_false, reduceIte, Bool.false_eq_true, Bool.true_eq_false, Bool.not_true, Bool.not_false, x_len1, and_self, decide_eq_true_eq, decide_true, decide_false, eq_self, Bool.not_eq_true', decide_eq_false_iff_not, not_true_eq_false, not_false_eq_true, ne_eq, x_eqB, x_neB, x_intB, x_iIB, x_gT2, x_lLi, x_eTu, x_eTuO, x_eLeO, x_dSeqL, x_dSeqT, x_oN, x_oS, x_tI, x_sl, x_cutL, x_cutT, x_comp, x_app, x_asg, x_aug, wipeE, List.length_map, x2_seq, x2_seq_nx, x2_seq_rt, x2_seq_rl, x2_of, x2_nx, x2_set, x2_setI, x2_set20, x2_set21, x2_if, x2_ret, x2_retL, x2_runI, x2_fin, x2_start3, x2_runN, x2_finN, x2_start1, x2_P, x2_N, x2_C, x2_Op, x2_Cm, x2_Ix, x2_Lst, x2_Tup, x2_Call, x2_CallI, x2_cI2, x2_set2, x2_set2S, x2_if2, x2_if2S, x2_callN, x2_cN1, x2_okL, x3_Set2, x3_If2, x3_Ret2, x3_tP, x3_tNt, x3_tAn, x3_tOr, x3_Tu, x3_Comp, x3_For2, x3_For2S, x3_Rev, x3_dRev, x3_start2, x3_cI1, x3_seqL, x3_seqT, x4_For, x4_iP, x4_iR, x4_iS, x4_ForX, x4_ForXS, x4_SetL, x4_App, x4_An, x4_Cm, x4_Ch, x4_tCh, x4_cI3, x4_cI4, x4_App2, x4_App2S, l1, l2, eq_true a, eq_false b, eq_false c]
  · have c : ¬ Fit w x := fun z => a z.1
    simp (implicitDefEqProofs := false) only [x_run, x_out_nx, x_out_rt, x_out_er, x_seq, x_seq_nx, x_seq_rt, x_seq_er, x_seq_ct, x_seq_bk, x_ofR_ok, x_ofR_er, x_nx, x_bk, x_ct, x_set, x_setL, x_ret, x_drop, x_retN, x_if, x_raise, x_var, x_gv0, x_gvS, x_gvo0, x_gvoS, x_gb, x_gb0, x_gbO, x_gbS, x_c, x_op, x_cm, x_un, x_bf, x_isi, x_ix, x_ixO, x_ofO_some, x_anil, x_acons, x_tup, x_lst, x_eL, x_tb, x_nt, x_an, x_or, x_ent, x_ean, x_eor, x_eif, x_tT, x_tV, x_tY, x_call, x_callD, x_callK, x_cd1, x_cd2, x_cd3, x_cd4, x_st0, x_stS, x_stN, x_wh, x_for, x_iseq, x_ir1, x_ir2, x_add, x_sub, x_neg, x_dcmp, x_eqI, x_neI, x_absI, x_intI, x_gcdI, x_maxI, x_minI, x_lenL, x_lenT, x_ixL, x_ixT, x_at0, x_at1, x_sz0, x_sz1, x_sz2, x_sz3, x_gN, x_forN, x_for0, x_fB_nx, x_fB_ct, x_fB_bk, x_fB_rt, x_fB_er, x_iTT, x_iTL, x_iTI, x_iLT, x_iLL, x_iII, x_iBI, x_iSS, x_iBB, x_truB, x_itT, x_itL, x_try, RO.bind_ok, RO.bind_er, RO.pure_ok, List.set_cons_zero, List.set_cons_succ, List.cons_append, List.nil_append, if_true, if_false, ite_true, ite_false, reduceIte, Bool.false_eq_true, Bool.true_eq_false, Bool.not_true, Bool.not_false, x_len1, and_self, decide_eq_true_eq, decide_true, decide_false, eq_self, Bool.not_eq_true', decide_eq_false_iff_not, not_true_eq_false, not_false_eq_true, ne_eq, x_eqB, x_neB, x_intB, x_iIB, x_gT2, x_lLi, x_eTu, x_eTuO, x_eLeO, x_dSeqL, x_dSeqT, x_oN, x_oS, x_tI, x_sl, x_cutL, x_cutT, x_comp, x_app, x_asg, x_aug, wipeE, List.length_map, x2_seq, x2_seq_nx, x2_seq_rt, x2_seq_rl, x2_of, x2_nx, x2_set, x2_setI, x2_set20, x2_set21, x2_if, x2_ret, x2_retL, x2_runI, x2_fin, x2_start3, x2_runN, x2_finN, x2_start1, x2_P, x2_N, x2_C, x2_Op, x2_Cm, x2_Ix, x2_Lst, x2_Tup, x2_Call, x2_CallI, x2_cI2, x2_set2, x2_set2S, x2_if2, x2_if2S, x2_callN, x2_cN1, x2_okL, x3_Set2, x3_If2, x3_Ret2, x3_tP, x3_tNt, x3_tAn, x3_tOr, x3_Tu, x3_Comp, x3_For2, x3_For2S, x3_Rev, x3_dRev, x3_start2, x3_cI1, x3_seqL, x3_seqT, x4_For, x4_iP, x4_iR, x4_iS, x4_ForX, x4_ForXS, x4_SetL, x4_App, x4_An, x4_Cm, x4_Ch, x4_tCh, x4_cI3, x4_cI4, x4_App2, x4_App2S, l1, l2, eq_false a, eq_false c]
end KM
set_option Elab.async false
set_option linter.all false
set_option maxRecDepth 100000
set_option maxHeartbeats 4000000
namespace KM
open PySem PySem.Spec PyProof.Rows L2 PD
/-! ### words -/
theorem w_load_load : dEq (.str "load") (.str "load") = some (.bool true) := rfl
theorem w_load_set : dEq (.str "load") (.str "set") = some (.bool false) := rfl
theorem w_load_times : dEq (.str "load") (.str "times") = some (.bool false) := rfl
theorem w_load_add : dEq (.str "load") (.str "add") = some (.bool false) := rfl
theorem w_load_give : dEq (.str "load") (.str "give") = some (.bool false) := rfl
theorem w_set_load : dEq (.str "set") (.str "load") = some (.bool false) := rfl
theorem w_set_set : dEq (.str "set") (.str "set") = some (.bool true) := rfl
theorem w_set_times : dEq (.str "set") (.str "times") = some (.bool false) := rfl
theorem w_set_add : dEq (.str "set") (.str "add") = some (.bool false) := rfl
theorem w_set_give : dEq (.str "set") (.str "give") = some (.bool false) := rfl
theorem w_times_load : dEq (.str "times") (.str "load") = some (.bool false) := rfl
theorem w_times_set : dEq (.str "times") (.str "set") = some (.bool false) := rfl
theorem w_times_times : dEq (.str "times") (.str "times") = some (.bool true) := rfl
theorem w_times_add : dEq (.str "times") (.str "add") = some (.bool false) := rfl
theorem w_times_give : dEq (.str "times") (.str "give") = some (.bool false) := rfl
theorem w_add_load : dEq (.str "add") (.str "load") = some (.bool false) := rfl
theorem w_add_set : dEq (.str "add") (.str "set") = some (.bool false) := rfl
theorem w_add_times : dEq (.str "add") (.str "times") = some (.bool false) := rfl
theorem w_add_add : dEq (.str "add") (.str "add") = some (.bool true) := rfl
theorem w_add_give : dEq (.str "add") (.str "give") = some (.bool false) := rfl
theorem w_bend_load : dEq (.str "bend") (.str "load") = some (.bool false) := rfl
theorem w_bend_set : dEq (.str "bend") (.str "set") = some (.bool false) := rfl
theorem w_bend_times : dEq (.str "bend") (.str "times") = some (.bool false) := rfl
theorem w_bend_add : dEq (.str "bend") (.str "add") = some (.bool false) := rfl
theorem w_bend_bend : dEq (.str "bend") (.str "bend") = some (.bool true) := rfl
theorem w_bend_give : dEq (.str "bend") (.str "give") = some (.bool false) := rfl
theorem w_give_load : dEq (.str "give") (.str "load") = some (.bool false) := rfl
theorem w_give_set : dEq (.str "give") (.str "set") = some (.bool false) := rfl
theorem w_give_times : dEq (.str "give") (.str "times") = some (.bool false) := rfl
theorem w_give_add : dEq (.str "give") (.str "add") = some (.bool false) := rfl
theorem w_give_bend : dEq (.str "give") (.str "bend") = some (.bool false) := rfl
theorem w_give_give : dEq (.str "give") (.str "give") = some (.bool true) := rfl
/-! ### rows -/
inductive Rw where
  | load (a b : Nat)
  | sett (a : Nat) (v : Int)
  | times (a b : Nat) (v : Int)
  | add (a b : Nat)
  | bend (a : Nat)
  | give (a : Nat)
def Rw.d : Rw → PyData
  | .load a b => .tuple [.str "load", .int (a : Int), .int (b : Int)]
  | .sett a v => .tuple [.str "set", .int (a : Int), .int v]
  | .times a b v => .tuple [.str "times", .int (a : Int), .int (b : Int), .int v]
  | .add a b => .tuple [.str "add", .int (a : Int), .int (b : Int)]
  | .bend a => .tuple [.str "bend", .int (a : Int)]
  | .give a => .tuple [.str "give", .int (a : Int)]
def Rw.Ok (w r n : Nat) : Rw → Prop
  | .load a b => a < r ∧ b < n
  | .sett a v => a < r ∧ Fit w v
  | .times a b v => a < r ∧ b < r ∧ Fit w v
  | .add a b => a < r ∧ b < r
  | .bend a => a < r
  | .give a => a < r
def Rw.at_ : Rw → Nat
  | .load a _ => a
  | .sett a _ => a
  | .times a _ _ => a
  | .add a _ => a
  | .bend a => a
  | .give a => a
def Rw.isGive : Rw → Bool
  | .give _ => true
  | _ => false
def worth (held inp : List Int) : Rw → Int
  | .load _ b => inp.getD b 0
  | .sett _ v => v
  | .times _ b v => v * held.getD b 0
  | .add a b => held.getD a 0 + held.getD b 0
  | .bend a => if held.getD a 0 > 0 then held.getD a 0 else 0
  | .give _ => 0
def mach (w : Nat) (inp : List Int) : Nat → List Int → List Int → List Rw → PyData
  | _, _, outs, [] => .tuple [.str "done", .tuple (outs.map .int)]
  | p, held, outs, r :: rs => if r.isGive = true then mach w inp (p + 1) held (outs ++ [held.getD r.at_ 0]) rs else
    if Fit w (worth held inp r) then mach w inp (p + 1) (held.set r.at_ (worth held inp r)) outs rs else .tuple [.str "overflow", .int (p : Int)]
theorem at_held {held : List Int} {k : Nat} (h : k < held.length) : atI (held.map PyData.int) (k : Int) = some (.int (held.getD k 0)) := by
  refine atI_nat ?_
  rw [List.getElem?_map, List.getD_eq_getElem?_getD, List.getElem?_eq_getElem h]
  rfl
def Held (w r : Nat) (held : List Int) : Prop := held.length = r ∧ ∀ x ∈ held, Fit w x
theorem fit0 (w : Nat) : Fit w 0 := ⟨by have := hf_pos w; omega, hf_pos w⟩
theorem Held.get {w r : Nat} {held : List Int} (h : Held w r held) (k : Nat) : Fit w (held.getD k 0) := by
  rw [List.getD_eq_getElem?_getD]
  by_cases z : k < held.length
  · rw [List.getElem?_eq_getElem z]
    exact h.2 _ (List.getElem_mem z)
  · rw [List.getElem?_eq_none (by omega)]
    exact fit0 w
theorem Held.set {w r : Nat} {held : List Int} (h : Held w r held) (k : Nat) {x : Int} (hx : Fit w x) : Held w r (held.set k x) := ⟨by rw [List.length_set]; exact h.1, fun y hy => by
  rcases List.mem_or_eq_of_mem_set hy with z | z
  · exact h.2 y z
  · rw [z]; exact hx⟩
/-- what the program's inputs answer -/
def InpD (n : Nat) (inp : List Int) (D : PyData) : Prop := ∀ k : Nat, k < n → dIx D (.int (k : Int)) = some (.int (inp.getD k 0))
theorem inp_list {inp : List Int} : InpD inp.length inp (.list (inp.map .int)) := fun k hk => at_held hk
theorem inp_tuple {inp : List Int} : InpD inp.length inp (.tuple (inp.map .int)) := fun k hk => at_held hk
theorem becomes_ok {w r n : Nat} {held inp : List Int} {D : PyData} {x : Rw} (hw : w ≤ 200) (hh : Held w r held) (hx : x.Ok w r n) (hi : InpD n inp D) (g : x.isGive = false) : F_becomes [x.d, .list (held.map .int), D] = .ok (.int (worth held inp x)) := by
  have l := hh.1
  unfold F_becomes B_becomes
  cases x with
  | load a b =>
    have e := hi b hx.2
    unfold Rw.d worth
    simp (implicitDefEqProofs := false) only [x_run, x_out_nx, x_out_rt, x_out_er, x_seq, x_seq_nx, x_seq_rt, x_seq_er, x_seq_ct, x_seq_bk, x_ofR_ok, x_ofR_er, x_nx, x_bk, x_ct, x_set, x_setL, x_ret, x_drop, x_retN, x_if, x_raise, x_var, x_gv0, x_gvS, x_gvo0, x_gvoS, x_gb, x_gb0, x_gbO, x_gbS, x_c, x_op, x_cm, x_un, x_bf, x_isi, x_ix, x_ixO, x_ofO_some, x_anil, x_acons, x_tup, x_lst, x_eL, x_tb, x_nt, x_an, x_or, x_ent, x_ean, x_eor, x_eif, x_tT, x_tV, x_tY, x_call, x_callD, x_callK, x_cd1, x_cd2, x_cd3, x_cd4, x_st0, x_stS, x_stN, x_wh, x_for, x_iseq, x_ir1, x_ir2, x_add, x_sub, x_neg, x_dcmp, x_eqI, x_neI, x_absI, x_intI, x_gcdI, x_maxI, x_minI, x_lenL, x_lenT, x_ixL, x_ixT, x_at0, x_at1, x_sz0, x_sz1, x_sz2, x_sz3, x_gN, x_forN, x_for0, x_fB_nx, x_fB_ct, x_fB_bk, x_fB_rt, x_fB_er, x_iTT, x_iTL, x_iTI, x_iLT, x_iLL, x_iII, x_iBI, x_iSS, x_iBB, x_truB, x_itT, x_itL, x_try, RO.bind_ok, RO.bind_er, RO.pure_ok, List.set_cons_zero, List.set_cons_succ, List.cons_append, List.nil_append, if_true, if_false, ite_true, ite_false, reduceIte, Bool.false_eq_true, Bool.true_eq_false, Bool.not_true, Bool.not_false, x_len1, and_self, decide_eq_true_eq, decide_true, decide_false, eq_self, Bool.not_eq_true', decide_eq_false_iff_not, not_true_eq_false, not_false_eq_true, ne_eq, x_eqB, x_neB, x_intB, x_iIB, x_gT2, x_lLi, x_eTu, x_eTuO, x_eLeO, x_dSeqL, x_dSeqT, x_oN, x_oS, x_tI, x_sl, x_cutL, x_cutT, x_comp, x_app, x_asg, x_aug, wipeE, List.length_map, x2_seq, x2_seq_nx, x2_seq_rt, x2_seq_rl, x2_of, x2_nx, x2_set, x2_setI, x2_set20, x2_set21, x2_if, x2_ret, x2_retL, x2_runI, x2_fin, x2_start3, x2_runN, x2_finN, x2_start1, x2_P, x2_N, x2_C, x2_Op, x2_Cm, x2_Ix, x2_Lst, x2_Tup, x2_Call, x2_CallI, x2_cI2, x2_set2, x2_set2S, x2_if2, x2_if2S, x2_callN, x2_cN1, x2_okL, x3_Set2, x3_If2, x3_Ret2, x3_tP, x3_tNt, x3_tAn, x3_tOr, x3_Tu, x3_Comp, x3_For2, x3_For2S, x3_Rev, x3_dRev, x3_start2, x3_cI1, x3_seqL, x3_seqT, x4_For, x4_iP, x4_iR, x4_iS, x4_ForX, x4_ForXS, x4_SetL, x4_App, x4_An, x4_Cm, x4_Ch, x4_tCh, x4_cI3, x4_cI4, x4_App2, x4_App2S, w_load_load, x_at2, e]
  | sett a v =>
    unfold Rw.d worth
    simp (implicitDefEqProofs := false) only [x_run, x_out_nx, x_out_rt, x_out_er, x_seq, x_seq_nx, x_seq_rt, x_seq_er, x_seq_ct, x_seq_bk, x_ofR_ok, x_ofR_er, x_nx, x_bk, x_ct, x_set, x_setL, x_ret, x_drop, x_retN, x_if, x_raise, x_var, x_gv0, x_gvS, x_gvo0, x_gvoS, x_gb, x_gb0, x_gbO, x_gbS, x_c, x_op, x_cm, x_un, x_bf, x_isi, x_ix, x_ixO, x_ofO_some, x_anil, x_acons, x_tup, x_lst, x_eL, x_tb, x_nt, x_an, x_or, x_ent, x_ean, x_eor, x_eif, x_tT, x_tV, x_tY, x_call, x_callD, x_callK, x_cd1, x_cd2, x_cd3, x_cd4, x_st0, x_stS, x_stN, x_wh, x_for, x_iseq, x_ir1, x_ir2, x_add, x_sub, x_neg, x_dcmp, x_eqI, x_neI, x_absI, x_intI, x_gcdI, x_maxI, x_minI, x_lenL, x_lenT, x_ixL, x_ixT, x_at0, x_at1, x_sz0, x_sz1, x_sz2, x_sz3, x_gN, x_forN, x_for0, x_fB_nx, x_fB_ct, x_fB_bk, x_fB_rt, x_fB_er, x_iTT, x_iTL, x_iTI, x_iLT, x_iLL, x_iII, x_iBI, x_iSS, x_iBB, x_truB, x_itT, x_itL, x_try, RO.bind_ok, RO.bind_er, RO.pure_ok, List.set_cons_zero, List.set_cons_succ, List.cons_append, List.nil_append, if_true, if_false, ite_true, ite_false, reduceIte, Bool.false_eq_true, Bool.true_eq_false, Bool.not_true, Bool.not_false, x_len1, and_self, decide_eq_true_eq, decide_true, decide_false, eq_self, Bool.not_eq_true', decide_eq_false_iff_not, not_true_eq_false, not_false_eq_true, ne_eq, x_eqB, x_neB, x_intB, x_iIB, x_gT2, x_lLi, x_eTu, x_eTuO, x_eLeO, x_dSeqL, x_dSeqT, x_oN, x_oS, x_tI, x_sl, x_cutL, x_cutT, x_comp, x_app, x_asg, x_aug, wipeE, List.length_map, x2_seq, x2_seq_nx, x2_seq_rt, x2_seq_rl, x2_of, x2_nx, x2_set, x2_setI, x2_set20, x2_set21, x2_if, x2_ret, x2_retL, x2_runI, x2_fin, x2_start3, x2_runN, x2_finN, x2_start1, x2_P, x2_N, x2_C, x2_Op, x2_Cm, x2_Ix, x2_Lst, x2_Tup, x2_Call, x2_CallI, x2_cI2, x2_set2, x2_set2S, x2_if2, x2_if2S, x2_callN, x2_cN1, x2_okL, x3_Set2, x3_If2, x3_Ret2, x3_tP, x3_tNt, x3_tAn, x3_tOr, x3_Tu, x3_Comp, x3_For2, x3_For2S, x3_Rev, x3_dRev, x3_start2, x3_cI1, x3_seqL, x3_seqT, x4_For, x4_iP, x4_iR, x4_iS, x4_ForX, x4_ForXS, x4_SetL, x4_App, x4_An, x4_Cm, x4_Ch, x4_tCh, x4_cI3, x4_cI4, x4_App2, x4_App2S, w_set_load, w_set_set, x_at2]
  | times a b v =>
    have e := at_held (held := held) (k := b) (by rw [l]; exact hx.2.1)
    have m := mlX (hx.2.2.sm hw) ((hh.get b).sm hw)
    unfold Rw.d worth
    simp (implicitDefEqProofs := false) only [x_run, x_out_nx, x_out_rt, x_out_er, x_seq, x_seq_nx, x_seq_rt, x_seq_er, x_seq_ct, x_seq_bk, x_ofR_ok, x_ofR_er, x_nx, x_bk, x_ct, x_set, x_setL, x_ret, x_drop, x_retN, x_if, x_raise, x_var, x_gv0, x_gvS, x_gvo0, x_gvoS, x_gb, x_gb0, x_gbO, x_gbS, x_c, x_op, x_cm, x_un, x_bf, x_isi, x_ix, x_ixO, x_ofO_some, x_anil, x_acons, x_tup, x_lst, x_eL, x_tb, x_nt, x_an, x_or, x_ent, x_ean, x_eor, x_eif, x_tT, x_tV, x_tY, x_call, x_callD, x_callK, x_cd1, x_cd2, x_cd3, x_cd4, x_st0, x_stS, x_stN, x_wh, x_for, x_iseq, x_ir1, x_ir2, x_add, x_sub, x_neg, x_dcmp, x_eqI, x_neI, x_absI, x_intI, x_gcdI, x_maxI, x_minI, x_lenL, x_lenT, x_ixL, x_ixT, x_at0, x_at1, x_sz0, x_sz1, x_sz2, x_sz3, x_gN, x_forN, x_for0, x_fB_nx, x_fB_ct, x_fB_bk, x_fB_rt, x_fB_er, x_iTT, x_iTL, x_iTI, x_iLT, x_iLL, x_iII, x_iBI, x_iSS, x_iBB, x_truB, x_itT, x_itL, x_try, RO.bind_ok, RO.bind_er, RO.pure_ok, List.set_cons_zero, List.set_cons_succ, List.cons_append, List.nil_append, if_true, if_false, ite_true, ite_false, reduceIte, Bool.false_eq_true, Bool.true_eq_false, Bool.not_true, Bool.not_false, x_len1, and_self, decide_eq_true_eq, decide_true, decide_false, eq_self, Bool.not_eq_true', decide_eq_false_iff_not, not_true_eq_false, not_false_eq_true, ne_eq, x_eqB, x_neB, x_intB, x_iIB, x_gT2, x_lLi, x_eTu, x_eTuO, x_eLeO, x_dSeqL, x_dSeqT, x_oN, x_oS, x_tI, x_sl, x_cutL, x_cutT, x_comp, x_app, x_asg, x_aug, wipeE, List.length_map, x2_seq, x2_seq_nx, x2_seq_rt, x2_seq_rl, x2_of, x2_nx, x2_set, x2_setI, x2_set20, x2_set21, x2_if, x2_ret, x2_retL, x2_runI, x2_fin, x2_start3, x2_runN, x2_finN, x2_start1, x2_P, x2_N, x2_C, x2_Op, x2_Cm, x2_Ix, x2_Lst, x2_Tup, x2_Call, x2_CallI, x2_cI2, x2_set2, x2_set2S, x2_if2, x2_if2S, x2_callN, x2_cN1, x2_okL, x3_Set2, x3_If2, x3_Ret2, x3_tP, x3_tNt, x3_tAn, x3_tOr, x3_Tu, x3_Comp, x3_For2, x3_For2S, x3_Rev, x3_dRev, x3_start2, x3_cI1, x3_seqL, x3_seqT, x4_For, x4_iP, x4_iR, x4_iS, x4_ForX, x4_ForXS, x4_SetL, x4_App, x4_An, x4_Cm, x4_Ch, x4_tCh, x4_cI3, x4_cI4, x4_App2, x4_App2S, w_times_load, w_times_set, w_times_times, x_at2, x_at3, e, m]
  | add a b =>
    have e1 := at_held (held := held) (k := a) (by rw [l]; exact hx.1)
    have e2 := at_held (held := held) (k := b) (by rw [l]; exact hx.2)
    unfold Rw.d worth
    simp (implicitDefEqProofs := false) only [x_run, x_out_nx, x_out_rt, x_out_er, x_seq, x_seq_nx, x_seq_rt, x_seq_er, x_seq_ct, x_seq_bk, x_ofR_ok, x_ofR_er, x_nx, x_bk, x_ct, x_set, x_setL, x_ret, x_drop, x_retN, x_if, x_raise, x_var, x_gv0, x_gvS, x_gvo0, x_gvoS, x_gb, x_gb0, x_gbO, x_gbS, x_c, x_op, x_cm, x_un, x_bf, x_isi, x_ix, x_ixO, x_ofO_some, x_anil, x_acons, x_tup, x_lst, x_eL, x_tb, x_nt, x_an, x_or, x_ent, x_ean, x_eor, x_eif, x_tT, x_tV, x_tY, x_call, x_callD, x_callK, x_cd1, x_cd2, x_cd3, x_cd4, x_st0, x_stS, x_stN, x_wh, x_for, x_iseq, x_ir1, x_ir2, x_add, x_sub, x_neg, x_dcmp, x_eqI, x_neI, x_absI, x_intI, x_gcdI, x_maxI, x_minI, x_lenL, x_lenT, x_ixL, x_ixT, x_at0, x_at1, x_sz0, x_sz1, x_sz2, x_sz3, x_gN, x_forN, x_for0, x_fB_nx, x_fB_ct, x_fB_bk, x_fB_rt, x_fB_er, x_iTT, x_iTL, x_iTI, x_iLT, x_iLL, x_iII, x_iBI, x_iSS, x_iBB, x_truB, x_itT, x_itL, x_try, RO.bind_ok, RO.bind_er, RO.pure_ok, List.set_cons_zero, List.set_cons_succ, List.cons_append, List.nil_append, if_true, if_false, ite_true, ite_false, reduceIte, Bool.false_eq_true, Bool.true_eq_false, Bool.not_true, Bool.not_false, x_len1, and_self, decide_eq_true_eq, decide_true, decide_false, eq_self, Bool.not_eq_true', decide_eq_false_iff_not, not_true_eq_false, not_false_eq_true, ne_eq, x_eqB, x_neB, x_intB, x_iIB, x_gT2, x_lLi, x_eTu, x_eTuO, x_eLeO, x_dSeqL, x_dSeqT, x_oN, x_oS, x_tI, x_sl, x_cutL, x_cutT, x_comp, x_app, x_asg, x_aug, wipeE, List.length_map, x2_seq, x2_seq_nx, x2_seq_rt, x2_seq_rl, x2_of, x2_nx, x2_set, x2_setI, x2_set20, x2_set21, x2_if, x2_ret, x2_retL, x2_runI, x2_fin, x2_start3, x2_runN, x2_finN, x2_start1, x2_P, x2_N, x2_C, x2_Op, x2_Cm, x2_Ix, x2_Lst, x2_Tup, x2_Call, x2_CallI, x2_cI2, x2_set2, x2_set2S, x2_if2, x2_if2S, x2_callN, x2_cN1, x2_okL, x3_Set2, x3_If2, x3_Ret2, x3_tP, x3_tNt, x3_tAn, x3_tOr, x3_Tu, x3_Comp, x3_For2, x3_For2S, x3_Rev, x3_dRev, x3_start2, x3_cI1, x3_seqL, x3_seqT, x4_For, x4_iP, x4_iR, x4_iS, x4_ForX, x4_ForXS, x4_SetL, x4_App, x4_An, x4_Cm, x4_Ch, x4_tCh, x4_cI3, x4_cI4, x4_App2, x4_App2S, w_add_load, w_add_set, w_add_times, w_add_add, x_at2, e1, e2]
  | bend a =>
    have e1 := at_held (held := held) (k := a) (by rw [l]; exact hx)
    unfold Rw.d worth
    simp (implicitDefEqProofs := false) only [x_run, x_out_nx, x_out_rt, x_out_er, x_seq, x_seq_nx, x_seq_rt, x_seq_er, x_seq_ct, x_seq_bk, x_ofR_ok, x_ofR_er, x_nx, x_bk, x_ct, x_set, x_setL, x_ret, x_drop, x_retN, x_if, x_raise, x_var, x_gv0, x_gvS, x_gvo0, x_gvoS, x_gb, x_gb0, x_gbO, x_gbS, x_c, x_op, x_cm, x_un, x_bf, x_isi, x_ix, x_ixO, x_ofO_some, x_anil, x_acons, x_tup, x_lst, x_eL, x_tb, x_nt, x_an, x_or, x_ent, x_ean, x_eor, x_eif, x_tT, x_tV, x_tY, x_call, x_callD, x_callK, x_cd1, x_cd2, x_cd3, x_cd4, x_st0, x_stS, x_stN, x_wh, x_for, x_iseq, x_ir1, x_ir2, x_add, x_sub, x_neg, x_dcmp, x_eqI, x_neI, x_absI, x_intI, x_gcdI, x_maxI, x_minI, x_lenL, x_lenT, x_ixL, x_ixT, x_at0, x_at1, x_sz0, x_sz1, x_sz2, x_sz3, x_gN, x_forN, x_for0, x_fB_nx, x_fB_ct, x_fB_bk, x_fB_rt, x_fB_er, x_iTT, x_iTL, x_iTI, x_iLT, x_iLL, x_iII, x_iBI, x_iSS, x_iBB, x_truB, x_itT, x_itL, x_try, RO.bind_ok, RO.bind_er, RO.pure_ok, List.set_cons_zero, List.set_cons_succ, List.cons_append, List.nil_append, if_true, if_false, ite_true, ite_false, reduceIte, Bool.false_eq_true, Bool.true_eq_false, Bool.not_true, Bool.not_false, x_len1, and_self, decide_eq_true_eq, decide_true, decide_false, eq_self, Bool.not_eq_true', decide_eq_false_iff_not, not_true_eq_false, not_false_eq_true, ne_eq, x_eqB, x_neB, x_intB, x_iIB, x_gT2, x_lLi, x_eTu, x_eTuO, x_eLeO, x_dSeqL, x_dSeqT, x_oN, x_oS, x_tI, x_sl, x_cutL, x_cutT, x_comp, x_app, x_asg, x_aug, wipeE, List.length_map, x2_seq, x2_seq_nx, x2_seq_rt, x2_seq_rl, x2_of, x2_nx, x2_set, x2_setI, x2_set20, x2_set21, x2_if, x2_ret, x2_retL, x2_runI, x2_fin, x2_start3, x2_runN, x2_finN, x2_start1, x2_P, x2_N, x2_C, x2_Op, x2_Cm, x2_Ix, x2_Lst, x2_Tup, x2_Call, x2_CallI, x2_cI2, x2_set2, x2_set2S, x2_if2, x2_if2S, x2_callN, x2_cN1, x2_okL, x3_Set2, x3_If2, x3_Ret2, x3_tP, x3_tNt, x3_tAn, x3_tOr, x3_Tu, x3_Comp, x3_For2, x3_For2S, x3_Rev, x3_dRev, x3_start2, x3_cI1, x3_seqL, x3_seqT, x4_For, x4_iP, x4_iR, x4_iS, x4_ForX, x4_ForXS, x4_SetL, x4_App, x4_An, x4_Cm, x4_Ch, x4_tCh, x4_cI3, x4_cI4, x4_App2, x4_App2S, w_bend_load, w_bend_set, w_bend_times, w_bend_add, e1]
  | give a => cases g
end KM
set_option Elab.async false
set_option linter.all false
set_option maxRecDepth 100000
set_option maxHeartbeats 4000000
namespace KM
open PySem PySem.Spec PyProof.Rows L2 PD
def runC1 : S := (sSeq (sIf (tCm dEq (eIx (eVar 5) (eC (.int 0))) (eC (.str "give"))) (sSeq (sApp 3 (eIxO 2 (eIx (eVar 5) (eC (.int 1))))) sCt) sNx) (sSeq (sSet 6 (eCallB 3 F_becomes (aCons (eVar 5) (aCons (eB 2) (aCons (eVar 1) aNil))))) (sSeq (sIf (tNt (tT (eCall 2 F_fits (aCons (eVar 6) (aCons (eFd "Code" 0 "width") aNil))))) (sRet (eTup (aCons (eC (.str "overflow")) (aCons (eVar 4) aNil)))) sNx) (sSetI 2 (eIx (eVar 5) (eC (.int 1))) (eVar 6)))))
def runCT : S := (sSeq (sSetL 2 (lRep (lLst (aCons (eC (.int 0)) aNil)) (eFd "Code" 0 "registers"))) (sSeq (sSetL 3 (lLst aNil)) (sSeq (sFor (iEnu (eFd "Code" 0 "instructions")) (gT 2 (gsC (gN 4) (gsC (gN 5) gsN))) runC1) (sRet (eTup (aCons (eC (.str "done")) (aCons (eTuO 3) aNil)))))))
theorem runC_eq : B_run_code = runCT := rfl
def insC1 : S := (sIf (tCm dEq (eIx (eVar 1) (eC (.int 0))) (eVar 2)) (sSeq (sSet 4 (eSl (eVar 1) (oS (eC (.int 1))) oN)) (sSeq (sIf (tCm dNe (eBf cLen (aCons (eVar 4) aNil)) (eBf cLen (aCons (eVar 3) aNil))) (sRet (eC (.bool false))) sNx) (sRet (eBf cAll (aCons (eL (lComp (iZipS (eVar 3) (eVar 4)) (gT 2 (gsC (gN 5) (gsC (gN 6) gsN))) tY (eCallO "Code" 2 F_is_part 0 (aCons (eVar 5) (aCons (eVar 6) aNil))) [5, 6])) aNil))))) sNx)
def insCT : S := (sSeq (sIf (tOr (tNt (tT (eIsi "tuple" (eVar 1)))) (tCm dEq (eVar 1) (eTup aNil))) (sRet (eC (.bool false))) sNx) (sSeq (sFor (iSeq (eC (.tuple [(.tuple [(.str "load"), (.str "ri")]), (.tuple [(.str "set"), (.str "rn")]), (.tuple [(.str "times"), (.str "rrn")]), (.tuple [(.str "add"), (.str "rr")]), (.tuple [(.str "bend"), (.str "r")]), (.tuple [(.str "give"), (.str "r")])]))) (gT 2 (gsC (gN 2) (gsC (gN 3) gsN))) insC1) (sRet (eC (.bool false)))))
theorem insC_eq : B_is_instruction = insCT := rfl
def chkC1 : S := (sIf (tNt (tT (eCallO "Code" 1 F_is_instruction 0 (aCons (eVar 2) aNil)))) sNo sNx)
def chkCT : S := (sSeq (sIf (tOr (tNt (tT (eIsO "Code" 0))) (tNt (tT (eCall 1 F_is_width (aCons (eFd "Code" 0 "width") aNil))))) sNo sNx) (sSeq (sIf (tOr (tNt (tT (eCall 1 F_is_number (aCons (eFd "Code" 0 "inputs") aNil)))) (tOr (tNt (tT (eCall 1 F_is_number (aCons (eFd "Code" 0 "registers") aNil)))) (tNt (tT (eIsi "tuple" (eFd "Code" 0 "instructions")))))) sNo sNx) (sFor (iEnu (eFd "Code" 0 "instructions")) (gT 2 (gsC (gN 1) (gsC (gN 2) gsN))) chkC1)))
theorem chkC_eq : B_check_code = chkCT := rfl
def macC1 : S := (sSeq (sSet 8 (eIx (eVar 2) (eVar 7))) (sSeq (sIf (tCm dEq (eIx (eVar 8) (eC (.int 0))) (eC (.str "give"))) (sSeq (sApp 6 (eIxO 5 (eIx (eVar 8) (eC (.int 1))))) sCt) sNx) (sSeq (sSet 9 (eBf cMax (aCons (eC (.int 0)) (aCons (eIxO 5 (eIx (eVar 8) (eC (.int 1)))) aNil)))) (sSeq (sIf (tCm dEq (eIx (eVar 8) (eC (.int 0))) (eC (.str "load"))) (sSet 9 (eIx (eVar 3) (eIx (eVar 8) (eC (.int 2))))) sNx) (sSeq (sIf (tCm dEq (eIx (eVar 8) (eC (.int 0))) (eC (.str "set"))) (sSet 9 (eIx (eVar 8) (eC (.int 2)))) sNx) (sSeq (sIf (tCm dEq (eIx (eVar 8) (eC (.int 0))) (eC (.str "times"))) (sSet 9 (eOp dMulX (eIx (eVar 8) (eC (.int 3))) (eIxO 5 (eIx (eVar 8) (eC (.int 2)))))) sNx) (sSeq (sIf (tCm dEq (eIx (eVar 8) (eC (.int 0))) (eC (.str "add"))) (sSet 9 (eOp dAdd (eIxO 5 (eIx (eVar 8) (eC (.int 1)))) (eIxO 5 (eIx (eVar 8) (eC (.int 2)))))) sNx) (sSeq (sIf (tOr (tCm dLt (eVar 9) (eUn dNeg (eVar 4))) (tCm dGe (eVar 9) (eVar 4))) (sRet (eTup (aCons (eC (.str "overflow")) (aCons (eVar 7) aNil)))) sNx) (sSetI 5 (eIx (eVar 8) (eC (.int 1))) (eVar 9))))))))))
def macCT : S := (sSeq (sSet 4 (eOp dShl (eC (.int 1)) (eOp dSub (eVar 0) (eC (.int 1))))) (sSeq (sSetL 5 (lComp (iR1 (eVar 1)) (gN 10) tY (eC (.int 0)) [10])) (sSeq (sSetL 6 (lLst aNil)) (sSeq (sFor (iR1 (eBf cLen (aCons (eVar 2) aNil))) (gN 7) macC1) (sRet (eTup (aCons (eC (.str "done")) (aCons (eTuO 6) aNil))))))))
theorem macC_eq : B__law_machine = macCT := rfl
def inpC1 : S2 := (s2Seq (s2Set2 6 (e2CallI 2 0 F__law_integer (a2C (e2P (eVar 1)) a2N))) (s2Seq (s2If2 (t2Cm dEq (e2CallI 2 0 F__law_take (a2C (e2P (eC (.int 12))) a2N)) (e2P (eC (.int 0)))) (s2Set2 6 (e2Ix (e2Lst (a2C (e2P (eVar 3)) (a2C (e2P (eOp dSub (eUn dNeg (eVar 3)) (eC (.int 1)))) (a2C (e2Op dAdd (e2P (eVar 3)) (e2CallI 2 0 F__law_take (a2C (e2P (eOp dPow (eC (.int 10)) (eC (.int 6)))) a2N))) a2N)))) (e2CallI 2 0 F__law_take (a2C (e2P (eC (.int 3))) a2N)))) s2Nx) (s2App2 4 (e2P (eVar 6)))))
def inpCT : S2 := (s2Seq (s2Set 3 (eOp dShl (eC (.int 1)) (eOp dSub (eVar 1) (eC (.int 1))))) (s2Seq (s2SetL 4 (lLst aNil)) (s2Seq (s2For (i2P (iR1 (eVar 2))) (gN 5) inpC1) (frz2 4 (s2Ret (eVar 4))))))
theorem inpC_eq : B__law_inputs = inpCT := rfl
def lawC1 : S := (sApp2 6 (e2CallL 4 F__law_row (lCallN 1 F__law_stream (aCons (eVar 7) aNil)) (aCons (eVar 2) (aCons (eVar 3) (aCons (eVar 4) aNil)))))
def lawC2 : S := (sIf (tOr (tNt (tT (eCall 2 (F__law_same RD) (aCons (eCallO "Code" 1 F_run_code 8 (aCons (eVar 10) aNil)) (aCons (eVar 9) aNil))))) (tCm dNe (eVar 10) (eVar 5))) (sRet (eC (.bool false))) sNx)
def lawCT : S := (sSeq (sSetL 1 (lCallN 1 F__law_stream (aCons (eCall 2 F__law_cell (aCons (eVar 0) (aCons (eC (.int 0)) aNil))) aNil))) (sSeq (sSet2 2 (e2CallI 1 1 F__law_width a2N)) (sSeq (sSet2 3 (e2Op dAdd (e2P (eC (.int 1))) (e2CallI 2 1 F__law_take (a2C (e2P (eC (.int 4))) a2N)))) (sSeq (sSet2 4 (e2Op dAdd (e2P (eC (.int 1))) (e2CallI 2 1 F__law_take (a2C (e2P (eC (.int 6))) a2N)))) (sSeq (sSet2 5 (e2CallI 3 1 F__law_inputs (a2C (e2P (eVar 2)) (a2C (e2P (eVar 3)) a2N)))) (sSeq (sSetL 6 (lComp (iR1 (eVar 3)) (gN 11) tY (eTup (aCons (eC (.str "load")) (aCons (eOp dMod (eVar 11) (eVar 4)) (aCons (eVar 11) aNil)))) [11])) (sSeq (sFor (iSeq (eSl (eVar 0) (oS (eC (.int 1))) (oS (eC (.int 41))))) (gN 7) lawC1) (sSeq (sMk4 8 "Code" "width" "inputs" "registers" "instructions" (aCons (eVar 2) (aCons (eVar 3) (aCons (eVar 4) (aCons (eTuO 6) aNil))))) (sSeq (sIf (tCm dIsN (eCallO "Code" 0 F_check_code 8 aNil) (eC .none)) (sRet (eC (.bool false))) sNx) (sSeq (sSet 9 (eCallB 4 F__law_machine (aCons (eVar 2) (aCons (eVar 4) (aCons (eB 6) (aCons (eVar 5) aNil)))))) (sSeq (sSet 10 (eL (lLi (eVar 5)))) (sSeq (sFor (iR1 (eC (.int 2))) (gN 11) lawC2) (sSeq (sIf (tNt (tT (eCall 2 (F__law_same RD) (aCons (eCallO "Code" 1 F_run_code 8 (aCons (eTu (eVar 5)) aNil)) (aCons (eVar 9) aNil))))) (sRet (eC (.bool false))) sNx) (sRet (eAn (eOp dEq (eFd "Code" 8 "instructions") (eTuO 6)) (eAn (eOp dEq (eFd "Code" 8 "width") (eVar 2)) (eAn (eOp dEq (eFd "Code" 8 "registers") (eVar 4)) (eOp dEq (eFd "Code" 8 "inputs") (eVar 3)))))))))))))))))))
theorem lawC_eq : B_law = lawCT := rfl
def flds (w n r : Nat) (is : List PyData) : Fds := [("width", .int (w : Int)), ("inputs", .int (n : Int)), ("registers", .int (r : Int)), ("instructions", .tuple is)]
section
variable {w n r : Nat} {is : List PyData}
theorem lk_w : lk (flds w n r is) "width" = .ok (.int (w : Int)) := rfl
theorem lk_n : lk (flds w n r is) "inputs" = .ok (.int (n : Int)) := rfl
theorem lk_r : lk (flds w n r is) "registers" = .ok (.int (r : Int)) := rfl
theorem lk_i : lk (flds w n r is) "instructions" = .ok (.tuple is) := rfl
theorem w_rn : dEq (.str "r") (.str "n") = some (.bool false) := rfl
theorem w_rr : dEq (.str "r") (.str "r") = some (.bool true) := rfl
theorem w_nn : dEq (.str "n") (.str "n") = some (.bool true) := rfl
theorem w_in : dEq (.str "i") (.str "n") = some (.bool false) := rfl
theorem w_ir : dEq (.str "i") (.str "r") = some (.bool false) := rfl
theorem part_r {a : Nat} (h : a < r) : F_is_part (flds w n r is) [.str "r", .int (a : Int)] = .ok (.bool true) := by
  have h0 : (0 : Int) ≤ (a : Int) := by omega
  have h1 : (a : Int) < (r : Int) := by omega
  unfold F_is_part B_is_part
  simp (implicitDefEqProofs := false) only [x_run, x_out_nx, x_out_rt, x_out_er, x_seq, x_seq_nx, x_seq_rt, x_seq_er, x_seq_ct, x_seq_bk, x_ofR_ok, x_ofR_er, x_nx, x_bk, x_ct, x_set, x_setL, x_ret, x_drop, x_retN, x_if, x_raise, x_var, x_gv0, x_gvS, x_gvo0, x_gvoS, x_gb, x_gb0, x_gbO, x_gbS, x_c, x_op, x_cm, x_un, x_bf, x_isi, x_ix, x_ixO, x_ofO_some, x_anil, x_acons, x_tup, x_lst, x_eL, x_tb, x_nt, x_an, x_or, x_ent, x_ean, x_eor, x_eif, x_tT, x_tV, x_tY, x_call, x_callD, x_callK, x_cd1, x_cd2, x_cd3, x_cd4, x_st0, x_stS, x_stN, x_wh, x_for, x_iseq, x_ir1, x_ir2, x_add, x_sub, x_neg, x_dcmp, x_eqI, x_neI, x_absI, x_intI, x_gcdI, x_maxI, x_minI, x_lenL, x_lenT, x_ixL, x_ixT, x_at0, x_at1, x_sz0, x_sz1, x_sz2, x_sz3, x_gN, x_forN, x_for0, x_fB_nx, x_fB_ct, x_fB_bk, x_fB_rt, x_fB_er, x_iTT, x_iTL, x_iTI, x_iLT, x_iLL, x_iII, x_iBI, x_iSS, x_iBB, x_truB, x_itT, x_itL, x_try, RO.bind_ok, RO.bind_er, RO.pure_ok, List.set_cons_zero, List.set_cons_succ, List.cons_append, List.nil_append, if_true, if_false, ite_true, ite_false, reduceIte, Bool.false_eq_true, Bool.true_eq_false, Bool.not_true, Bool.not_false, x_len1, and_self, decide_eq_true_eq, decide_true, decide_false, eq_self, Bool.not_eq_true', decide_eq_false_iff_not, not_true_eq_false, not_false_eq_true, ne_eq, x_eqB, x_neB, x_intB, x_iIB, x_gT2, x_lLi, x_eTu, x_eTuO, x_eLeO, x_dSeqL, x_dSeqT, x_oN, x_oS, x_tI, x_sl, x_cutL, x_cutT, x_comp, x_app, x_asg, x_aug, wipeE, List.length_map, x2_seq, x2_seq_nx, x2_seq_rt, x2_seq_rl, x2_of, x2_nx, x2_set, x2_setI, x2_set20, x2_set21, x2_if, x2_ret, x2_retL, x2_runI, x2_fin, x2_start3, x2_runN, x2_finN, x2_start1, x2_P, x2_N, x2_C, x2_Op, x2_Cm, x2_Ix, x2_Lst, x2_Tup, x2_Call, x2_CallI, x2_cI2, x2_set2, x2_set2S, x2_if2, x2_if2S, x2_callN, x2_cN1, x2_okL, x3_Set2, x3_If2, x3_Ret2, x3_tP, x3_tNt, x3_tAn, x3_tOr, x3_Tu, x3_Comp, x3_For2, x3_For2S, x3_Rev, x3_dRev, x3_start2, x3_cI1, x3_seqL, x3_seqT, x4_For, x4_iP, x4_iR, x4_iS, x4_ForX, x4_ForXS, x4_SetL, x4_App, x4_An, x4_Cm, x4_Ch, x4_tCh, x4_cI3, x4_cI4, x4_App2, x4_App2S, x_runO, x_stO, gob0, gobS, x_fd, lk_w, lk_n, lk_r, isInt_i, w_rn, w_rr, eq_true h0, eq_true h1]
theorem part_i {a : Nat} (h : a < n) : F_is_part (flds w n r is) [.str "i", .int (a : Int)] = .ok (.bool true) := by
  have h0 : (0 : Int) ≤ (a : Int) := by omega
  have h1 : (a : Int) < (n : Int) := by omega
  unfold F_is_part B_is_part
  simp (implicitDefEqProofs := false) only [x_run, x_out_nx, x_out_rt, x_out_er, x_seq, x_seq_nx, x_seq_rt, x_seq_er, x_seq_ct, x_seq_bk, x_ofR_ok, x_ofR_er, x_nx, x_bk, x_ct, x_set, x_setL, x_ret, x_drop, x_retN, x_if, x_raise, x_var, x_gv0, x_gvS, x_gvo0, x_gvoS, x_gb, x_gb0, x_gbO, x_gbS, x_c, x_op, x_cm, x_un, x_bf, x_isi, x_ix, x_ixO, x_ofO_some, x_anil, x_acons, x_tup, x_lst, x_eL, x_tb, x_nt, x_an, x_or, x_ent, x_ean, x_eor, x_eif, x_tT, x_tV, x_tY, x_call, x_callD, x_callK, x_cd1, x_cd2, x_cd3, x_cd4, x_st0, x_stS, x_stN, x_wh, x_for, x_iseq, x_ir1, x_ir2, x_add, x_sub, x_neg, x_dcmp, x_eqI, x_neI, x_absI, x_intI, x_gcdI, x_maxI, x_minI, x_lenL, x_lenT, x_ixL, x_ixT, x_at0, x_at1, x_sz0, x_sz1, x_sz2, x_sz3, x_gN, x_forN, x_for0, x_fB_nx, x_fB_ct, x_fB_bk, x_fB_rt, x_fB_er, x_iTT, x_iTL, x_iTI, x_iLT, x_iLL, x_iII, x_iBI, x_iSS, x_iBB, x_truB, x_itT, x_itL, x_try, RO.bind_ok, RO.bind_er, RO.pure_ok, List.set_cons_zero, List.set_cons_succ, List.cons_append, List.nil_append, if_true, if_false, ite_true, ite_false, reduceIte, Bool.false_eq_true, Bool.true_eq_false, Bool.not_true, Bool.not_false, x_len1, and_self, decide_eq_true_eq, decide_true, decide_false, eq_self, Bool.not_eq_true', decide_eq_false_iff_not, not_true_eq_false, not_false_eq_true, ne_eq, x_eqB, x_neB, x_intB, x_iIB, x_gT2, x_lLi, x_eTu, x_eTuO, x_eLeO, x_dSeqL, x_dSeqT, x_oN, x_oS, x_tI, x_sl, x_cutL, x_cutT, x_comp, x_app, x_asg, x_aug, wipeE, List.length_map, x2_seq, x2_seq_nx, x2_seq_rt, x2_seq_rl, x2_of, x2_nx, x2_set, x2_setI, x2_set20, x2_set21, x2_if, x2_ret, x2_retL, x2_runI, x2_fin, x2_start3, x2_runN, x2_finN, x2_start1, x2_P, x2_N, x2_C, x2_Op, x2_Cm, x2_Ix, x2_Lst, x2_Tup, x2_Call, x2_CallI, x2_cI2, x2_set2, x2_set2S, x2_if2, x2_if2S, x2_callN, x2_cN1, x2_okL, x3_Set2, x3_If2, x3_Ret2, x3_tP, x3_tNt, x3_tAn, x3_tOr, x3_Tu, x3_Comp, x3_For2, x3_For2S, x3_Rev, x3_dRev, x3_start2, x3_cI1, x3_seqL, x3_seqT, x4_For, x4_iP, x4_iR, x4_iS, x4_ForX, x4_ForXS, x4_SetL, x4_App, x4_An, x4_Cm, x4_Ch, x4_tCh, x4_cI3, x4_cI4, x4_App2, x4_App2S, x_runO, x_stO, gob0, gobS, x_fd, lk_w, lk_n, lk_r, isInt_i, w_in, w_ir, eq_true h0, eq_true h1]
theorem part_n {v : Int} (h1 : 2 ≤ w) (h2 : w ≤ 200) (h : Fit w v) : F_is_part (flds w n r is) [.str "n", .int v] = .ok (.bool true) := by
  unfold F_is_part B_is_part
  simp (implicitDefEqProofs := false) only [x_run, x_out_nx, x_out_rt, x_out_er, x_seq, x_seq_nx, x_seq_rt, x_seq_er, x_seq_ct, x_seq_bk, x_ofR_ok, x_ofR_er, x_nx, x_bk, x_ct, x_set, x_setL, x_ret, x_drop, x_retN, x_if, x_raise, x_var, x_gv0, x_gvS, x_gvo0, x_gvoS, x_gb, x_gb0, x_gbO, x_gbS, x_c, x_op, x_cm, x_un, x_bf, x_isi, x_ix, x_ixO, x_ofO_some, x_anil, x_acons, x_tup, x_lst, x_eL, x_tb, x_nt, x_an, x_or, x_ent, x_ean, x_eor, x_eif, x_tT, x_tV, x_tY, x_call, x_callD, x_callK, x_cd1, x_cd2, x_cd3, x_cd4, x_st0, x_stS, x_stN, x_wh, x_for, x_iseq, x_ir1, x_ir2, x_add, x_sub, x_neg, x_dcmp, x_eqI, x_neI, x_absI, x_intI, x_gcdI, x_maxI, x_minI, x_lenL, x_lenT, x_ixL, x_ixT, x_at0, x_at1, x_sz0, x_sz1, x_sz2, x_sz3, x_gN, x_forN, x_for0, x_fB_nx, x_fB_ct, x_fB_bk, x_fB_rt, x_fB_er, x_iTT, x_iTL, x_iTI, x_iLT, x_iLL, x_iII, x_iBI, x_iSS, x_iBB, x_truB, x_itT, x_itL, x_try, RO.bind_ok, RO.bind_er, RO.pure_ok, List.set_cons_zero, List.set_cons_succ, List.cons_append, List.nil_append, if_true, if_false, ite_true, ite_false, reduceIte, Bool.false_eq_true, Bool.true_eq_false, Bool.not_true, Bool.not_false, x_len1, and_self, decide_eq_true_eq, decide_true, decide_false, eq_self, Bool.not_eq_true', decide_eq_false_iff_not, not_true_eq_false, not_false_eq_true, ne_eq, x_eqB, x_neB, x_intB, x_iIB, x_gT2, x_lLi, x_eTu, x_eTuO, x_eLeO, x_dSeqL, x_dSeqT, x_oN, x_oS, x_tI, x_sl, x_cutL, x_cutT, x_comp, x_app, x_asg, x_aug, wipeE, List.length_map, x2_seq, x2_seq_nx, x2_seq_rt, x2_seq_rl, x2_of, x2_nx, x2_set, x2_setI, x2_set20, x2_set21, x2_if, x2_ret, x2_retL, x2_runI, x2_fin, x2_start3, x2_runN, x2_finN, x2_start1, x2_P, x2_N, x2_C, x2_Op, x2_Cm, x2_Ix, x2_Lst, x2_Tup, x2_Call, x2_CallI, x2_cI2, x2_set2, x2_set2S, x2_if2, x2_if2S, x2_callN, x2_cN1, x2_okL, x3_Set2, x3_If2, x3_Ret2, x3_tP, x3_tNt, x3_tAn, x3_tOr, x3_Tu, x3_Comp, x3_For2, x3_For2S, x3_Rev, x3_dRev, x3_start2, x3_cI1, x3_seqL, x3_seqT, x4_For, x4_iP, x4_iR, x4_iS, x4_ForX, x4_ForXS, x4_SetL, x4_App, x4_An, x4_Cm, x4_Ch, x4_tCh, x4_cI3, x4_cI4, x4_App2, x4_App2S, x_runO, x_stO, gob0, gobS, x_fd, lk_w, lk_n, lk_r, isInt_i, w_nn, fits_ok h1 h2, eq_true h]
end
section
variable {fs : Fds} {v0 word : PyData} {ps : List PyData} {s : Str} {x3 x4 x5 x6 : Option SV}
theorem ins_no {letters : PyData} (h : dEq v0 word = some (.bool false)) : insC1 [some (.ob "Code" fs), some (.fz (.tuple (v0 :: ps))), some (.fz word), some (.fz letters), x4, x5, x6] = .nx [some (.ob "Code" fs), some (.fz (.tuple (v0 :: ps))), some (.fz word), some (.fz letters), x4, x5, x6] := by
  unfold insC1
  simp (implicitDefEqProofs := false) only [x_run, x_out_nx, x_out_rt, x_out_er, x_seq, x_seq_nx, x_seq_rt, x_seq_er, x_seq_ct, x_seq_bk, x_ofR_ok, x_ofR_er, x_nx, x_bk, x_ct, x_set, x_setL, x_ret, x_drop, x_retN, x_if, x_raise, x_var, x_gv0, x_gvS, x_gvo0, x_gvoS, x_gb, x_gb0, x_gbO, x_gbS, x_c, x_op, x_cm, x_un, x_bf, x_isi, x_ix, x_ixO, x_ofO_some, x_anil, x_acons, x_tup, x_lst, x_eL, x_tb, x_nt, x_an, x_or, x_ent, x_ean, x_eor, x_eif, x_tT, x_tV, x_tY, x_call, x_callD, x_callK, x_cd1, x_cd2, x_cd3, x_cd4, x_st0, x_stS, x_stN, x_wh, x_for, x_iseq, x_ir1, x_ir2, x_add, x_sub, x_neg, x_dcmp, x_eqI, x_neI, x_absI, x_intI, x_gcdI, x_maxI, x_minI, x_lenL, x_lenT, x_ixL, x_ixT, x_at0, x_at1, x_sz0, x_sz1, x_sz2, x_sz3, x_gN, x_forN, x_for0, x_fB_nx, x_fB_ct, x_fB_bk, x_fB_rt, x_fB_er, x_iTT, x_iTL, x_iTI, x_iLT, x_iLL, x_iII, x_iBI, x_iSS, x_iBB, x_truB, x_itT, x_itL, x_try, RO.bind_ok, RO.bind_er, RO.pure_ok, List.set_cons_zero, List.set_cons_succ, List.cons_append, List.nil_append, if_true, if_false, ite_true, ite_false, reduceIte, Bool.false_eq_true, Bool.true_eq_false, Bool.not_true, Bool.not_false, x_len1, and_self, decide_eq_true_eq, decide_true, decide_false, eq_self, Bool.not_eq_true', decide_eq_false_iff_not, not_true_eq_false, not_false_eq_true, ne_eq, x_eqB, x_neB, x_intB, x_iIB, x_gT2, x_lLi, x_eTu, x_eTuO, x_eLeO, x_dSeqL, x_dSeqT, x_oN, x_oS, x_tI, x_sl, x_cutL, x_cutT, x_comp, x_app, x_asg, x_aug, wipeE, List.length_map, x2_seq, x2_seq_nx, x2_seq_rt, x2_seq_rl, x2_of, x2_nx, x2_set, x2_setI, x2_set20, x2_set21, x2_if, x2_ret, x2_retL, x2_runI, x2_fin, x2_start3, x2_runN, x2_finN, x2_start1, x2_P, x2_N, x2_C, x2_Op, x2_Cm, x2_Ix, x2_Lst, x2_Tup, x2_Call, x2_CallI, x2_cI2, x2_set2, x2_set2S, x2_if2, x2_if2S, x2_callN, x2_cN1, x2_okL, x3_Set2, x3_If2, x3_Ret2, x3_tP, x3_tNt, x3_tAn, x3_tOr, x3_Tu, x3_Comp, x3_For2, x3_For2S, x3_Rev, x3_dRev, x3_start2, x3_cI1, x3_seqL, x3_seqT, x4_For, x4_iP, x4_iR, x4_iS, x4_ForX, x4_ForXS, x4_SetL, x4_App, x4_An, x4_Cm, x4_Ch, x4_tCh, x4_cI3, x4_cI4, x4_App2, x4_App2S, h]
theorem cut1 {a : PyData} {l : List PyData} : PD.cutD (a :: l) (some 1) none = l := by
  unfold PD.cutD
  have e1 : HT.sIx (a :: l).length 0 (some 1) = 1 := by
    rw [show (some (1 : Int)) = some ((1 : Nat) : Int) from rfl, HT.sIx_nat, List.length_cons]
    omega
  have e2 : HT.sIx (a :: l).length (a :: l).length none = (a :: l).length := rfl
  rw [e1, e2]
  exact List.take_of_length_le (by simp)
theorem ins_yes {zs : List (PyData × PyData)} (h : dEq v0 word = some (.bool true)) (hl : cLen [.str s] = some (.int (ps.length : Int))) (hz : dZipS (.str s) (.tuple ps) = .ok (zs.map fun z => pr z.1 z.2)) (lz : zs.length ≤ 1000) (hp : ∀ z ∈ zs, F_is_part fs [z.1, z.2] = .ok (.bool true)) :
    insC1 [some (.ob "Code" fs), some (.fz (.tuple (v0 :: ps))), some (.fz word), some (.fz (.str s)), x4, x5, x6] = .rt (.bool true) := by
  have hc : ∀ env : PD.Env, gOb "Code" env 0 = .ok fs → (∃ a b c d, env = [a, b, c, d, some (.fz (.tuple ps)), none, none]) → compD (gT 2 (gsC (gN 5) (gsC (gN 6) gsN))) tY (eCallO "Code" 2 F_is_part 0 (aCons (eVar 5) (aCons (eVar 6) aNil))) env (zs.map fun z => pr z.1 z.2) = .ok (zs.map fun _ => PyData.bool true) := fun env hg ⟨a, b, c, d, he⟩ => by
    subst he
    refine compD_map (fun z : PyData × PyData => pr z.1 z.2) (fun _ => PyData.bool true) zs lz fun z hzm => ⟨_, rfl, ?_⟩
    have hg' : gOb "Code" [a, b, c, d, some (.fz (.tuple ps)), some (.fz z.1), some (.fz z.2)] 0 = .ok fs := hg
    show eCallO "Code" 2 F_is_part 0 (aCons (eVar 5) (aCons (eVar 6) aNil)) [a, b, c, d, some (.fz (.tuple ps)), some (.fz z.1), some (.fz z.2)] = _
    simp (implicitDefEqProofs := false) only [x_run, x_out_nx, x_out_rt, x_out_er, x_seq, x_seq_nx, x_seq_rt, x_seq_er, x_seq_ct, x_seq_bk, x_ofR_ok, x_ofR_er, x_nx, x_bk, x_ct, x_set, x_setL, x_ret, x_drop, x_retN, x_if, x_raise, x_var, x_gv0, x_gvS, x_gvo0, x_gvoS, x_gb, x_gb0, x_gbO, x_gbS, x_c, x_op, x_cm, x_un, x_bf, x_isi, x_ix, x_ixO, x_ofO_some, x_anil, x_acons, x_tup, x_lst, x_eL, x_tb, x_nt, x_an, x_or, x_ent, x_ean, x_eor, x_eif, x_tT, x_tV, x_tY, x_call, x_callD, x_callK, x_cd1, x_cd2, x_cd3, x_cd4, x_st0, x_stS, x_stN, x_wh, x_for, x_iseq, x_ir1, x_ir2, x_add, x_sub, x_neg, x_dcmp, x_eqI, x_neI, x_absI, x_intI, x_gcdI, x_maxI, x_minI, x_lenL, x_lenT, x_ixL, x_ixT, x_at0, x_at1, x_sz0, x_sz1, x_sz2, x_sz3, x_gN, x_forN, x_for0, x_fB_nx, x_fB_ct, x_fB_bk, x_fB_rt, x_fB_er, x_iTT, x_iTL, x_iTI, x_iLT, x_iLL, x_iII, x_iBI, x_iSS, x_iBB, x_truB, x_itT, x_itL, x_try, RO.bind_ok, RO.bind_er, RO.pure_ok, List.set_cons_zero, List.set_cons_succ, List.cons_append, List.nil_append, if_true, if_false, ite_true, ite_false, reduceIte, Bool.false_eq_true, Bool.true_eq_false, Bool.not_true, Bool.not_false, x_len1, and_self, decide_eq_true_eq, decide_true, decide_false, eq_self, Bool.not_eq_true', decide_eq_false_iff_not, not_true_eq_false, not_false_eq_true, ne_eq, x_eqB, x_neB, x_intB, x_iIB, x_gT2, x_lLi, x_eTu, x_eTuO, x_eLeO, x_dSeqL, x_dSeqT, x_oN, x_oS, x_tI, x_sl, x_cutL, x_cutT, x_comp, x_app, x_asg, x_aug, wipeE, List.length_map, x2_seq, x2_seq_nx, x2_seq_rt, x2_seq_rl, x2_of, x2_nx, x2_set, x2_setI, x2_set20, x2_set21, x2_if, x2_ret, x2_retL, x2_runI, x2_fin, x2_start3, x2_runN, x2_finN, x2_start1, x2_P, x2_N, x2_C, x2_Op, x2_Cm, x2_Ix, x2_Lst, x2_Tup, x2_Call, x2_CallI, x2_cI2, x2_set2, x2_set2S, x2_if2, x2_if2S, x2_callN, x2_cN1, x2_okL, x3_Set2, x3_If2, x3_Ret2, x3_tP, x3_tNt, x3_tAn, x3_tOr, x3_Tu, x3_Comp, x3_For2, x3_For2S, x3_Rev, x3_dRev, x3_start2, x3_cI1, x3_seqL, x3_seqT, x4_For, x4_iP, x4_iR, x4_iS, x4_ForX, x4_ForXS, x4_SetL, x4_App, x4_An, x4_Cm, x4_Ch, x4_tCh, x4_cI3, x4_cI4, x4_App2, x4_App2S, x_callO, hg', x_len2, hp z hzm]
  have hi : ∀ env : PD.Env, (∃ a b c x5 x6, env = [a, b, c, some (.fz (.str s)), some (.fz (.tuple ps)), x5, x6]) → iZipS (eVar 3) (eVar 4) env = .ok (zs.map fun z => pr z.1 z.2) := fun env ⟨a, b, c, x5, x6, he⟩ => by
    subst he
    exact hz
  have e1 := hi [some (.ob "Code" fs), some (.fz (.tuple (v0 :: ps))), some (.fz word), some (.fz (.str s)), some (.fz (.tuple ps)), x5, x6] ⟨_, _, _, _, _, rfl⟩
  have e2 := hc [some (.ob "Code" fs), some (.fz (.tuple (v0 :: ps))), some (.fz word), some (.fz (.str s)), some (.fz (.tuple ps)), none, none] gob0 ⟨_, _, _, _, rfl⟩
  unfold insC1
  simp (implicitDefEqProofs := false) only [x_run, x_out_nx, x_out_rt, x_out_er, x_seq, x_seq_nx, x_seq_rt, x_seq_er, x_seq_ct, x_seq_bk, x_ofR_ok, x_ofR_er, x_nx, x_bk, x_ct, x_set, x_setL, x_ret, x_drop, x_retN, x_if, x_raise, x_var, x_gv0, x_gvS, x_gvo0, x_gvoS, x_gb, x_gb0, x_gbO, x_gbS, x_c, x_op, x_cm, x_un, x_bf, x_isi, x_ix, x_ixO, x_ofO_some, x_anil, x_acons, x_tup, x_lst, x_eL, x_tb, x_nt, x_an, x_or, x_ent, x_ean, x_eor, x_eif, x_tT, x_tV, x_tY, x_call, x_callD, x_callK, x_cd1, x_cd2, x_cd3, x_cd4, x_st0, x_stS, x_stN, x_wh, x_for, x_iseq, x_ir1, x_ir2, x_add, x_sub, x_neg, x_dcmp, x_eqI, x_neI, x_absI, x_intI, x_gcdI, x_maxI, x_minI, x_lenL, x_lenT, x_ixL, x_ixT, x_at0, x_at1, x_sz0, x_sz1, x_sz2, x_sz3, x_gN, x_forN, x_for0, x_fB_nx, x_fB_ct, x_fB_bk, x_fB_rt, x_fB_er, x_iTT, x_iTL, x_iTI, x_iLT, x_iLL, x_iII, x_iBI, x_iSS, x_iBB, x_truB, x_itT, x_itL, x_try, RO.bind_ok, RO.bind_er, RO.pure_ok, List.set_cons_zero, List.set_cons_succ, List.cons_append, List.nil_append, if_true, if_false, ite_true, ite_false, reduceIte, Bool.false_eq_true, Bool.true_eq_false, Bool.not_true, Bool.not_false, x_len1, and_self, decide_eq_true_eq, decide_true, decide_false, eq_self, Bool.not_eq_true', decide_eq_false_iff_not, not_true_eq_false, not_false_eq_true, ne_eq, x_eqB, x_neB, x_intB, x_iIB, x_gT2, x_lLi, x_eTu, x_eTuO, x_eLeO, x_dSeqL, x_dSeqT, x_oN, x_oS, x_tI, x_sl, x_cutL, x_cutT, x_comp, x_app, x_asg, x_aug, wipeE, List.length_map, x2_seq, x2_seq_nx, x2_seq_rt, x2_seq_rl, x2_of, x2_nx, x2_set, x2_setI, x2_set20, x2_set21, x2_if, x2_ret, x2_retL, x2_runI, x2_fin, x2_start3, x2_runN, x2_finN, x2_start1, x2_P, x2_N, x2_C, x2_Op, x2_Cm, x2_Ix, x2_Lst, x2_Tup, x2_Call, x2_CallI, x2_cI2, x2_set2, x2_set2S, x2_if2, x2_if2S, x2_callN, x2_cN1, x2_okL, x3_Set2, x3_If2, x3_Ret2, x3_tP, x3_tNt, x3_tAn, x3_tOr, x3_Tu, x3_Comp, x3_For2, x3_For2S, x3_Rev, x3_dRev, x3_start2, x3_cI1, x3_seqL, x3_seqT, x4_For, x4_iP, x4_iR, x4_iS, x4_ForX, x4_ForXS, x4_SetL, x4_App, x4_An, x4_Cm, x4_Ch, x4_tCh, x4_cI3, x4_cI4, x4_App2, x4_App2S, h, cut1, hl, e1, e2, all_true]
end
theorem forT {i j : Nat} {g : S} {x y : PyData} {xs : List PyData} {r : PD.Env} : forGo (gT 2 (gsC (gN i) (gsC (gN j) gsN))) g (.tuple [x, y] :: xs) r = forB (g ((r.set i (some (.fz x))).set j (some (.fz y)))) (forGo (gT 2 (gsC (gN i) (gsC (gN j) gsN))) g xs) := rfl
theorem strok (s : Str) (h : PyData.strOk s = true := by decide +kernel) : Fine 0 (.str s) := .str s h
theorem rw_fine {w r n : Nat} {x : Rw} (hw : w ≤ 200) (hr : r ≤ 6) (hn : n ≤ 4) (h : x.Ok w r n) : Fine 1 x.d := by
  have sm : ∀ {k : Nat}, k ≤ 6 → Fine 0 (.int (k : Int)) := fun {k} l => .int _ (by unfold Sm; exact Nat.lt_of_le_of_lt (show ((k : Int)).natAbs ≤ 6 by omega) (by decide +kernel))
  have fv : ∀ {v : Int}, Fit w v → Fine 0 (.int v) := fun {v} hv => .int _ ((hv.sm hw).mono (by decide))
  have al : ∀ {P : PyData → Prop} {a : PyData} {l : List PyData}, P a → (∀ x ∈ l, P x) → ∀ x ∈ a :: l, P x := fun h k x hx => by
    rcases List.mem_cons.mp hx with z | z
    · rw [z]; exact h
    · exact k x z
  have an : ∀ {P : PyData → Prop}, ∀ x ∈ ([] : List PyData), P x := fun x hx => by cases hx
  cases x with
  | load a b => exact .tup _ (by show 3 ≤ 100; decide) (al (strok _) (al (sm (by have := h.1; omega)) (al (sm (by have := h.2; omega)) an)))
  | sett a v => exact .tup _ (by show 3 ≤ 100; decide) (al (strok _) (al (sm (by have := h.1; omega)) (al (fv h.2) an)))
  | times a b v => exact .tup _ (by show 4 ≤ 100; decide) (al (strok _) (al (sm (by have := h.1; omega)) (al (sm (by have := h.2.1; omega)) (al (fv h.2.2) an))))
  | add a b => exact .tup _ (by show 3 ≤ 100; decide) (al (strok _) (al (sm (by have := h.1; omega)) (al (sm (by have := h.2; omega)) an)))
  | bend a => exact .tup _ (by show 2 ≤ 100; decide) (al (strok _) (al (sm (show a ≤ 6 by have : a < r := h; omega)) an))
  | give a => exact .tup _ (by show 2 ≤ 100; decide) (al (strok _) (al (sm (show a ≤ 6 by have : a < r := h; omega)) an))
theorem nil_fine : Fine 1 (.tuple []) := .tup _ (by decide) fun x hx => by cases hx
theorem ne_nil {n : Nat} {a : PyData} {l : List PyData} (h : Fine n (.tuple (a :: l))) (hn : n ≤ 64) : dEq (.tuple (a :: l)) (.tuple []) = some (.bool false) := by
  show (if SeqAt.shaped (.tuple (a :: l)) = true ∧ SeqAt.shaped (.tuple []) = true then some (PyData.bool (PyData.eqv (.tuple (a :: l)) (.tuple []))) else none) = _
  rw [if_pos ⟨h.shaped hn, nil_fine.shaped (by decide)⟩]
  simp [PyData.eqv, PyData.eqvAll]
theorem instr_ok {w r n : Nat} {is : List PyData} {x : Rw} (h2 : 2 ≤ w) (hw : w ≤ 200) (hr : r ≤ 6) (hn : n ≤ 4) (h : x.Ok w r n) : F_is_instruction (flds w n r is) [x.d] = .ok (.bool true) := by
  have hf := rw_fine hw hr hn h
  have mem2 : ∀ {P : PyData × PyData → Prop} {a b : PyData × PyData}, P a → P b → ∀ z ∈ [a, b], P z := fun h k z hz => by
    rcases List.mem_cons.mp hz with z1 | z1
    · rw [z1]; exact h
    · rw [List.mem_singleton.mp z1]; exact k
  have mem1 : ∀ {P : PyData × PyData → Prop} {a : PyData × PyData}, P a → ∀ z ∈ [a], P z := fun h z hz => by
    rw [List.mem_singleton.mp hz]; exact h
  unfold F_is_instruction
  rw [insC_eq]
  unfold insCT
  cases x with
  | load a b =>
    unfold Rw.d at hf ⊢
    have y := fun x4 x5 x6 => ins_yes (x4 := x4) (x5 := x5) (x6 := x6) (fs := flds w n r is) (ps := [.int (a : Int), .int (b : Int)]) (s := "ri") (zs := [(.str "r", .int (a : Int)), (.str "i", .int (b : Int))]) w_load_load rfl rfl (by show 2 ≤ 1000; decide) (mem2 (part_r h.1) (part_i h.2))
    simp (implicitDefEqProofs := false) only [x_run, x_out_nx, x_out_rt, x_out_er, x_seq, x_seq_nx, x_seq_rt, x_seq_er, x_seq_ct, x_seq_bk, x_ofR_ok, x_ofR_er, x_nx, x_bk, x_ct, x_set, x_setL, x_ret, x_drop, x_retN, x_if, x_raise, x_var, x_gv0, x_gvS, x_gvo0, x_gvoS, x_gb, x_gb0, x_gbO, x_gbS, x_c, x_op, x_cm, x_un, x_bf, x_isi, x_ix, x_ixO, x_ofO_some, x_anil, x_acons, x_tup, x_lst, x_eL, x_tb, x_nt, x_an, x_or, x_ent, x_ean, x_eor, x_eif, x_tT, x_tV, x_tY, x_call, x_callD, x_callK, x_cd1, x_cd2, x_cd3, x_cd4, x_st0, x_stS, x_stN, x_wh, x_for, x_iseq, x_ir1, x_ir2, x_add, x_sub, x_neg, x_dcmp, x_eqI, x_neI, x_absI, x_intI, x_gcdI, x_maxI, x_minI, x_lenL, x_lenT, x_ixL, x_ixT, x_at0, x_at1, x_sz0, x_sz1, x_sz2, x_sz3, x_gN, x_forN, x_for0, x_fB_nx, x_fB_ct, x_fB_bk, x_fB_rt, x_fB_er, x_iTT, x_iTL, x_iTI, x_iLT, x_iLL, x_iII, x_iBI, x_iSS, x_iBB, x_truB, x_itT, x_itL, x_try, RO.bind_ok, RO.bind_er, RO.pure_ok, List.set_cons_zero, List.set_cons_succ, List.cons_append, List.nil_append, if_true, if_false, ite_true, ite_false, reduceIte, Bool.false_eq_true, Bool.true_eq_false, Bool.not_true, Bool.not_false, x_len1, and_self, decide_eq_true_eq, decide_true, decide_false, eq_self, Bool.not_eq_true', decide_eq_false_iff_not, not_true_eq_false, not_false_eq_true, ne_eq, x_eqB, x_neB, x_intB, x_iIB, x_gT2, x_lLi, x_eTu, x_eTuO, x_eLeO, x_dSeqL, x_dSeqT, x_oN, x_oS, x_tI, x_sl, x_cutL, x_cutT, x_comp, x_app, x_asg, x_aug, wipeE, List.length_map, x2_seq, x2_seq_nx, x2_seq_rt, x2_seq_rl, x2_of, x2_nx, x2_set, x2_setI, x2_set20, x2_set21, x2_if, x2_ret, x2_retL, x2_runI, x2_fin, x2_start3, x2_runN, x2_finN, x2_start1, x2_P, x2_N, x2_C, x2_Op, x2_Cm, x2_Ix, x2_Lst, x2_Tup, x2_Call, x2_CallI, x2_cI2, x2_set2, x2_set2S, x2_if2, x2_if2S, x2_callN, x2_cN1, x2_okL, x3_Set2, x3_If2, x3_Ret2, x3_tP, x3_tNt, x3_tAn, x3_tOr, x3_Tu, x3_Comp, x3_For2, x3_For2S, x3_Rev, x3_dRev, x3_start2, x3_cI1, x3_seqL, x3_seqT, x4_For, x4_iP, x4_iR, x4_iS, x4_ForX, x4_ForXS, x4_SetL, x4_App, x4_An, x4_Cm, x4_Ch, x4_tCh, x4_cI3, x4_cI4, x4_App2, x4_App2S, x_runO, x_stO, ne_nil hf (by decide), forT, y]
  | sett a v =>
    unfold Rw.d at hf ⊢
    have y := fun x4 x5 x6 => ins_yes (x4 := x4) (x5 := x5) (x6 := x6) (fs := flds w n r is) (ps := [.int (a : Int), .int v]) (s := "rn") (zs := [(.str "r", .int (a : Int)), (.str "n", .int v)]) w_set_set rfl rfl (by show 2 ≤ 1000; decide) (mem2 (part_r h.1) (part_n h2 hw h.2))
    simp (implicitDefEqProofs := false) only [x_run, x_out_nx, x_out_rt, x_out_er, x_seq, x_seq_nx, x_seq_rt, x_seq_er, x_seq_ct, x_seq_bk, x_ofR_ok, x_ofR_er, x_nx, x_bk, x_ct, x_set, x_setL, x_ret, x_drop, x_retN, x_if, x_raise, x_var, x_gv0, x_gvS, x_gvo0, x_gvoS, x_gb, x_gb0, x_gbO, x_gbS, x_c, x_op, x_cm, x_un, x_bf, x_isi, x_ix, x_ixO, x_ofO_some, x_anil, x_acons, x_tup, x_lst, x_eL, x_tb, x_nt, x_an, x_or, x_ent, x_ean, x_eor, x_eif, x_tT, x_tV, x_tY, x_call, x_callD, x_callK, x_cd1, x_cd2, x_cd3, x_cd4, x_st0, x_stS, x_stN, x_wh, x_for, x_iseq, x_ir1, x_ir2, x_add, x_sub, x_neg, x_dcmp, x_eqI, x_neI, x_absI, x_intI, x_gcdI, x_maxI, x_minI, x_lenL, x_lenT, x_ixL, x_ixT, x_at0, x_at1, x_sz0, x_sz1, x_sz2, x_sz3, x_gN, x_forN, x_for0, x_fB_nx, x_fB_ct, x_fB_bk, x_fB_rt, x_fB_er, x_iTT, x_iTL, x_iTI, x_iLT, x_iLL, x_iII, x_iBI, x_iSS, x_iBB, x_truB, x_itT, x_itL, x_try, RO.bind_ok, RO.bind_er, RO.pure_ok, List.set_cons_zero, List.set_cons_succ, List.cons_append, List.nil_append, if_true, if_false, ite_true, ite_false, reduceIte, Bool.false_eq_true, Bool.true_eq_false, Bool.not_true, Bool.not_false, x_len1, and_self, decide_eq_true_eq, decide_true, decide_false, eq_self, Bool.not_eq_true', decide_eq_false_iff_not, not_true_eq_false, not_false_eq_true, ne_eq, x_eqB, x_neB, x_intB, x_iIB, x_gT2, x_lLi, x_eTu, x_eTuO, x_eLeO, x_dSeqL, x_dSeqT, x_oN, x_oS, x_tI, x_sl, x_cutL, x_cutT, x_comp, x_app, x_asg, x_aug, wipeE, List.length_map, x2_seq, x2_seq_nx, x2_seq_rt, x2_seq_rl, x2_of, x2_nx, x2_set, x2_setI, x2_set20, x2_set21, x2_if, x2_ret, x2_retL, x2_runI, x2_fin, x2_start3, x2_runN, x2_finN, x2_start1, x2_P, x2_N, x2_C, x2_Op, x2_Cm, x2_Ix, x2_Lst, x2_Tup, x2_Call, x2_CallI, x2_cI2, x2_set2, x2_set2S, x2_if2, x2_if2S, x2_callN, x2_cN1, x2_okL, x3_Set2, x3_If2, x3_Ret2, x3_tP, x3_tNt, x3_tAn, x3_tOr, x3_Tu, x3_Comp, x3_For2, x3_For2S, x3_Rev, x3_dRev, x3_start2, x3_cI1, x3_seqL, x3_seqT, x4_For, x4_iP, x4_iR, x4_iS, x4_ForX, x4_ForXS, x4_SetL, x4_App, x4_An, x4_Cm, x4_Ch, x4_tCh, x4_cI3, x4_cI4, x4_App2, x4_App2S, x_runO, x_stO, ne_nil hf (by decide), forT, ins_no w_set_load, y]
  | times a b v =>
    unfold Rw.d at hf ⊢
    have y := fun x4 x5 x6 => ins_yes (x4 := x4) (x5 := x5) (x6 := x6) (fs := flds w n r is) (ps := [.int (a : Int), .int (b : Int), .int v]) (s := "rrn") (zs := [(.str "r", .int (a : Int)), (.str "r", .int (b : Int)), (.str "n", .int v)]) w_times_times rfl rfl (by show 3 ≤ 1000; decide) (fun z hz => by
      rcases List.mem_cons.mp hz with z1 | z1
      · rw [z1]; exact part_r h.1
      · exact mem2 (P := fun z => F_is_part (flds w n r is) [z.1, z.2] = .ok (.bool true)) (part_r h.2.1) (part_n h2 hw h.2.2) z z1)
    simp (implicitDefEqProofs := false) only [x_run, x_out_nx, x_out_rt, x_out_er, x_seq, x_seq_nx, x_seq_rt, x_seq_er, x_seq_ct, x_seq_bk, x_ofR_ok, x_ofR_er, x_nx, x_bk, x_ct, x_set, x_setL, x_ret, x_drop, x_retN, x_if, x_raise, x_var, x_gv0, x_gvS, x_gvo0, x_gvoS, x_gb, x_gb0, x_gbO, x_gbS, x_c, x_op, x_cm, x_un, x_bf, x_isi, x_ix, x_ixO, x_ofO_some, x_anil, x_acons, x_tup, x_lst, x_eL, x_tb, x_nt, x_an, x_or, x_ent, x_ean, x_eor, x_eif, x_tT, x_tV, x_tY, x_call, x_callD, x_callK, x_cd1, x_cd2, x_cd3, x_cd4, x_st0, x_stS, x_stN, x_wh, x_for, x_iseq, x_ir1, x_ir2, x_add, x_sub, x_neg, x_dcmp, x_eqI, x_neI, x_absI, x_intI, x_gcdI, x_maxI, x_minI, x_lenL, x_lenT, x_ixL, x_ixT, x_at0, x_at1, x_sz0, x_sz1, x_sz2, x_sz3, x_gN, x_forN, x_for0, x_fB_nx, x_fB_ct, x_fB_bk, x_fB_rt, x_fB_er, x_iTT, x_iTL, x_iTI, x_iLT, x_iLL, x_iII, x_iBI, x_iSS, x_iBB, x_truB, x_itT, x_itL, x_try, RO.bind_ok, RO.bind_er, RO.pure_ok, List.set_cons_zero, List.set_cons_succ, List.cons_append, List.nil_append, if_true, if_false, ite_true, ite_false, reduceIte, Bool.false_eq_true, Bool.true_eq_false, Bool.not_true, Bool.not_false, x_len1, and_self, decide_eq_true_eq, decide_true, decide_false, eq_self, Bool.not_eq_true', decide_eq_false_iff_not, not_true_eq_false, not_false_eq_true, ne_eq, x_eqB, x_neB, x_intB, x_iIB, x_gT2, x_lLi, x_eTu, x_eTuO, x_eLeO, x_dSeqL, x_dSeqT, x_oN, x_oS, x_tI, x_sl, x_cutL, x_cutT, x_comp, x_app, x_asg, x_aug, wipeE, List.length_map, x2_seq, x2_seq_nx, x2_seq_rt, x2_seq_rl, x2_of, x2_nx, x2_set, x2_setI, x2_set20, x2_set21, x2_if, x2_ret, x2_retL, x2_runI, x2_fin, x2_start3, x2_runN, x2_finN, x2_start1, x2_P, x2_N, x2_C, x2_Op, x2_Cm, x2_Ix, x2_Lst, x2_Tup, x2_Call, x2_CallI, x2_cI2, x2_set2, x2_set2S, x2_if2, x2_if2S, x2_callN, x2_cN1, x2_okL, x3_Set2, x3_If2, x3_Ret2, x3_tP, x3_tNt, x3_tAn, x3_tOr, x3_Tu, x3_Comp, x3_For2, x3_For2S, x3_Rev, x3_dRev, x3_start2, x3_cI1, x3_seqL, x3_seqT, x4_For, x4_iP, x4_iR, x4_iS, x4_ForX, x4_ForXS, x4_SetL, x4_App, x4_An, x4_Cm, x4_Ch, x4_tCh, x4_cI3, x4_cI4, x4_App2, x4_App2S, x_runO, x_stO, ne_nil hf (by decide), forT, ins_no w_times_load, ins_no w_times_set, y]
  | add a b =>
    unfold Rw.d at hf ⊢
    have y := fun x4 x5 x6 => ins_yes (x4 := x4) (x5 := x5) (x6 := x6) (fs := flds w n r is) (ps := [.int (a : Int), .int (b : Int)]) (s := "rr") (zs := [(.str "r", .int (a : Int)), (.str "r", .int (b : Int))]) w_add_add rfl rfl (by show 2 ≤ 1000; decide) (mem2 (part_r h.1) (part_r h.2))
    simp (implicitDefEqProofs := false) only [x_run, x_out_nx, x_out_rt, x_out_er, x_seq, x_seq_nx, x_seq_rt, x_seq_er, x_seq_ct, x_seq_bk, x_ofR_ok, x_ofR_er, x_nx, x_bk, x_ct, x_set, x_setL, x_ret, x_drop, x_retN, x_if, x_raise, x_var, x_gv0, x_gvS, x_gvo0, x_gvoS, x_gb, x_gb0, x_gbO, x_gbS, x_c, x_op, x_cm, x_un, x_bf, x_isi, x_ix, x_ixO, x_ofO_some, x_anil, x_acons, x_tup, x_lst, x_eL, x_tb, x_nt, x_an, x_or, x_ent, x_ean, x_eor, x_eif, x_tT, x_tV, x_tY, x_call, x_callD, x_callK, x_cd1, x_cd2, x_cd3, x_cd4, x_st0, x_stS, x_stN, x_wh, x_for, x_iseq, x_ir1, x_ir2, x_add, x_sub, x_neg, x_dcmp, x_eqI, x_neI, x_absI, x_intI, x_gcdI, x_maxI, x_minI, x_lenL, x_lenT, x_ixL, x_ixT, x_at0, x_at1, x_sz0, x_sz1, x_sz2, x_sz3, x_gN, x_forN, x_for0, x_fB_nx, x_fB_ct, x_fB_bk, x_fB_rt, x_fB_er, x_iTT, x_iTL, x_iTI, x_iLT, x_iLL, x_iII, x_iBI, x_iSS, x_iBB, x_truB, x_itT, x_itL, x_try, RO.bind_ok, RO.bind_er, RO.pure_ok, List.set_cons_zero, List.set_cons_succ, List.cons_append, List.nil_append, if_true, if_false, ite_true, ite_false, reduceIte, Bool.false_eq_true, Bool.true_eq_false, Bool.not_true, Bool.not_false, x_len1, and_self, decide_eq_true_eq, decide_true, decide_false, eq_self, Bool.not_eq_true', decide_eq_false_iff_not, not_true_eq_false, not_false_eq_true, ne_eq, x_eqB, x_neB, x_intB, x_iIB, x_gT2, x_lLi, x_eTu, x_eTuO, x_eLeO, x_dSeqL, x_dSeqT, x_oN, x_oS, x_tI, x_sl, x_cutL, x_cutT, x_comp, x_app, x_asg, x_aug, wipeE, List.length_map, x2_seq, x2_seq_nx, x2_seq_rt, x2_seq_rl, x2_of, x2_nx, x2_set, x2_setI, x2_set20, x2_set21, x2_if, x2_ret, x2_retL, x2_runI, x2_fin, x2_start3, x2_runN, x2_finN, x2_start1, x2_P, x2_N, x2_C, x2_Op, x2_Cm, x2_Ix, x2_Lst, x2_Tup, x2_Call, x2_CallI, x2_cI2, x2_set2, x2_set2S, x2_if2, x2_if2S, x2_callN, x2_cN1, x2_okL, x3_Set2, x3_If2, x3_Ret2, x3_tP, x3_tNt, x3_tAn, x3_tOr, x3_Tu, x3_Comp, x3_For2, x3_For2S, x3_Rev, x3_dRev, x3_start2, x3_cI1, x3_seqL, x3_seqT, x4_For, x4_iP, x4_iR, x4_iS, x4_ForX, x4_ForXS, x4_SetL, x4_App, x4_An, x4_Cm, x4_Ch, x4_tCh, x4_cI3, x4_cI4, x4_App2, x4_App2S, x_runO, x_stO, ne_nil hf (by decide), forT, ins_no w_add_load, ins_no w_add_set, ins_no w_add_times, y]
  | bend a =>
    unfold Rw.d at hf ⊢
    have y := fun x4 x5 x6 => ins_yes (x4 := x4) (x5 := x5) (x6 := x6) (fs := flds w n r is) (ps := [.int (a : Int)]) (s := "r") (zs := [(.str "r", .int (a : Int))]) w_bend_bend rfl rfl (by show 1 ≤ 1000; decide) (mem1 (part_r h))
    simp (implicitDefEqProofs := false) only [x_run, x_out_nx, x_out_rt, x_out_er, x_seq, x_seq_nx, x_seq_rt, x_seq_er, x_seq_ct, x_seq_bk, x_ofR_ok, x_ofR_er, x_nx, x_bk, x_ct, x_set, x_setL, x_ret, x_drop, x_retN, x_if, x_raise, x_var, x_gv0, x_gvS, x_gvo0, x_gvoS, x_gb, x_gb0, x_gbO, x_gbS, x_c, x_op, x_cm, x_un, x_bf, x_isi, x_ix, x_ixO, x_ofO_some, x_anil, x_acons, x_tup, x_lst, x_eL, x_tb, x_nt, x_an, x_or, x_ent, x_ean, x_eor, x_eif, x_tT, x_tV, x_tY, x_call, x_callD, x_callK, x_cd1, x_cd2, x_cd3, x_cd4, x_st0, x_stS, x_stN, x_wh, x_for, x_iseq, x_ir1, x_ir2, x_add, x_sub, x_neg, x_dcmp, x_eqI, x_neI, x_absI, x_intI, x_gcdI, x_maxI, x_minI, x_lenL, x_lenT, x_ixL, x_ixT, x_at0, x_at1, x_sz0, x_sz1, x_sz2, x_sz3, x_gN, x_forN, x_for0, x_fB_nx, x_fB_ct, x_fB_bk, x_fB_rt, x_fB_er, x_iTT, x_iTL, x_iTI, x_iLT, x_iLL, x_iII, x_iBI, x_iSS, x_iBB, x_truB, x_itT, x_itL, x_try, RO.bind_ok, RO.bind_er, RO.pure_ok, List.set_cons_zero, List.set_cons_succ, List.cons_append, List.nil_append, if_true, if_false, ite_true, ite_false, reduceIte, Bool.false_eq_true, Bool.true_eq_false, Bool.not_true, Bool.not_false, x_len1, and_self, decide_eq_true_eq, decide_true, decide_false, eq_self, Bool.not_eq_true', decide_eq_false_iff_not, not_true_eq_false, not_false_eq_true, ne_eq, x_eqB, x_neB, x_intB, x_iIB, x_gT2, x_lLi, x_eTu, x_eTuO, x_eLeO, x_dSeqL, x_dSeqT, x_oN, x_oS, x_tI, x_sl, x_cutL, x_cutT, x_comp, x_app, x_asg, x_aug, wipeE, List.length_map, x2_seq, x2_seq_nx, x2_seq_rt, x2_seq_rl, x2_of, x2_nx, x2_set, x2_setI, x2_set20, x2_set21, x2_if, x2_ret, x2_retL, x2_runI, x2_fin, x2_start3, x2_runN, x2_finN, x2_start1, x2_P, x2_N, x2_C, x2_Op, x2_Cm, x2_Ix, x2_Lst, x2_Tup, x2_Call, x2_CallI, x2_cI2, x2_set2, x2_set2S, x2_if2, x2_if2S, x2_callN, x2_cN1, x2_okL, x3_Set2, x3_If2, x3_Ret2, x3_tP, x3_tNt, x3_tAn, x3_tOr, x3_Tu, x3_Comp, x3_For2, x3_For2S, x3_Rev, x3_dRev, x3_start2, x3_cI1, x3_seqL, x3_seqT, x4_For, x4_iP, x4_iR, x4_iS, x4_ForX, x4_ForXS, x4_SetL, x4_App, x4_An, x4_Cm, x4_Ch, x4_tCh, x4_cI3, x4_cI4, x4_App2, x4_App2S, x_runO, x_stO, ne_nil hf (by decide), forT, ins_no w_bend_load, ins_no w_bend_set, ins_no w_bend_times, ins_no w_bend_add, y]
  | give a =>
    unfold Rw.d at hf ⊢
    have y := fun x4 x5 x6 => ins_yes (x4 := x4) (x5 := x5) (x6 := x6) (fs := flds w n r is) (ps := [.int (a : Int)]) (s := "r") (zs := [(.str "r", .int (a : Int))]) w_give_give rfl rfl (by show 1 ≤ 1000; decide) (mem1 (part_r h))
    simp (implicitDefEqProofs := false) only [x_run, x_out_nx, x_out_rt, x_out_er, x_seq, x_seq_nx, x_seq_rt, x_seq_er, x_seq_ct, x_seq_bk, x_ofR_ok, x_ofR_er, x_nx, x_bk, x_ct, x_set, x_setL, x_ret, x_drop, x_retN, x_if, x_raise, x_var, x_gv0, x_gvS, x_gvo0, x_gvoS, x_gb, x_gb0, x_gbO, x_gbS, x_c, x_op, x_cm, x_un, x_bf, x_isi, x_ix, x_ixO, x_ofO_some, x_anil, x_acons, x_tup, x_lst, x_eL, x_tb, x_nt, x_an, x_or, x_ent, x_ean, x_eor, x_eif, x_tT, x_tV, x_tY, x_call, x_callD, x_callK, x_cd1, x_cd2, x_cd3, x_cd4, x_st0, x_stS, x_stN, x_wh, x_for, x_iseq, x_ir1, x_ir2, x_add, x_sub, x_neg, x_dcmp, x_eqI, x_neI, x_absI, x_intI, x_gcdI, x_maxI, x_minI, x_lenL, x_lenT, x_ixL, x_ixT, x_at0, x_at1, x_sz0, x_sz1, x_sz2, x_sz3, x_gN, x_forN, x_for0, x_fB_nx, x_fB_ct, x_fB_bk, x_fB_rt, x_fB_er, x_iTT, x_iTL, x_iTI, x_iLT, x_iLL, x_iII, x_iBI, x_iSS, x_iBB, x_truB, x_itT, x_itL, x_try, RO.bind_ok, RO.bind_er, RO.pure_ok, List.set_cons_zero, List.set_cons_succ, List.cons_append, List.nil_append, if_true, if_false, ite_true, ite_false, reduceIte, Bool.false_eq_true, Bool.true_eq_false, Bool.not_true, Bool.not_false, x_len1, and_self, decide_eq_true_eq, decide_true, decide_false, eq_self, Bool.not_eq_true', decide_eq_false_iff_not, not_true_eq_false, not_false_eq_true, ne_eq, x_eqB, x_neB, x_intB, x_iIB, x_gT2, x_lLi, x_eTu, x_eTuO, x_eLeO, x_dSeqL, x_dSeqT, x_oN, x_oS, x_tI, x_sl, x_cutL, x_cutT, x_comp, x_app, x_asg, x_aug, wipeE, List.length_map, x2_seq, x2_seq_nx, x2_seq_rt, x2_seq_rl, x2_of, x2_nx, x2_set, x2_setI, x2_set20, x2_set21, x2_if, x2_ret, x2_retL, x2_runI, x2_fin, x2_start3, x2_runN, x2_finN, x2_start1, x2_P, x2_N, x2_C, x2_Op, x2_Cm, x2_Ix, x2_Lst, x2_Tup, x2_Call, x2_CallI, x2_cI2, x2_set2, x2_set2S, x2_if2, x2_if2S, x2_callN, x2_cN1, x2_okL, x3_Set2, x3_If2, x3_Ret2, x3_tP, x3_tNt, x3_tAn, x3_tOr, x3_Tu, x3_Comp, x3_For2, x3_For2S, x3_Rev, x3_dRev, x3_start2, x3_cI1, x3_seqL, x3_seqT, x4_For, x4_iP, x4_iR, x4_iS, x4_ForX, x4_ForXS, x4_SetL, x4_App, x4_An, x4_Cm, x4_Ch, x4_tCh, x4_cI3, x4_cI4, x4_App2, x4_App2S, x_runO, x_stO, ne_nil hf (by decide), forT, ins_no w_give_load, ins_no w_give_set, ins_no w_give_times, ins_no w_give_add, ins_no w_give_bend, y]
def en : Nat → List PyData → List PyData
  | _, [] => []
  | p, x :: xs => .tuple [.int (p : Int), x] :: en (p + 1) xs
theorem en_go : ∀ (p : Nat) (xs : List PyData), List.zipWith (fun (i : Nat) x => pr (.int (i : Nat)) x) (List.range' p xs.length) xs = en p xs
  | p, [] => rfl
  | p, x :: xs => by
    rw [List.length_cons, List.range'_succ, List.zipWith_cons_cons, en_go (p + 1) xs]
    rfl
theorem enD_en (xs : List PyData) : enD xs = en 0 xs := by
  rw [← en_go 0 xs]
  unfold enD
  rw [List.range_eq_range']
theorem chk_loop {w r n : Nat} {is : List PyData} (h2 : 2 ≤ w) (hw : w ≤ 200) (hr : r ≤ 6) (hn : n ≤ 4) : ∀ (rows : List Rw) (p : Nat) (x1 x2 : Option SV), (∀ x ∈ rows, x.Ok w r n) → ∃ y1 y2, forGo (gT 2 (gsC (gN 1) (gsC (gN 2) gsN))) chkC1 (en p (rows.map Rw.d)) [some (.ob "Code" (flds w n r is)), x1, x2] = .nx [some (.ob "Code" (flds w n r is)), y1, y2]
  | [], p, x1, x2, _ => ⟨x1, x2, rfl⟩
  | x :: rows, p, x1, x2, h => by
    obtain ⟨y1, y2, e⟩ := chk_loop h2 hw hr hn rows (p + 1) (some (.fz (.int (p : Int)))) (some (.fz x.d)) fun y hy => h y (List.mem_cons_of_mem _ hy)
    have hi := instr_ok (is := is) h2 hw hr hn (h x (List.mem_cons_self ..))
    have eb : chkC1 [some (.ob "Code" (flds w n r is)), some (.fz (.int (p : Int))), some (.fz x.d)] = .nx [some (.ob "Code" (flds w n r is)), some (.fz (.int (p : Int))), some (.fz x.d)] := by
      unfold chkC1
      simp (implicitDefEqProofs := false) only [x_run, x_out_nx, x_out_rt, x_out_er, x_seq, x_seq_nx, x_seq_rt, x_seq_er, x_seq_ct, x_seq_bk, x_ofR_ok, x_ofR_er, x_nx, x_bk, x_ct, x_set, x_setL, x_ret, x_drop, x_retN, x_if, x_raise, x_var, x_gv0, x_gvS, x_gvo0, x_gvoS, x_gb, x_gb0, x_gbO, x_gbS, x_c, x_op, x_cm, x_un, x_bf, x_isi, x_ix, x_ixO, x_ofO_some, x_anil, x_acons, x_tup, x_lst, x_eL, x_tb, x_nt, x_an, x_or, x_ent, x_ean, x_eor, x_eif, x_tT, x_tV, x_tY, x_call, x_callD, x_callK, x_cd1, x_cd2, x_cd3, x_cd4, x_st0, x_stS, x_stN, x_wh, x_for, x_iseq, x_ir1, x_ir2, x_add, x_sub, x_neg, x_dcmp, x_eqI, x_neI, x_absI, x_intI, x_gcdI, x_maxI, x_minI, x_lenL, x_lenT, x_ixL, x_ixT, x_at0, x_at1, x_sz0, x_sz1, x_sz2, x_sz3, x_gN, x_forN, x_for0, x_fB_nx, x_fB_ct, x_fB_bk, x_fB_rt, x_fB_er, x_iTT, x_iTL, x_iTI, x_iLT, x_iLL, x_iII, x_iBI, x_iSS, x_iBB, x_truB, x_itT, x_itL, x_try, RO.bind_ok, RO.bind_er, RO.pure_ok, List.set_cons_zero, List.set_cons_succ, List.cons_append, List.nil_append, if_true, if_false, ite_true, ite_false, reduceIte, Bool.false_eq_true, Bool.true_eq_false, Bool.not_true, Bool.not_false, x_len1, and_self, decide_eq_true_eq, decide_true, decide_false, eq_self, Bool.not_eq_true', decide_eq_false_iff_not, not_true_eq_false, not_false_eq_true, ne_eq, x_eqB, x_neB, x_intB, x_iIB, x_gT2, x_lLi, x_eTu, x_eTuO, x_eLeO, x_dSeqL, x_dSeqT, x_oN, x_oS, x_tI, x_sl, x_cutL, x_cutT, x_comp, x_app, x_asg, x_aug, wipeE, List.length_map, x2_seq, x2_seq_nx, x2_seq_rt, x2_seq_rl, x2_of, x2_nx, x2_set, x2_setI, x2_set20, x2_set21, x2_if, x2_ret, x2_retL, x2_runI, x2_fin, x2_start3, x2_runN, x2_finN, x2_start1, x2_P, x2_N, x2_C, x2_Op, x2_Cm, x2_Ix, x2_Lst, x2_Tup, x2_Call, x2_CallI, x2_cI2, x2_set2, x2_set2S, x2_if2, x2_if2S, x2_callN, x2_cN1, x2_okL, x3_Set2, x3_If2, x3_Ret2, x3_tP, x3_tNt, x3_tAn, x3_tOr, x3_Tu, x3_Comp, x3_For2, x3_For2S, x3_Rev, x3_dRev, x3_start2, x3_cI1, x3_seqL, x3_seqT, x4_For, x4_iP, x4_iR, x4_iS, x4_ForX, x4_ForXS, x4_SetL, x4_App, x4_An, x4_Cm, x4_Ch, x4_tCh, x4_cI3, x4_cI4, x4_App2, x4_App2S, x_callO, gob0, x_len1, hi]
    refine ⟨y1, y2, ?_⟩
    show forB (chkC1 [some (.ob "Code" (flds w n r is)), some (.fz (.int (p : Int))), some (.fz x.d)]) (forGo (gT 2 (gsC (gN 1) (gsC (gN 2) gsN))) chkC1 (en (p + 1) (rows.map Rw.d))) = _
    rw [eb]
    exact e
theorem check_ok {w r n : Nat} {rows : List Rw} (h2 : 2 ≤ w) (hw : w ≤ 200) (hr1 : 1 ≤ r) (hr : r ≤ 6) (hn1 : 1 ≤ n) (hn : n ≤ 4) (h : ∀ x ∈ rows, x.Ok w r n) : F_check_code (flds w n r (rows.map Rw.d)) [] = .ok .none := by
  obtain ⟨y1, y2, e⟩ := chk_loop (is := rows.map Rw.d) h2 hw hr hn rows 0 none none h
  have wd : F_is_width [.int (w : Int)] = .ok (.bool true) := by
    unfold F_is_width B_is_width
    simp (implicitDefEqProofs := false) only [x_run, x_out_nx, x_out_rt, x_out_er, x_seq, x_seq_nx, x_seq_rt, x_seq_er, x_seq_ct, x_seq_bk, x_ofR_ok, x_ofR_er, x_nx, x_bk, x_ct, x_set, x_setL, x_ret, x_drop, x_retN, x_if, x_raise, x_var, x_gv0, x_gvS, x_gvo0, x_gvoS, x_gb, x_gb0, x_gbO, x_gbS, x_c, x_op, x_cm, x_un, x_bf, x_isi, x_ix, x_ixO, x_ofO_some, x_anil, x_acons, x_tup, x_lst, x_eL, x_tb, x_nt, x_an, x_or, x_ent, x_ean, x_eor, x_eif, x_tT, x_tV, x_tY, x_call, x_callD, x_callK, x_cd1, x_cd2, x_cd3, x_cd4, x_st0, x_stS, x_stN, x_wh, x_for, x_iseq, x_ir1, x_ir2, x_add, x_sub, x_neg, x_dcmp, x_eqI, x_neI, x_absI, x_intI, x_gcdI, x_maxI, x_minI, x_lenL, x_lenT, x_ixL, x_ixT, x_at0, x_at1, x_sz0, x_sz1, x_sz2, x_sz3, x_gN, x_forN, x_for0, x_fB_nx, x_fB_ct, x_fB_bk, x_fB_rt, x_fB_er, x_iTT, x_iTL, x_iTI, x_iLT, x_iLL, x_iII, x_iBI, x_iSS, x_iBB, x_truB, x_itT, x_itL, x_try, RO.bind_ok, RO.bind_er, RO.pure_ok, List.set_cons_zero, List.set_cons_succ, List.cons_append, List.nil_append, if_true, if_false, ite_true, ite_false, reduceIte, Bool.false_eq_true, Bool.true_eq_false, Bool.not_true, Bool.not_false, x_len1, and_self, decide_eq_true_eq, decide_true, decide_false, eq_self, Bool.not_eq_true', decide_eq_false_iff_not, not_true_eq_false, not_false_eq_true, ne_eq, x_eqB, x_neB, x_intB, x_iIB, x_gT2, x_lLi, x_eTu, x_eTuO, x_eLeO, x_dSeqL, x_dSeqT, x_oN, x_oS, x_tI, x_sl, x_cutL, x_cutT, x_comp, x_app, x_asg, x_aug, wipeE, List.length_map, x2_seq, x2_seq_nx, x2_seq_rt, x2_seq_rl, x2_of, x2_nx, x2_set, x2_setI, x2_set20, x2_set21, x2_if, x2_ret, x2_retL, x2_runI, x2_fin, x2_start3, x2_runN, x2_finN, x2_start1, x2_P, x2_N, x2_C, x2_Op, x2_Cm, x2_Ix, x2_Lst, x2_Tup, x2_Call, x2_CallI, x2_cI2, x2_set2, x2_set2S, x2_if2, x2_if2S, x2_callN, x2_cN1, x2_okL, x3_Set2, x3_If2, x3_Ret2, x3_tP, x3_tNt, x3_tAn, x3_tOr, x3_Tu, x3_Comp, x3_For2, x3_For2S, x3_Rev, x3_dRev, x3_start2, x3_cI1, x3_seqL, x3_seqT, x4_For, x4_iP, x4_iR, x4_iS, x4_ForX, x4_ForXS, x4_SetL, x4_App, x4_An, x4_Cm, x4_Ch, x4_tCh, x4_cI3, x4_cI4, x4_App2, x4_App2S, isInt_i, eq_true (show (2 : Int) ≤ (w : Int) by omega), eq_true (show (w : Int) ≤ 200 by omega)]
  have nm : ∀ {k : Nat}, 1 ≤ k → k ≤ 6 → F_is_number [.int (k : Int)] = .ok (.bool true) := fun {k} a b => by
    unfold F_is_number B_is_number
    simp (implicitDefEqProofs := false) only [x_run, x_out_nx, x_out_rt, x_out_er, x_seq, x_seq_nx, x_seq_rt, x_seq_er, x_seq_ct, x_seq_bk, x_ofR_ok, x_ofR_er, x_nx, x_bk, x_ct, x_set, x_setL, x_ret, x_drop, x_retN, x_if, x_raise, x_var, x_gv0, x_gvS, x_gvo0, x_gvoS, x_gb, x_gb0, x_gbO, x_gbS, x_c, x_op, x_cm, x_un, x_bf, x_isi, x_ix, x_ixO, x_ofO_some, x_anil, x_acons, x_tup, x_lst, x_eL, x_tb, x_nt, x_an, x_or, x_ent, x_ean, x_eor, x_eif, x_tT, x_tV, x_tY, x_call, x_callD, x_callK, x_cd1, x_cd2, x_cd3, x_cd4, x_st0, x_stS, x_stN, x_wh, x_for, x_iseq, x_ir1, x_ir2, x_add, x_sub, x_neg, x_dcmp, x_eqI, x_neI, x_absI, x_intI, x_gcdI, x_maxI, x_minI, x_lenL, x_lenT, x_ixL, x_ixT, x_at0, x_at1, x_sz0, x_sz1, x_sz2, x_sz3, x_gN, x_forN, x_for0, x_fB_nx, x_fB_ct, x_fB_bk, x_fB_rt, x_fB_er, x_iTT, x_iTL, x_iTI, x_iLT, x_iLL, x_iII, x_iBI, x_iSS, x_iBB, x_truB, x_itT, x_itL, x_try, RO.bind_ok, RO.bind_er, RO.pure_ok, List.set_cons_zero, List.set_cons_succ, List.cons_append, List.nil_append, if_true, if_false, ite_true, ite_false, reduceIte, Bool.false_eq_true, Bool.true_eq_false, Bool.not_true, Bool.not_false, x_len1, and_self, decide_eq_true_eq, decide_true, decide_false, eq_self, Bool.not_eq_true', decide_eq_false_iff_not, not_true_eq_false, not_false_eq_true, ne_eq, x_eqB, x_neB, x_intB, x_iIB, x_gT2, x_lLi, x_eTu, x_eTuO, x_eLeO, x_dSeqL, x_dSeqT, x_oN, x_oS, x_tI, x_sl, x_cutL, x_cutT, x_comp, x_app, x_asg, x_aug, wipeE, List.length_map, x2_seq, x2_seq_nx, x2_seq_rt, x2_seq_rl, x2_of, x2_nx, x2_set, x2_setI, x2_set20, x2_set21, x2_if, x2_ret, x2_retL, x2_runI, x2_fin, x2_start3, x2_runN, x2_finN, x2_start1, x2_P, x2_N, x2_C, x2_Op, x2_Cm, x2_Ix, x2_Lst, x2_Tup, x2_Call, x2_CallI, x2_cI2, x2_set2, x2_set2S, x2_if2, x2_if2S, x2_callN, x2_cN1, x2_okL, x3_Set2, x3_If2, x3_Ret2, x3_tP, x3_tNt, x3_tAn, x3_tOr, x3_Tu, x3_Comp, x3_For2, x3_For2S, x3_Rev, x3_dRev, x3_start2, x3_cI1, x3_seqL, x3_seqT, x4_For, x4_iP, x4_iR, x4_iS, x4_ForX, x4_ForXS, x4_SetL, x4_App, x4_An, x4_Cm, x4_Ch, x4_tCh, x4_cI3, x4_cI4, x4_App2, x4_App2S, isInt_i, eq_true (show (1 : Int) ≤ (k : Int) by omega), eq_true (show (k : Int) ≤ 10000 by omega)]
  unfold F_check_code
  rw [chkC_eq]
  unfold chkCT
  simp (implicitDefEqProofs := false) only [x_run, x_out_nx, x_out_rt, x_out_er, x_seq, x_seq_nx, x_seq_rt, x_seq_er, x_seq_ct, x_seq_bk, x_ofR_ok, x_ofR_er, x_nx, x_bk, x_ct, x_set, x_setL, x_ret, x_drop, x_retN, x_if, x_raise, x_var, x_gv0, x_gvS, x_gvo0, x_gvoS, x_gb, x_gb0, x_gbO, x_gbS, x_c, x_op, x_cm, x_un, x_bf, x_isi, x_ix, x_ixO, x_ofO_some, x_anil, x_acons, x_tup, x_lst, x_eL, x_tb, x_nt, x_an, x_or, x_ent, x_ean, x_eor, x_eif, x_tT, x_tV, x_tY, x_call, x_callD, x_callK, x_cd1, x_cd2, x_cd3, x_cd4, x_st0, x_stS, x_stN, x_wh, x_for, x_iseq, x_ir1, x_ir2, x_add, x_sub, x_neg, x_dcmp, x_eqI, x_neI, x_absI, x_intI, x_gcdI, x_maxI, x_minI, x_lenL, x_lenT, x_ixL, x_ixT, x_at0, x_at1, x_sz0, x_sz1, x_sz2, x_sz3, x_gN, x_forN, x_for0, x_fB_nx, x_fB_ct, x_fB_bk, x_fB_rt, x_fB_er, x_iTT, x_iTL, x_iTI, x_iLT, x_iLL, x_iII, x_iBI, x_iSS, x_iBB, x_truB, x_itT, x_itL, x_try, RO.bind_ok, RO.bind_er, RO.pure_ok, List.set_cons_zero, List.set_cons_succ, List.cons_append, List.nil_append, if_true, if_false, ite_true, ite_false, reduceIte, Bool.false_eq_true, Bool.true_eq_false, Bool.not_true, Bool.not_false, x_len1, and_self, decide_eq_true_eq, decide_true, decide_false, eq_self, Bool.not_eq_true', decide_eq_false_iff_not, not_true_eq_false, not_false_eq_true, ne_eq, x_eqB, x_neB, x_intB, x_iIB, x_gT2, x_lLi, x_eTu, x_eTuO, x_eLeO, x_dSeqL, x_dSeqT, x_oN, x_oS, x_tI, x_sl, x_cutL, x_cutT, x_comp, x_app, x_asg, x_aug, wipeE, List.length_map, x2_seq, x2_seq_nx, x2_seq_rt, x2_seq_rl, x2_of, x2_nx, x2_set, x2_setI, x2_set20, x2_set21, x2_if, x2_ret, x2_retL, x2_runI, x2_fin, x2_start3, x2_runN, x2_finN, x2_start1, x2_P, x2_N, x2_C, x2_Op, x2_Cm, x2_Ix, x2_Lst, x2_Tup, x2_Call, x2_CallI, x2_cI2, x2_set2, x2_set2S, x2_if2, x2_if2S, x2_callN, x2_cN1, x2_okL, x3_Set2, x3_If2, x3_Ret2, x3_tP, x3_tNt, x3_tAn, x3_tOr, x3_Tu, x3_Comp, x3_For2, x3_For2S, x3_Rev, x3_dRev, x3_start2, x3_cI1, x3_seqL, x3_seqT, x4_For, x4_iP, x4_iR, x4_iS, x4_ForX, x4_ForXS, x4_SetL, x4_App, x4_An, x4_Cm, x4_Ch, x4_tCh, x4_cI3, x4_cI4, x4_App2, x4_App2S, x_runO, x_stO, x_isO, gob0, x_fd, lk_w, lk_n, lk_r, lk_i, wd, nm hn1 (by omega), nm hr1 hr, x_enu, x_dEnu, enD_en, e]
end KM
set_option Elab.async false
set_option linter.all false
set_option maxRecDepth 100000
set_option maxHeartbeats 4000000
namespace KM
open PySem PySem.Spec PyProof.Rows L2 PD
/-! ### a run of the program -/
theorem setMap {held : List Int} {k : Nat} {v : Int} : (held.map PyData.int).set k (.int v) = (held.set k v).map .int := by
  rw [List.map_set]
theorem row_at0 (x : Rw) : ∃ s ps, x.d = .tuple (.str s :: .int (x.at_ : Int) :: ps) ∧ dEq (.str s) (.str "give") = some (.bool x.isGive) := by
  cases x <;> exact ⟨_, _, rfl, rfl⟩
theorem ok_at {w r n : Nat} {x : Rw} (h : x.Ok w r n) : x.at_ < r := by
  cases x with
  | load a b => exact h.1
  | sett a v => exact h.1
  | times a b v => exact h.1
  | add a b => exact h.1
  | bend a => exact h
  | give a => exact h
abbrev runE (w n r : Nat) (is : List PyData) (D : PyData) (held outs : List Int) (x4 x5 x6 : Option SV) : PD.Env := [some (.ob "Code" (flds w n r is)), some (.fz D), some (.own (held.map .int)), some (.own (outs.map .int)), x4, x5, x6]
theorem append_int {outs : List Int} {v : Int} : outs.map PyData.int ++ [.int v] = (outs ++ [v]).map .int := by
  rw [List.map_append, List.map_singleton]
theorem run_loop {w r n : Nat} {is : List PyData} {D : PyData} {inp : List Int} (h2 : 2 ≤ w) (hw : w ≤ 200) (hi : InpD n inp D) : ∀ (rows : List Rw) (p : Nat) (held outs : List Int) (x4 x5 x6 : Option SV), (∀ x ∈ rows, x.Ok w r n) → Held w r held → outs.length + rows.length ≤ 1000 →
    forGo (gT 2 (gsC (gN 4) (gsC (gN 5) gsN))) runC1 (en p (rows.map Rw.d)) (runE w n r is D held outs x4 x5 x6) = .rt (mach w inp p held outs rows) ∨ ∃ held' outs' y4 y5 y6, forGo (gT 2 (gsC (gN 4) (gsC (gN 5) gsN))) runC1 (en p (rows.map Rw.d)) (runE w n r is D held outs x4 x5 x6) = .nx (runE w n r is D held' outs' y4 y5 y6) ∧ mach w inp p held outs rows = .tuple [.str "done", .tuple (outs'.map .int)]
  | [], p, held, outs, x4, x5, x6, _, _, _ => .inr ⟨held, outs, x4, x5, x6, rfl, rfl⟩
  | x :: rows, p, held, outs, x4, x5, x6, h, hh, hl => by
    have hx := h x (List.mem_cons_self ..)
    have ht : ∀ y ∈ rows, y.Ok w r n := fun y hy => h y (List.mem_cons_of_mem _ hy)
    have ha := ok_at hx
    have hlen := hh.1
    have hs : (outs.length < sizeLine) = True := eq_true (by exact Nat.lt_of_lt_of_le (show outs.length < 1001 by rw [List.length_cons] at hl; omega) (by decide))
    obtain ⟨s, ps, ed, eg⟩ := row_at0 x
    have e1 := at_held (held := held) (k := x.at_) (by omega)
    have un : forGo (gT 2 (gsC (gN 4) (gsC (gN 5) gsN))) runC1 (en p ((x :: rows).map Rw.d)) (runE w n r is D held outs x4 x5 x6) = forB (runC1 (runE w n r is D held outs (some (.fz (.int (p : Int)))) (some (.fz x.d)) x6)) (forGo (gT 2 (gsC (gN 4) (gsC (gN 5) gsN))) runC1 (en (p + 1) (rows.map Rw.d))) := rfl
    rw [un]
    cases g : x.isGive with
    | true =>
      rw [g] at eg
      have eb : runC1 (runE w n r is D held outs (some (.fz (.int (p : Int)))) (some (.fz x.d)) x6) = .ct (runE w n r is D held (outs ++ [held.getD x.at_ 0]) (some (.fz (.int (p : Int)))) (some (.fz x.d)) x6) := by
        unfold runC1
        rw [ed]
        simp (implicitDefEqProofs := false) only [x_run, x_out_nx, x_out_rt, x_out_er, x_seq, x_seq_nx, x_seq_rt, x_seq_er, x_seq_ct, x_seq_bk, x_ofR_ok, x_ofR_er, x_nx, x_bk, x_ct, x_set, x_setL, x_ret, x_drop, x_retN, x_if, x_raise, x_var, x_gv0, x_gvS, x_gvo0, x_gvoS, x_gb, x_gb0, x_gbO, x_gbS, x_c, x_op, x_cm, x_un, x_bf, x_isi, x_ix, x_ixO, x_ofO_some, x_anil, x_acons, x_tup, x_lst, x_eL, x_tb, x_nt, x_an, x_or, x_ent, x_ean, x_eor, x_eif, x_tT, x_tV, x_tY, x_call, x_callD, x_callK, x_cd1, x_cd2, x_cd3, x_cd4, x_st0, x_stS, x_stN, x_wh, x_for, x_iseq, x_ir1, x_ir2, x_add, x_sub, x_neg, x_dcmp, x_eqI, x_neI, x_absI, x_intI, x_gcdI, x_maxI, x_minI, x_lenL, x_lenT, x_ixL, x_ixT, x_at0, x_at1, x_sz0, x_sz1, x_sz2, x_sz3, x_gN, x_forN, x_for0, x_fB_nx, x_fB_ct, x_fB_bk, x_fB_rt, x_fB_er, x_iTT, x_iTL, x_iTI, x_iLT, x_iLL, x_iII, x_iBI, x_iSS, x_iBB, x_truB, x_itT, x_itL, x_try, RO.bind_ok, RO.bind_er, RO.pure_ok, List.set_cons_zero, List.set_cons_succ, List.cons_append, List.nil_append, if_true, if_false, ite_true, ite_false, reduceIte, Bool.false_eq_true, Bool.true_eq_false, Bool.not_true, Bool.not_false, x_len1, and_self, decide_eq_true_eq, decide_true, decide_false, eq_self, Bool.not_eq_true', decide_eq_false_iff_not, not_true_eq_false, not_false_eq_true, ne_eq, x_eqB, x_neB, x_intB, x_iIB, x_gT2, x_lLi, x_eTu, x_eTuO, x_eLeO, x_dSeqL, x_dSeqT, x_oN, x_oS, x_tI, x_sl, x_cutL, x_cutT, x_comp, x_app, x_asg, x_aug, wipeE, List.length_map, x2_seq, x2_seq_nx, x2_seq_rt, x2_seq_rl, x2_of, x2_nx, x2_set, x2_setI, x2_set20, x2_set21, x2_if, x2_ret, x2_retL, x2_runI, x2_fin, x2_start3, x2_runN, x2_finN, x2_start1, x2_P, x2_N, x2_C, x2_Op, x2_Cm, x2_Ix, x2_Lst, x2_Tup, x2_Call, x2_CallI, x2_cI2, x2_set2, x2_set2S, x2_if2, x2_if2S, x2_callN, x2_cN1, x2_okL, x3_Set2, x3_If2, x3_Ret2, x3_tP, x3_tNt, x3_tAn, x3_tOr, x3_Tu, x3_Comp, x3_For2, x3_For2S, x3_Rev, x3_dRev, x3_start2, x3_cI1, x3_seqL, x3_seqT, x4_For, x4_iP, x4_iR, x4_iS, x4_ForX, x4_ForXS, x4_SetL, x4_App, x4_An, x4_Cm, x4_Ch, x4_tCh, x4_cI3, x4_cI4, x4_App2, x4_App2S, eg, e1, hs, append_int]
      rw [eb]
      have em : mach w inp p held outs (x :: rows) = mach w inp (p + 1) held (outs ++ [held.getD x.at_ 0]) rows := by
        show (if x.isGive = true then _ else _) = _
        rw [if_pos g]
      rw [em]
      exact run_loop h2 hw hi rows (p + 1) held _ _ _ _ ht hh (by rw [List.length_append, List.length_singleton]; rw [List.length_cons] at hl; omega)
    | false =>
      rw [g] at eg
      have eb := becomes_ok hw hh hx hi g
      have ef := fits_ok (x := worth held inp x) h2 hw
      have em : mach w inp p held outs (x :: rows) = if Fit w (worth held inp x) then mach w inp (p + 1) (held.set x.at_ (worth held inp x)) outs rows else .tuple [.str "overflow", .int (p : Int)] := by
        show (if x.isGive = true then _ else _) = _
        rw [if_neg (by rw [g]; decide)]
      rw [em]
      by_cases hf : Fit w (worth held inp x)
      · rw [if_pos hf]
        have e2 : runC1 (runE w n r is D held outs (some (.fz (.int (p : Int)))) (some (.fz x.d)) x6) = .nx (runE w n r is D (held.set x.at_ (worth held inp x)) outs (some (.fz (.int (p : Int)))) (some (.fz x.d)) (some (.fz (.int (worth held inp x))))) := by
          unfold runC1
          rw [ed] at eb ⊢
          simp (implicitDefEqProofs := false) only [x_run, x_out_nx, x_out_rt, x_out_er, x_seq, x_seq_nx, x_seq_rt, x_seq_er, x_seq_ct, x_seq_bk, x_ofR_ok, x_ofR_er, x_nx, x_bk, x_ct, x_set, x_setL, x_ret, x_drop, x_retN, x_if, x_raise, x_var, x_gv0, x_gvS, x_gvo0, x_gvoS, x_gb, x_gb0, x_gbO, x_gbS, x_c, x_op, x_cm, x_un, x_bf, x_isi, x_ix, x_ixO, x_ofO_some, x_anil, x_acons, x_tup, x_lst, x_eL, x_tb, x_nt, x_an, x_or, x_ent, x_ean, x_eor, x_eif, x_tT, x_tV, x_tY, x_call, x_callD, x_callK, x_cd1, x_cd2, x_cd3, x_cd4, x_st0, x_stS, x_stN, x_wh, x_for, x_iseq, x_ir1, x_ir2, x_add, x_sub, x_neg, x_dcmp, x_eqI, x_neI, x_absI, x_intI, x_gcdI, x_maxI, x_minI, x_lenL, x_lenT, x_ixL, x_ixT, x_at0, x_at1, x_sz0, x_sz1, x_sz2, x_sz3, x_gN, x_forN, x_for0, x_fB_nx, x_fB_ct, x_fB_bk, x_fB_rt, x_fB_er, x_iTT, x_iTL, x_iTI, x_iLT, x_iLL, x_iII, x_iBI, x_iSS, x_iBB, x_truB, x_itT, x_itL, x_try, RO.bind_ok, RO.bind_er, RO.pure_ok, List.set_cons_zero, List.set_cons_succ, List.cons_append, List.nil_append, if_true, if_false, ite_true, ite_false, reduceIte, Bool.false_eq_true, Bool.true_eq_false, Bool.not_true, Bool.not_false, x_len1, and_self, decide_eq_true_eq, decide_true, decide_false, eq_self, Bool.not_eq_true', decide_eq_false_iff_not, not_true_eq_false, not_false_eq_true, ne_eq, x_eqB, x_neB, x_intB, x_iIB, x_gT2, x_lLi, x_eTu, x_eTuO, x_eLeO, x_dSeqL, x_dSeqT, x_oN, x_oS, x_tI, x_sl, x_cutL, x_cutT, x_comp, x_app, x_asg, x_aug, wipeE, List.length_map, x2_seq, x2_seq_nx, x2_seq_rt, x2_seq_rl, x2_of, x2_nx, x2_set, x2_setI, x2_set20, x2_set21, x2_if, x2_ret, x2_retL, x2_runI, x2_fin, x2_start3, x2_runN, x2_finN, x2_start1, x2_P, x2_N, x2_C, x2_Op, x2_Cm, x2_Ix, x2_Lst, x2_Tup, x2_Call, x2_CallI, x2_cI2, x2_set2, x2_set2S, x2_if2, x2_if2S, x2_callN, x2_cN1, x2_okL, x3_Set2, x3_If2, x3_Ret2, x3_tP, x3_tNt, x3_tAn, x3_tOr, x3_Tu, x3_Comp, x3_For2, x3_For2S, x3_Rev, x3_dRev, x3_start2, x3_cI1, x3_seqL, x3_seqT, x4_For, x4_iP, x4_iR, x4_iS, x4_ForX, x4_ForXS, x4_SetL, x4_App, x4_An, x4_Cm, x4_Ch, x4_tCh, x4_cI3, x4_cI4, x4_App2, x4_App2S, eg, x_callB, x_eB, eb, nL_int, gob0, x_fd, lk_w, ef, eq_true hf, x_setI, setR_ok (show x.at_ < (held.map PyData.int).length by rw [List.length_map]; omega), setMap]
        rw [e2]
        exact run_loop h2 hw hi rows (p + 1) _ outs _ _ _ ht (hh.set _ hf) (by rw [List.length_cons] at hl; omega)
      · rw [if_neg hf]
        have e2 : runC1 (runE w n r is D held outs (some (.fz (.int (p : Int)))) (some (.fz x.d)) x6) = .rt (.tuple [.str "overflow", .int (p : Int)]) := by
          unfold runC1
          rw [ed] at eb ⊢
          simp (implicitDefEqProofs := false) only [x_run, x_out_nx, x_out_rt, x_out_er, x_seq, x_seq_nx, x_seq_rt, x_seq_er, x_seq_ct, x_seq_bk, x_ofR_ok, x_ofR_er, x_nx, x_bk, x_ct, x_set, x_setL, x_ret, x_drop, x_retN, x_if, x_raise, x_var, x_gv0, x_gvS, x_gvo0, x_gvoS, x_gb, x_gb0, x_gbO, x_gbS, x_c, x_op, x_cm, x_un, x_bf, x_isi, x_ix, x_ixO, x_ofO_some, x_anil, x_acons, x_tup, x_lst, x_eL, x_tb, x_nt, x_an, x_or, x_ent, x_ean, x_eor, x_eif, x_tT, x_tV, x_tY, x_call, x_callD, x_callK, x_cd1, x_cd2, x_cd3, x_cd4, x_st0, x_stS, x_stN, x_wh, x_for, x_iseq, x_ir1, x_ir2, x_add, x_sub, x_neg, x_dcmp, x_eqI, x_neI, x_absI, x_intI, x_gcdI, x_maxI, x_minI, x_lenL, x_lenT, x_ixL, x_ixT, x_at0, x_at1, x_sz0, x_sz1, x_sz2, x_sz3, x_gN, x_forN, x_for0, x_fB_nx, x_fB_ct, x_fB_bk, x_fB_rt, x_fB_er, x_iTT, x_iTL, x_iTI, x_iLT, x_iLL, x_iII, x_iBI, x_iSS, x_iBB, x_truB, x_itT, x_itL, x_try, RO.bind_ok, RO.bind_er, RO.pure_ok, List.set_cons_zero, List.set_cons_succ, List.cons_append, List.nil_append, if_true, if_false, ite_true, ite_false, reduceIte, Bool.false_eq_true, Bool.true_eq_false, Bool.not_true, Bool.not_false, x_len1, and_self, decide_eq_true_eq, decide_true, decide_false, eq_self, Bool.not_eq_true', decide_eq_false_iff_not, not_true_eq_false, not_false_eq_true, ne_eq, x_eqB, x_neB, x_intB, x_iIB, x_gT2, x_lLi, x_eTu, x_eTuO, x_eLeO, x_dSeqL, x_dSeqT, x_oN, x_oS, x_tI, x_sl, x_cutL, x_cutT, x_comp, x_app, x_asg, x_aug, wipeE, List.length_map, x2_seq, x2_seq_nx, x2_seq_rt, x2_seq_rl, x2_of, x2_nx, x2_set, x2_setI, x2_set20, x2_set21, x2_if, x2_ret, x2_retL, x2_runI, x2_fin, x2_start3, x2_runN, x2_finN, x2_start1, x2_P, x2_N, x2_C, x2_Op, x2_Cm, x2_Ix, x2_Lst, x2_Tup, x2_Call, x2_CallI, x2_cI2, x2_set2, x2_set2S, x2_if2, x2_if2S, x2_callN, x2_cN1, x2_okL, x3_Set2, x3_If2, x3_Ret2, x3_tP, x3_tNt, x3_tAn, x3_tOr, x3_Tu, x3_Comp, x3_For2, x3_For2S, x3_Rev, x3_dRev, x3_start2, x3_cI1, x3_seqL, x3_seqT, x4_For, x4_iP, x4_iR, x4_iS, x4_ForX, x4_ForXS, x4_SetL, x4_App, x4_An, x4_Cm, x4_Ch, x4_tCh, x4_cI3, x4_cI4, x4_App2, x4_App2S, eg, x_callB, x_eB, eb, nL_int, gob0, x_fd, lk_w, ef, eq_false hf]
        rw [e2]
        exact .inl rfl
theorem zeros (r : Nat) : (List.replicate r [PyData.int 0]).flatten = (List.replicate r (0 : Int)).map .int := by
  induction r with
  | zero => rfl
  | succ r ih => rw [List.replicate_succ, List.flatten_cons, ih, List.replicate_succ, List.map_cons]; rfl
theorem held0 (w r : Nat) : Held w r (List.replicate r 0) := ⟨List.length_replicate .., fun x hx => by rw [List.eq_of_mem_replicate hx]; exact fit0 w⟩
theorem run_ok {w r n : Nat} {D : PyData} {inp : List Int} {rows : List Rw} (h2 : 2 ≤ w) (hw : w ≤ 200) (hr : r ≤ 6) (hi : InpD n inp D) (h : ∀ x ∈ rows, x.Ok w r n) (hl : rows.length ≤ 900) :
    F_run_code (flds w n r (rows.map Rw.d)) [D] = .ok (mach w inp 0 (List.replicate r 0) [] rows) := by
  have er : ∀ env : PD.Env, gOb "Code" env 0 = .ok (flds w n r (rows.map Rw.d)) → lRep (lLst (aCons (eC (.int 0)) aNil)) (eFd "Code" 0 "registers") env = .ok ((List.replicate r (0 : Int)).map .int) := fun env hg => by
    simp (implicitDefEqProofs := false) only [x_run, x_out_nx, x_out_rt, x_out_er, x_seq, x_seq_nx, x_seq_rt, x_seq_er, x_seq_ct, x_seq_bk, x_ofR_ok, x_ofR_er, x_nx, x_bk, x_ct, x_set, x_setL, x_ret, x_drop, x_retN, x_if, x_raise, x_var, x_gv0, x_gvS, x_gvo0, x_gvoS, x_gb, x_gb0, x_gbO, x_gbS, x_c, x_op, x_cm, x_un, x_bf, x_isi, x_ix, x_ixO, x_ofO_some, x_anil, x_acons, x_tup, x_lst, x_eL, x_tb, x_nt, x_an, x_or, x_ent, x_ean, x_eor, x_eif, x_tT, x_tV, x_tY, x_call, x_callD, x_callK, x_cd1, x_cd2, x_cd3, x_cd4, x_st0, x_stS, x_stN, x_wh, x_for, x_iseq, x_ir1, x_ir2, x_add, x_sub, x_neg, x_dcmp, x_eqI, x_neI, x_absI, x_intI, x_gcdI, x_maxI, x_minI, x_lenL, x_lenT, x_ixL, x_ixT, x_at0, x_at1, x_sz0, x_sz1, x_sz2, x_sz3, x_gN, x_forN, x_for0, x_fB_nx, x_fB_ct, x_fB_bk, x_fB_rt, x_fB_er, x_iTT, x_iTL, x_iTI, x_iLT, x_iLL, x_iII, x_iBI, x_iSS, x_iBB, x_truB, x_itT, x_itL, x_try, RO.bind_ok, RO.bind_er, RO.pure_ok, List.set_cons_zero, List.set_cons_succ, List.cons_append, List.nil_append, if_true, if_false, ite_true, ite_false, reduceIte, Bool.false_eq_true, Bool.true_eq_false, Bool.not_true, Bool.not_false, x_len1, and_self, decide_eq_true_eq, decide_true, decide_false, eq_self, Bool.not_eq_true', decide_eq_false_iff_not, not_true_eq_false, not_false_eq_true, ne_eq, x_eqB, x_neB, x_intB, x_iIB, x_gT2, x_lLi, x_eTu, x_eTuO, x_eLeO, x_dSeqL, x_dSeqT, x_oN, x_oS, x_tI, x_sl, x_cutL, x_cutT, x_comp, x_app, x_asg, x_aug, wipeE, List.length_map, x2_seq, x2_seq_nx, x2_seq_rt, x2_seq_rl, x2_of, x2_nx, x2_set, x2_setI, x2_set20, x2_set21, x2_if, x2_ret, x2_retL, x2_runI, x2_fin, x2_start3, x2_runN, x2_finN, x2_start1, x2_P, x2_N, x2_C, x2_Op, x2_Cm, x2_Ix, x2_Lst, x2_Tup, x2_Call, x2_CallI, x2_cI2, x2_set2, x2_set2S, x2_if2, x2_if2S, x2_callN, x2_cN1, x2_okL, x3_Set2, x3_If2, x3_Ret2, x3_tP, x3_tNt, x3_tAn, x3_tOr, x3_Tu, x3_Comp, x3_For2, x3_For2S, x3_Rev, x3_dRev, x3_start2, x3_cI1, x3_seqL, x3_seqT, x4_For, x4_iP, x4_iR, x4_iS, x4_ForX, x4_ForXS, x4_SetL, x4_App, x4_An, x4_Cm, x4_Ch, x4_tCh, x4_cI3, x4_cI4, x4_App2, x4_App2S, x_rep, x_fd, hg, lk_r]
    rw [if_pos ⟨by omega, by show 1 * ((r : Int)).toNat ≤ 1000000; omega, by omega⟩, Int.toNat_natCast, zeros]
  have er1 := er [some (.ob "Code" (flds w n r (rows.map Rw.d))), some (.fz D), none, none, none, none, none] gob0
  have loop := run_loop (is := rows.map Rw.d) h2 hw hi rows 0 (List.replicate r 0) [] none none none h (held0 w r) (by show 0 + rows.length ≤ 1000; omega)
  unfold runE at loop
  rw [List.map_nil] at loop
  unfold F_run_code
  rw [runC_eq]
  unfold runCT
  rcases loop with e | ⟨held', outs', y4, y5, y6, e, em⟩
  · simp (implicitDefEqProofs := false) only [x_run, x_out_nx, x_out_rt, x_out_er, x_seq, x_seq_nx, x_seq_rt, x_seq_er, x_seq_ct, x_seq_bk, x_ofR_ok, x_ofR_er, x_nx, x_bk, x_ct, x_set, x_setL, x_ret, x_drop, x_retN, x_if, x_raise, x_var, x_gv0, x_gvS, x_gvo0, x_gvoS, x_gb, x_gb0, x_gbO, x_gbS, x_c, x_op, x_cm, x_un, x_bf, x_isi, x_ix, x_ixO, x_ofO_some, x_anil, x_acons, x_tup, x_lst, x_eL, x_tb, x_nt, x_an, x_or, x_ent, x_ean, x_eor, x_eif, x_tT, x_tV, x_tY, x_call, x_callD, x_callK, x_cd1, x_cd2, x_cd3, x_cd4, x_st0, x_stS, x_stN, x_wh, x_for, x_iseq, x_ir1, x_ir2, x_add, x_sub, x_neg, x_dcmp, x_eqI, x_neI, x_absI, x_intI, x_gcdI, x_maxI, x_minI, x_lenL, x_lenT, x_ixL, x_ixT, x_at0, x_at1, x_sz0, x_sz1, x_sz2, x_sz3, x_gN, x_forN, x_for0, x_fB_nx, x_fB_ct, x_fB_bk, x_fB_rt, x_fB_er, x_iTT, x_iTL, x_iTI, x_iLT, x_iLL, x_iII, x_iBI, x_iSS, x_iBB, x_truB, x_itT, x_itL, x_try, RO.bind_ok, RO.bind_er, RO.pure_ok, List.set_cons_zero, List.set_cons_succ, List.cons_append, List.nil_append, if_true, if_false, ite_true, ite_false, reduceIte, Bool.false_eq_true, Bool.true_eq_false, Bool.not_true, Bool.not_false, x_len1, and_self, decide_eq_true_eq, decide_true, decide_false, eq_self, Bool.not_eq_true', decide_eq_false_iff_not, not_true_eq_false, not_false_eq_true, ne_eq, x_eqB, x_neB, x_intB, x_iIB, x_gT2, x_lLi, x_eTu, x_eTuO, x_eLeO, x_dSeqL, x_dSeqT, x_oN, x_oS, x_tI, x_sl, x_cutL, x_cutT, x_comp, x_app, x_asg, x_aug, wipeE, List.length_map, x2_seq, x2_seq_nx, x2_seq_rt, x2_seq_rl, x2_of, x2_nx, x2_set, x2_setI, x2_set20, x2_set21, x2_if, x2_ret, x2_retL, x2_runI, x2_fin, x2_start3, x2_runN, x2_finN, x2_start1, x2_P, x2_N, x2_C, x2_Op, x2_Cm, x2_Ix, x2_Lst, x2_Tup, x2_Call, x2_CallI, x2_cI2, x2_set2, x2_set2S, x2_if2, x2_if2S, x2_callN, x2_cN1, x2_okL, x3_Set2, x3_If2, x3_Ret2, x3_tP, x3_tNt, x3_tAn, x3_tOr, x3_Tu, x3_Comp, x3_For2, x3_For2S, x3_Rev, x3_dRev, x3_start2, x3_cI1, x3_seqL, x3_seqT, x4_For, x4_iP, x4_iR, x4_iS, x4_ForX, x4_ForXS, x4_SetL, x4_App, x4_An, x4_Cm, x4_Ch, x4_tCh, x4_cI3, x4_cI4, x4_App2, x4_App2S, x_runO, x_stO, er1, x_fd, gob0, lk_i, x_enu, x_dEnu, enD_en, e]
  · rw [em]
    simp (implicitDefEqProofs := false) only [x_run, x_out_nx, x_out_rt, x_out_er, x_seq, x_seq_nx, x_seq_rt, x_seq_er, x_seq_ct, x_seq_bk, x_ofR_ok, x_ofR_er, x_nx, x_bk, x_ct, x_set, x_setL, x_ret, x_drop, x_retN, x_if, x_raise, x_var, x_gv0, x_gvS, x_gvo0, x_gvoS, x_gb, x_gb0, x_gbO, x_gbS, x_c, x_op, x_cm, x_un, x_bf, x_isi, x_ix, x_ixO, x_ofO_some, x_anil, x_acons, x_tup, x_lst, x_eL, x_tb, x_nt, x_an, x_or, x_ent, x_ean, x_eor, x_eif, x_tT, x_tV, x_tY, x_call, x_callD, x_callK, x_cd1, x_cd2, x_cd3, x_cd4, x_st0, x_stS, x_stN, x_wh, x_for, x_iseq, x_ir1, x_ir2, x_add, x_sub, x_neg, x_dcmp, x_eqI, x_neI, x_absI, x_intI, x_gcdI, x_maxI, x_minI, x_lenL, x_lenT, x_ixL, x_ixT, x_at0, x_at1, x_sz0, x_sz1, x_sz2, x_sz3, x_gN, x_forN, x_for0, x_fB_nx, x_fB_ct, x_fB_bk, x_fB_rt, x_fB_er, x_iTT, x_iTL, x_iTI, x_iLT, x_iLL, x_iII, x_iBI, x_iSS, x_iBB, x_truB, x_itT, x_itL, x_try, RO.bind_ok, RO.bind_er, RO.pure_ok, List.set_cons_zero, List.set_cons_succ, List.cons_append, List.nil_append, if_true, if_false, ite_true, ite_false, reduceIte, Bool.false_eq_true, Bool.true_eq_false, Bool.not_true, Bool.not_false, x_len1, and_self, decide_eq_true_eq, decide_true, decide_false, eq_self, Bool.not_eq_true', decide_eq_false_iff_not, not_true_eq_false, not_false_eq_true, ne_eq, x_eqB, x_neB, x_intB, x_iIB, x_gT2, x_lLi, x_eTu, x_eTuO, x_eLeO, x_dSeqL, x_dSeqT, x_oN, x_oS, x_tI, x_sl, x_cutL, x_cutT, x_comp, x_app, x_asg, x_aug, wipeE, List.length_map, x2_seq, x2_seq_nx, x2_seq_rt, x2_seq_rl, x2_of, x2_nx, x2_set, x2_setI, x2_set20, x2_set21, x2_if, x2_ret, x2_retL, x2_runI, x2_fin, x2_start3, x2_runN, x2_finN, x2_start1, x2_P, x2_N, x2_C, x2_Op, x2_Cm, x2_Ix, x2_Lst, x2_Tup, x2_Call, x2_CallI, x2_cI2, x2_set2, x2_set2S, x2_if2, x2_if2S, x2_callN, x2_cN1, x2_okL, x3_Set2, x3_If2, x3_Ret2, x3_tP, x3_tNt, x3_tAn, x3_tOr, x3_Tu, x3_Comp, x3_For2, x3_For2S, x3_Rev, x3_dRev, x3_start2, x3_cI1, x3_seqL, x3_seqT, x4_For, x4_iP, x4_iR, x4_iS, x4_ForX, x4_ForXS, x4_SetL, x4_App, x4_An, x4_Cm, x4_Ch, x4_tCh, x4_cI3, x4_cI4, x4_App2, x4_App2S, x_runO, x_stO, er1, x_fd, gob0, lk_i, x_enu, x_dEnu, enD_en, e]
/-! ### the law's own machine -/
abbrev macE (w r : Nat) (is : List PyData) (inp held outs : List Int) (x7 x8 x9 : Option SV) : PD.Env := [some (.fz (.int (w : Int))), some (.fz (.int (r : Int))), some (.fz (.list is)), some (.fz (.list (inp.map .int))), some (.fz (.int (hf w))), some (.own (held.map .int)), some (.own (outs.map .int)), x7, x8, x9, none]
theorem max0 {v : Int} : cMax [.int 0, .int v] = some (.int (if v > 0 then v else 0)) := rfl
theorem not_fit {w : Nat} {v : Int} (h : ¬ Fit w v) : v < -(hf w) ∨ hf w ≤ v := by
  unfold Fit at h
  omega
theorem mac_body {w r n : Nat} {is : List PyData} {inp held outs : List Int} {x : Rw} {x8 x9 : Option SV} {p : Nat} (hw : w ≤ 200) (hn : n = inp.length) (hx : x.Ok w r n) (hh : Held w r held) (hp : atI is (p : Int) = some x.d) (hs : outs.length < 1000) :
    ∃ y8 y9, macC1 (macE w r is inp held outs (some (.fz (.int (p : Int)))) x8 x9) = if x.isGive = true then .ct (macE w r is inp held (outs ++ [held.getD x.at_ 0]) (some (.fz (.int (p : Int)))) y8 y9) else if Fit w (worth held inp x) then .nx (macE w r is inp (held.set x.at_ (worth held inp x)) outs (some (.fz (.int (p : Int)))) y8 y9) else .rt (.tuple [.str "overflow", .int (p : Int)]) := by
  have hlen := hh.1
  have hs' : (outs.length < sizeLine) = True := eq_true (Nat.lt_trans hs (by decide))
  have fin : ∀ (v : Int), (Fit w v → (v < -(hf w)) = False ∧ (hf w ≤ v) = False) := fun v h => ⟨eq_false (by have := h.1; omega), eq_false (by have := h.2; omega)⟩
  have sr : ∀ {k : Nat} (env : PD.Env) (v : PyData), k < r → setR env 5 v (held.map PyData.int) (.int (k : Nat)) = .nx (env.set 5 (some (.own ((held.map PyData.int).set k v)))) := fun env v hk => setR_ok (by rw [List.length_map]; omega)
  cases x with
  | load a b =>
    have e1 := at_held (held := held) (k := a) (by have := hx.1; omega)
    have e2 := at_held (held := inp) (k := b) (by have := hx.2; omega)
    dsimp only [Rw.d] at hp
    refine ⟨some (.fz (Rw.d (.load a b))), some (.fz (.int (worth held inp (.load a b)))), ?_⟩
    dsimp only [Rw.d, Rw.at_]
    rw [if_neg (show ¬ (Rw.load a b).isGive = true from Bool.false_ne_true)]
    by_cases hf' : Fit w (worth held inp (.load a b))
    · rw [if_pos hf']
      dsimp only [worth] at hf' ⊢
      unfold macC1
      simp (implicitDefEqProofs := false) only [x_run, x_out_nx, x_out_rt, x_out_er, x_seq, x_seq_nx, x_seq_rt, x_seq_er, x_seq_ct, x_seq_bk, x_ofR_ok, x_ofR_er, x_nx, x_bk, x_ct, x_set, x_setL, x_ret, x_drop, x_retN, x_if, x_raise, x_var, x_gv0, x_gvS, x_gvo0, x_gvoS, x_gb, x_gb0, x_gbO, x_gbS, x_c, x_op, x_cm, x_un, x_bf, x_isi, x_ix, x_ixO, x_ofO_some, x_anil, x_acons, x_tup, x_lst, x_eL, x_tb, x_nt, x_an, x_or, x_ent, x_ean, x_eor, x_eif, x_tT, x_tV, x_tY, x_call, x_callD, x_callK, x_cd1, x_cd2, x_cd3, x_cd4, x_st0, x_stS, x_stN, x_wh, x_for, x_iseq, x_ir1, x_ir2, x_add, x_sub, x_neg, x_dcmp, x_eqI, x_neI, x_absI, x_intI, x_gcdI, x_maxI, x_minI, x_lenL, x_lenT, x_ixL, x_ixT, x_at0, x_at1, x_sz0, x_sz1, x_sz2, x_sz3, x_gN, x_forN, x_for0, x_fB_nx, x_fB_ct, x_fB_bk, x_fB_rt, x_fB_er, x_iTT, x_iTL, x_iTI, x_iLT, x_iLL, x_iII, x_iBI, x_iSS, x_iBB, x_truB, x_itT, x_itL, x_try, RO.bind_ok, RO.bind_er, RO.pure_ok, List.set_cons_zero, List.set_cons_succ, List.cons_append, List.nil_append, if_true, if_false, ite_true, ite_false, reduceIte, Bool.false_eq_true, Bool.true_eq_false, Bool.not_true, Bool.not_false, x_len1, and_self, decide_eq_true_eq, decide_true, decide_false, eq_self, Bool.not_eq_true', decide_eq_false_iff_not, not_true_eq_false, not_false_eq_true, ne_eq, x_eqB, x_neB, x_intB, x_iIB, x_gT2, x_lLi, x_eTu, x_eTuO, x_eLeO, x_dSeqL, x_dSeqT, x_oN, x_oS, x_tI, x_sl, x_cutL, x_cutT, x_comp, x_app, x_asg, x_aug, wipeE, List.length_map, x2_seq, x2_seq_nx, x2_seq_rt, x2_seq_rl, x2_of, x2_nx, x2_set, x2_setI, x2_set20, x2_set21, x2_if, x2_ret, x2_retL, x2_runI, x2_fin, x2_start3, x2_runN, x2_finN, x2_start1, x2_P, x2_N, x2_C, x2_Op, x2_Cm, x2_Ix, x2_Lst, x2_Tup, x2_Call, x2_CallI, x2_cI2, x2_set2, x2_set2S, x2_if2, x2_if2S, x2_callN, x2_cN1, x2_okL, x3_Set2, x3_If2, x3_Ret2, x3_tP, x3_tNt, x3_tAn, x3_tOr, x3_Tu, x3_Comp, x3_For2, x3_For2S, x3_Rev, x3_dRev, x3_start2, x3_cI1, x3_seqL, x3_seqT, x4_For, x4_iP, x4_iR, x4_iS, x4_ForX, x4_ForXS, x4_SetL, x4_App, x4_An, x4_Cm, x4_Ch, x4_tCh, x4_cI3, x4_cI4, x4_App2, x4_App2S, hp, w_load_give, w_load_load, w_load_set, w_load_times, w_load_add, max0, e1, x_at2, e2, (fin _ hf').1, (fin _ hf').2, x_setI, sr _ _ hx.1, setMap]
    · rw [if_neg hf']
      have nf := not_fit hf'
      dsimp only [worth] at nf ⊢
      unfold macC1
      by_cases c : inp.getD b 0 < -(hf w)
      · simp (implicitDefEqProofs := false) only [x_run, x_out_nx, x_out_rt, x_out_er, x_seq, x_seq_nx, x_seq_rt, x_seq_er, x_seq_ct, x_seq_bk, x_ofR_ok, x_ofR_er, x_nx, x_bk, x_ct, x_set, x_setL, x_ret, x_drop, x_retN, x_if, x_raise, x_var, x_gv0, x_gvS, x_gvo0, x_gvoS, x_gb, x_gb0, x_gbO, x_gbS, x_c, x_op, x_cm, x_un, x_bf, x_isi, x_ix, x_ixO, x_ofO_some, x_anil, x_acons, x_tup, x_lst, x_eL, x_tb, x_nt, x_an, x_or, x_ent, x_ean, x_eor, x_eif, x_tT, x_tV, x_tY, x_call, x_callD, x_callK, x_cd1, x_cd2, x_cd3, x_cd4, x_st0, x_stS, x_stN, x_wh, x_for, x_iseq, x_ir1, x_ir2, x_add, x_sub, x_neg, x_dcmp, x_eqI, x_neI, x_absI, x_intI, x_gcdI, x_maxI, x_minI, x_lenL, x_lenT, x_ixL, x_ixT, x_at0, x_at1, x_sz0, x_sz1, x_sz2, x_sz3, x_gN, x_forN, x_for0, x_fB_nx, x_fB_ct, x_fB_bk, x_fB_rt, x_fB_er, x_iTT, x_iTL, x_iTI, x_iLT, x_iLL, x_iII, x_iBI, x_iSS, x_iBB, x_truB, x_itT, x_itL, x_try, RO.bind_ok, RO.bind_er, RO.pure_ok, List.set_cons_zero, List.set_cons_succ, List.cons_append, List.nil_append, if_true, if_false, ite_true, ite_false, reduceIte, Bool.false_eq_true, Bool.true_eq_false, Bool.not_true, Bool.not_false, x_len1, and_self, decide_eq_true_eq, decide_true, decide_false, eq_self, Bool.not_eq_true', decide_eq_false_iff_not, not_true_eq_false, not_false_eq_true, ne_eq, x_eqB, x_neB, x_intB, x_iIB, x_gT2, x_lLi, x_eTu, x_eTuO, x_eLeO, x_dSeqL, x_dSeqT, x_oN, x_oS, x_tI, x_sl, x_cutL, x_cutT, x_comp, x_app, x_asg, x_aug, wipeE, List.length_map, x2_seq, x2_seq_nx, x2_seq_rt, x2_seq_rl, x2_of, x2_nx, x2_set, x2_setI, x2_set20, x2_set21, x2_if, x2_ret, x2_retL, x2_runI, x2_fin, x2_start3, x2_runN, x2_finN, x2_start1, x2_P, x2_N, x2_C, x2_Op, x2_Cm, x2_Ix, x2_Lst, x2_Tup, x2_Call, x2_CallI, x2_cI2, x2_set2, x2_set2S, x2_if2, x2_if2S, x2_callN, x2_cN1, x2_okL, x3_Set2, x3_If2, x3_Ret2, x3_tP, x3_tNt, x3_tAn, x3_tOr, x3_Tu, x3_Comp, x3_For2, x3_For2S, x3_Rev, x3_dRev, x3_start2, x3_cI1, x3_seqL, x3_seqT, x4_For, x4_iP, x4_iR, x4_iS, x4_ForX, x4_ForXS, x4_SetL, x4_App, x4_An, x4_Cm, x4_Ch, x4_tCh, x4_cI3, x4_cI4, x4_App2, x4_App2S, hp, w_load_give, w_load_load, w_load_set, w_load_times, w_load_add, max0, e1, x_at2, e2, eq_true c]
      · simp (implicitDefEqProofs := false) only [x_run, x_out_nx, x_out_rt, x_out_er, x_seq, x_seq_nx, x_seq_rt, x_seq_er, x_seq_ct, x_seq_bk, x_ofR_ok, x_ofR_er, x_nx, x_bk, x_ct, x_set, x_setL, x_ret, x_drop, x_retN, x_if, x_raise, x_var, x_gv0, x_gvS, x_gvo0, x_gvoS, x_gb, x_gb0, x_gbO, x_gbS, x_c, x_op, x_cm, x_un, x_bf, x_isi, x_ix, x_ixO, x_ofO_some, x_anil, x_acons, x_tup, x_lst, x_eL, x_tb, x_nt, x_an, x_or, x_ent, x_ean, x_eor, x_eif, x_tT, x_tV, x_tY, x_call, x_callD, x_callK, x_cd1, x_cd2, x_cd3, x_cd4, x_st0, x_stS, x_stN, x_wh, x_for, x_iseq, x_ir1, x_ir2, x_add, x_sub, x_neg, x_dcmp, x_eqI, x_neI, x_absI, x_intI, x_gcdI, x_maxI, x_minI, x_lenL, x_lenT, x_ixL, x_ixT, x_at0, x_at1, x_sz0, x_sz1, x_sz2, x_sz3, x_gN, x_forN, x_for0, x_fB_nx, x_fB_ct, x_fB_bk, x_fB_rt, x_fB_er, x_iTT, x_iTL, x_iTI, x_iLT, x_iLL, x_iII, x_iBI, x_iSS, x_iBB, x_truB, x_itT, x_itL, x_try, RO.bind_ok, RO.bind_er, RO.pure_ok, List.set_cons_zero, List.set_cons_succ, List.cons_append, List.nil_append, if_true, if_false, ite_true, ite_false, reduceIte, Bool.false_eq_true, Bool.true_eq_false, Bool.not_true, Bool.not_false, x_len1, and_self, decide_eq_true_eq, decide_true, decide_false, eq_self, Bool.not_eq_true', decide_eq_false_iff_not, not_true_eq_false, not_false_eq_true, ne_eq, x_eqB, x_neB, x_intB, x_iIB, x_gT2, x_lLi, x_eTu, x_eTuO, x_eLeO, x_dSeqL, x_dSeqT, x_oN, x_oS, x_tI, x_sl, x_cutL, x_cutT, x_comp, x_app, x_asg, x_aug, wipeE, List.length_map, x2_seq, x2_seq_nx, x2_seq_rt, x2_seq_rl, x2_of, x2_nx, x2_set, x2_setI, x2_set20, x2_set21, x2_if, x2_ret, x2_retL, x2_runI, x2_fin, x2_start3, x2_runN, x2_finN, x2_start1, x2_P, x2_N, x2_C, x2_Op, x2_Cm, x2_Ix, x2_Lst, x2_Tup, x2_Call, x2_CallI, x2_cI2, x2_set2, x2_set2S, x2_if2, x2_if2S, x2_callN, x2_cN1, x2_okL, x3_Set2, x3_If2, x3_Ret2, x3_tP, x3_tNt, x3_tAn, x3_tOr, x3_Tu, x3_Comp, x3_For2, x3_For2S, x3_Rev, x3_dRev, x3_start2, x3_cI1, x3_seqL, x3_seqT, x4_For, x4_iP, x4_iR, x4_iS, x4_ForX, x4_ForXS, x4_SetL, x4_App, x4_An, x4_Cm, x4_Ch, x4_tCh, x4_cI3, x4_cI4, x4_App2, x4_App2S, hp, w_load_give, w_load_load, w_load_set, w_load_times, w_load_add, max0, e1, x_at2, e2, eq_false c, eq_true (nf.resolve_left c)]
  | sett a v =>
    have e1 := at_held (held := held) (k := a) (by have := hx.1; omega)
    dsimp only [Rw.d] at hp
    refine ⟨some (.fz (Rw.d (.sett a v))), some (.fz (.int (worth held inp (.sett a v)))), ?_⟩
    dsimp only [Rw.d, Rw.at_]
    rw [if_neg (show ¬ (Rw.sett a v).isGive = true from Bool.false_ne_true)]
    have hf' := hx.2
    rw [if_pos (show Fit w (worth held inp (.sett a v)) from hf')]
    dsimp only [worth]
    unfold macC1
    simp (implicitDefEqProofs := false) only [x_run, x_out_nx, x_out_rt, x_out_er, x_seq, x_seq_nx, x_seq_rt, x_seq_er, x_seq_ct, x_seq_bk, x_ofR_ok, x_ofR_er, x_nx, x_bk, x_ct, x_set, x_setL, x_ret, x_drop, x_retN, x_if, x_raise, x_var, x_gv0, x_gvS, x_gvo0, x_gvoS, x_gb, x_gb0, x_gbO, x_gbS, x_c, x_op, x_cm, x_un, x_bf, x_isi, x_ix, x_ixO, x_ofO_some, x_anil, x_acons, x_tup, x_lst, x_eL, x_tb, x_nt, x_an, x_or, x_ent, x_ean, x_eor, x_eif, x_tT, x_tV, x_tY, x_call, x_callD, x_callK, x_cd1, x_cd2, x_cd3, x_cd4, x_st0, x_stS, x_stN, x_wh, x_for, x_iseq, x_ir1, x_ir2, x_add, x_sub, x_neg, x_dcmp, x_eqI, x_neI, x_absI, x_intI, x_gcdI, x_maxI, x_minI, x_lenL, x_lenT, x_ixL, x_ixT, x_at0, x_at1, x_sz0, x_sz1, x_sz2, x_sz3, x_gN, x_forN, x_for0, x_fB_nx, x_fB_ct, x_fB_bk, x_fB_rt, x_fB_er, x_iTT, x_iTL, x_iTI, x_iLT, x_iLL, x_iII, x_iBI, x_iSS, x_iBB, x_truB, x_itT, x_itL, x_try, RO.bind_ok, RO.bind_er, RO.pure_ok, List.set_cons_zero, List.set_cons_succ, List.cons_append, List.nil_append, if_true, if_false, ite_true, ite_false, reduceIte, Bool.false_eq_true, Bool.true_eq_false, Bool.not_true, Bool.not_false, x_len1, and_self, decide_eq_true_eq, decide_true, decide_false, eq_self, Bool.not_eq_true', decide_eq_false_iff_not, not_true_eq_false, not_false_eq_true, ne_eq, x_eqB, x_neB, x_intB, x_iIB, x_gT2, x_lLi, x_eTu, x_eTuO, x_eLeO, x_dSeqL, x_dSeqT, x_oN, x_oS, x_tI, x_sl, x_cutL, x_cutT, x_comp, x_app, x_asg, x_aug, wipeE, List.length_map, x2_seq, x2_seq_nx, x2_seq_rt, x2_seq_rl, x2_of, x2_nx, x2_set, x2_setI, x2_set20, x2_set21, x2_if, x2_ret, x2_retL, x2_runI, x2_fin, x2_start3, x2_runN, x2_finN, x2_start1, x2_P, x2_N, x2_C, x2_Op, x2_Cm, x2_Ix, x2_Lst, x2_Tup, x2_Call, x2_CallI, x2_cI2, x2_set2, x2_set2S, x2_if2, x2_if2S, x2_callN, x2_cN1, x2_okL, x3_Set2, x3_If2, x3_Ret2, x3_tP, x3_tNt, x3_tAn, x3_tOr, x3_Tu, x3_Comp, x3_For2, x3_For2S, x3_Rev, x3_dRev, x3_start2, x3_cI1, x3_seqL, x3_seqT, x4_For, x4_iP, x4_iR, x4_iS, x4_ForX, x4_ForXS, x4_SetL, x4_App, x4_An, x4_Cm, x4_Ch, x4_tCh, x4_cI3, x4_cI4, x4_App2, x4_App2S, hp, w_set_give, w_set_load, w_set_set, w_set_times, w_set_add, max0, e1, x_at2, (fin _ hf').1, (fin _ hf').2, x_setI, sr _ _ hx.1, setMap]
  | times a b v =>
    have e1 := at_held (held := held) (k := a) (by have := hx.1; omega)
    have e2 := at_held (held := held) (k := b) (by have := hx.2.1; omega)
    have m := mlX (hx.2.2.sm hw) ((hh.get b).sm hw)
    dsimp only [Rw.d] at hp
    refine ⟨some (.fz (Rw.d (.times a b v))), some (.fz (.int (worth held inp (.times a b v)))), ?_⟩
    dsimp only [Rw.d, Rw.at_]
    rw [if_neg (show ¬ (Rw.times a b v).isGive = true from Bool.false_ne_true)]
    by_cases hf' : Fit w (worth held inp (.times a b v))
    · rw [if_pos hf']
      dsimp only [worth] at hf' ⊢
      unfold macC1
      simp (implicitDefEqProofs := false) only [x_run, x_out_nx, x_out_rt, x_out_er, x_seq, x_seq_nx, x_seq_rt, x_seq_er, x_seq_ct, x_seq_bk, x_ofR_ok, x_ofR_er, x_nx, x_bk, x_ct, x_set, x_setL, x_ret, x_drop, x_retN, x_if, x_raise, x_var, x_gv0, x_gvS, x_gvo0, x_gvoS, x_gb, x_gb0, x_gbO, x_gbS, x_c, x_op, x_cm, x_un, x_bf, x_isi, x_ix, x_ixO, x_ofO_some, x_anil, x_acons, x_tup, x_lst, x_eL, x_tb, x_nt, x_an, x_or, x_ent, x_ean, x_eor, x_eif, x_tT, x_tV, x_tY, x_call, x_callD, x_callK, x_cd1, x_cd2, x_cd3, x_cd4, x_st0, x_stS, x_stN, x_wh, x_for, x_iseq, x_ir1, x_ir2, x_add, x_sub, x_neg, x_dcmp, x_eqI, x_neI, x_absI, x_intI, x_gcdI, x_maxI, x_minI, x_lenL, x_lenT, x_ixL, x_ixT, x_at0, x_at1, x_sz0, x_sz1, x_sz2, x_sz3, x_gN, x_forN, x_for0, x_fB_nx, x_fB_ct, x_fB_bk, x_fB_rt, x_fB_er, x_iTT, x_iTL, x_iTI, x_iLT, x_iLL, x_iII, x_iBI, x_iSS, x_iBB, x_truB, x_itT, x_itL, x_try, RO.bind_ok, RO.bind_er, RO.pure_ok, List.set_cons_zero, List.set_cons_succ, List.cons_append, List.nil_append, if_true, if_false, ite_true, ite_false, reduceIte, Bool.false_eq_true, Bool.true_eq_false, Bool.not_true, Bool.not_false, x_len1, and_self, decide_eq_true_eq, decide_true, decide_false, eq_self, Bool.not_eq_true', decide_eq_false_iff_not, not_true_eq_false, not_false_eq_true, ne_eq, x_eqB, x_neB, x_intB, x_iIB, x_gT2, x_lLi, x_eTu, x_eTuO, x_eLeO, x_dSeqL, x_dSeqT, x_oN, x_oS, x_tI, x_sl, x_cutL, x_cutT, x_comp, x_app, x_asg, x_aug, wipeE, List.length_map, x2_seq, x2_seq_nx, x2_seq_rt, x2_seq_rl, x2_of, x2_nx, x2_set, x2_setI, x2_set20, x2_set21, x2_if, x2_ret, x2_retL, x2_runI, x2_fin, x2_start3, x2_runN, x2_finN, x2_start1, x2_P, x2_N, x2_C, x2_Op, x2_Cm, x2_Ix, x2_Lst, x2_Tup, x2_Call, x2_CallI, x2_cI2, x2_set2, x2_set2S, x2_if2, x2_if2S, x2_callN, x2_cN1, x2_okL, x3_Set2, x3_If2, x3_Ret2, x3_tP, x3_tNt, x3_tAn, x3_tOr, x3_Tu, x3_Comp, x3_For2, x3_For2S, x3_Rev, x3_dRev, x3_start2, x3_cI1, x3_seqL, x3_seqT, x4_For, x4_iP, x4_iR, x4_iS, x4_ForX, x4_ForXS, x4_SetL, x4_App, x4_An, x4_Cm, x4_Ch, x4_tCh, x4_cI3, x4_cI4, x4_App2, x4_App2S, hp, w_times_give, w_times_load, w_times_set, w_times_times, w_times_add, max0, e1, x_at2, x_at3, e2, m, (fin _ hf').1, (fin _ hf').2, x_setI, sr _ _ hx.1, setMap]
    · rw [if_neg hf']
      have nf := not_fit hf'
      dsimp only [worth] at nf ⊢
      unfold macC1
      by_cases c : v * held.getD b 0 < -(hf w)
      · simp (implicitDefEqProofs := false) only [x_run, x_out_nx, x_out_rt, x_out_er, x_seq, x_seq_nx, x_seq_rt, x_seq_er, x_seq_ct, x_seq_bk, x_ofR_ok, x_ofR_er, x_nx, x_bk, x_ct, x_set, x_setL, x_ret, x_drop, x_retN, x_if, x_raise, x_var, x_gv0, x_gvS, x_gvo0, x_gvoS, x_gb, x_gb0, x_gbO, x_gbS, x_c, x_op, x_cm, x_un, x_bf, x_isi, x_ix, x_ixO, x_ofO_some, x_anil, x_acons, x_tup, x_lst, x_eL, x_tb, x_nt, x_an, x_or, x_ent, x_ean, x_eor, x_eif, x_tT, x_tV, x_tY, x_call, x_callD, x_callK, x_cd1, x_cd2, x_cd3, x_cd4, x_st0, x_stS, x_stN, x_wh, x_for, x_iseq, x_ir1, x_ir2, x_add, x_sub, x_neg, x_dcmp, x_eqI, x_neI, x_absI, x_intI, x_gcdI, x_maxI, x_minI, x_lenL, x_lenT, x_ixL, x_ixT, x_at0, x_at1, x_sz0, x_sz1, x_sz2, x_sz3, x_gN, x_forN, x_for0, x_fB_nx, x_fB_ct, x_fB_bk, x_fB_rt, x_fB_er, x_iTT, x_iTL, x_iTI, x_iLT, x_iLL, x_iII, x_iBI, x_iSS, x_iBB, x_truB, x_itT, x_itL, x_try, RO.bind_ok, RO.bind_er, RO.pure_ok, List.set_cons_zero, List.set_cons_succ, List.cons_append, List.nil_append, if_true, if_false, ite_true, ite_false, reduceIte, Bool.false_eq_true, Bool.true_eq_false, Bool.not_true, Bool.not_false, x_len1, and_self, decide_eq_true_eq, decide_true, decide_false, eq_self, Bool.not_eq_true', decide_eq_false_iff_not, not_true_eq_false, not_false_eq_true, ne_eq, x_eqB, x_neB, x_intB, x_iIB, x_gT2, x_lLi, x_eTu, x_eTuO, x_eLeO, x_dSeqL, x_dSeqT, x_oN, x_oS, x_tI, x_sl, x_cutL, x_cutT, x_comp, x_app, x_asg, x_aug, wipeE, List.length_map, x2_seq, x2_seq_nx, x2_seq_rt, x2_seq_rl, x2_of, x2_nx, x2_set, x2_setI, x2_set20, x2_set21, x2_if, x2_ret, x2_retL, x2_runI, x2_fin, x2_start3, x2_runN, x2_finN, x2_start1, x2_P, x2_N, x2_C, x2_Op, x2_Cm, x2_Ix, x2_Lst, x2_Tup, x2_Call, x2_CallI, x2_cI2, x2_set2, x2_set2S, x2_if2, x2_if2S, x2_callN, x2_cN1, x2_okL, x3_Set2, x3_If2, x3_Ret2, x3_tP, x3_tNt, x3_tAn, x3_tOr, x3_Tu, x3_Comp, x3_For2, x3_For2S, x3_Rev, x3_dRev, x3_start2, x3_cI1, x3_seqL, x3_seqT, x4_For, x4_iP, x4_iR, x4_iS, x4_ForX, x4_ForXS, x4_SetL, x4_App, x4_An, x4_Cm, x4_Ch, x4_tCh, x4_cI3, x4_cI4, x4_App2, x4_App2S, hp, w_times_give, w_times_load, w_times_set, w_times_times, w_times_add, max0, e1, x_at2, x_at3, e2, m, eq_true c]
      · simp (implicitDefEqProofs := false) only [x_run, x_out_nx, x_out_rt, x_out_er, x_seq, x_seq_nx, x_seq_rt, x_seq_er, x_seq_ct, x_seq_bk, x_ofR_ok, x_ofR_er, x_nx, x_bk, x_ct, x_set, x_setL, x_ret, x_drop, x_retN, x_if, x_raise, x_var, x_gv0, x_gvS, x_gvo0, x_gvoS, x_gb, x_gb0, x_gbO, x_gbS, x_c, x_op, x_cm, x_un, x_bf, x_isi, x_ix, x_ixO, x_ofO_some, x_anil, x_acons, x_tup, x_lst, x_eL, x_tb, x_nt, x_an, x_or, x_ent, x_ean, x_eor, x_eif, x_tT, x_tV, x_tY, x_call, x_callD, x_callK, x_cd1, x_cd2, x_cd3, x_cd4, x_st0, x_stS, x_stN, x_wh, x_for, x_iseq, x_ir1, x_ir2, x_add, x_sub, x_neg, x_dcmp, x_eqI, x_neI, x_absI, x_intI, x_gcdI, x_maxI, x_minI, x_lenL, x_lenT, x_ixL, x_ixT, x_at0, x_at1, x_sz0, x_sz1, x_sz2, x_sz3, x_gN, x_forN, x_for0, x_fB_nx, x_fB_ct, x_fB_bk, x_fB_rt, x_fB_er, x_iTT, x_iTL, x_iTI, x_iLT, x_iLL, x_iII, x_iBI, x_iSS, x_iBB, x_truB, x_itT, x_itL, x_try, RO.bind_ok, RO.bind_er, RO.pure_ok, List.set_cons_zero, List.set_cons_succ, List.cons_append, List.nil_append, if_true, if_false, ite_true, ite_false, reduceIte, Bool.false_eq_true, Bool.true_eq_false, Bool.not_true, Bool.not_false, x_len1, and_self, decide_eq_true_eq, decide_true, decide_false, eq_self, Bool.not_eq_true', decide_eq_false_iff_not, not_true_eq_false, not_false_eq_true, ne_eq, x_eqB, x_neB, x_intB, x_iIB, x_gT2, x_lLi, x_eTu, x_eTuO, x_eLeO, x_dSeqL, x_dSeqT, x_oN, x_oS, x_tI, x_sl, x_cutL, x_cutT, x_comp, x_app, x_asg, x_aug, wipeE, List.length_map, x2_seq, x2_seq_nx, x2_seq_rt, x2_seq_rl, x2_of, x2_nx, x2_set, x2_setI, x2_set20, x2_set21, x2_if, x2_ret, x2_retL, x2_runI, x2_fin, x2_start3, x2_runN, x2_finN, x2_start1, x2_P, x2_N, x2_C, x2_Op, x2_Cm, x2_Ix, x2_Lst, x2_Tup, x2_Call, x2_CallI, x2_cI2, x2_set2, x2_set2S, x2_if2, x2_if2S, x2_callN, x2_cN1, x2_okL, x3_Set2, x3_If2, x3_Ret2, x3_tP, x3_tNt, x3_tAn, x3_tOr, x3_Tu, x3_Comp, x3_For2, x3_For2S, x3_Rev, x3_dRev, x3_start2, x3_cI1, x3_seqL, x3_seqT, x4_For, x4_iP, x4_iR, x4_iS, x4_ForX, x4_ForXS, x4_SetL, x4_App, x4_An, x4_Cm, x4_Ch, x4_tCh, x4_cI3, x4_cI4, x4_App2, x4_App2S, hp, w_times_give, w_times_load, w_times_set, w_times_times, w_times_add, max0, e1, x_at2, x_at3, e2, m, eq_false c, eq_true (nf.resolve_left c)]
  | add a b =>
    have e1 := at_held (held := held) (k := a) (by have := hx.1; omega)
    have e2 := at_held (held := held) (k := b) (by have := hx.2; omega)
    dsimp only [Rw.d] at hp
    refine ⟨some (.fz (Rw.d (.add a b))), some (.fz (.int (worth held inp (.add a b)))), ?_⟩
    dsimp only [Rw.d, Rw.at_]
    rw [if_neg (show ¬ (Rw.add a b).isGive = true from Bool.false_ne_true)]
    by_cases hf' : Fit w (worth held inp (.add a b))
    · rw [if_pos hf']
      dsimp only [worth] at hf' ⊢
      unfold macC1
      simp (implicitDefEqProofs := false) only [x_run, x_out_nx, x_out_rt, x_out_er, x_seq, x_seq_nx, x_seq_rt, x_seq_er, x_seq_ct, x_seq_bk, x_ofR_ok, x_ofR_er, x_nx, x_bk, x_ct, x_set, x_setL, x_ret, x_drop, x_retN, x_if, x_raise, x_var, x_gv0, x_gvS, x_gvo0, x_gvoS, x_gb, x_gb0, x_gbO, x_gbS, x_c, x_op, x_cm, x_un, x_bf, x_isi, x_ix, x_ixO, x_ofO_some, x_anil, x_acons, x_tup, x_lst, x_eL, x_tb, x_nt, x_an, x_or, x_ent, x_ean, x_eor, x_eif, x_tT, x_tV, x_tY, x_call, x_callD, x_callK, x_cd1, x_cd2, x_cd3, x_cd4, x_st0, x_stS, x_stN, x_wh, x_for, x_iseq, x_ir1, x_ir2, x_add, x_sub, x_neg, x_dcmp, x_eqI, x_neI, x_absI, x_intI, x_gcdI, x_maxI, x_minI, x_lenL, x_lenT, x_ixL, x_ixT, x_at0, x_at1, x_sz0, x_sz1, x_sz2, x_sz3, x_gN, x_forN, x_for0, x_fB_nx, x_fB_ct, x_fB_bk, x_fB_rt, x_fB_er, x_iTT, x_iTL, x_iTI, x_iLT, x_iLL, x_iII, x_iBI, x_iSS, x_iBB, x_truB, x_itT, x_itL, x_try, RO.bind_ok, RO.bind_er, RO.pure_ok, List.set_cons_zero, List.set_cons_succ, List.cons_append, List.nil_append, if_true, if_false, ite_true, ite_false, reduceIte, Bool.false_eq_true, Bool.true_eq_false, Bool.not_true, Bool.not_false, x_len1, and_self, decide_eq_true_eq, decide_true, decide_false, eq_self, Bool.not_eq_true', decide_eq_false_iff_not, not_true_eq_false, not_false_eq_true, ne_eq, x_eqB, x_neB, x_intB, x_iIB, x_gT2, x_lLi, x_eTu, x_eTuO, x_eLeO, x_dSeqL, x_dSeqT, x_oN, x_oS, x_tI, x_sl, x_cutL, x_cutT, x_comp, x_app, x_asg, x_aug, wipeE, List.length_map, x2_seq, x2_seq_nx, x2_seq_rt, x2_seq_rl, x2_of, x2_nx, x2_set, x2_setI, x2_set20, x2_set21, x2_if, x2_ret, x2_retL, x2_runI, x2_fin, x2_start3, x2_runN, x2_finN, x2_start1, x2_P, x2_N, x2_C, x2_Op, x2_Cm, x2_Ix, x2_Lst, x2_Tup, x2_Call, x2_CallI, x2_cI2, x2_set2, x2_set2S, x2_if2, x2_if2S, x2_callN, x2_cN1, x2_okL, x3_Set2, x3_If2, x3_Ret2, x3_tP, x3_tNt, x3_tAn, x3_tOr, x3_Tu, x3_Comp, x3_For2, x3_For2S, x3_Rev, x3_dRev, x3_start2, x3_cI1, x3_seqL, x3_seqT, x4_For, x4_iP, x4_iR, x4_iS, x4_ForX, x4_ForXS, x4_SetL, x4_App, x4_An, x4_Cm, x4_Ch, x4_tCh, x4_cI3, x4_cI4, x4_App2, x4_App2S, hp, w_add_give, w_add_load, w_add_set, w_add_times, w_add_add, max0, e1, x_at2, e2, (fin _ hf').1, (fin _ hf').2, x_setI, sr _ _ hx.1, setMap]
    · rw [if_neg hf']
      have nf := not_fit hf'
      dsimp only [worth] at nf ⊢
      unfold macC1
      by_cases c : held.getD a 0 + held.getD b 0 < -(hf w)
      · simp (implicitDefEqProofs := false) only [x_run, x_out_nx, x_out_rt, x_out_er, x_seq, x_seq_nx, x_seq_rt, x_seq_er, x_seq_ct, x_seq_bk, x_ofR_ok, x_ofR_er, x_nx, x_bk, x_ct, x_set, x_setL, x_ret, x_drop, x_retN, x_if, x_raise, x_var, x_gv0, x_gvS, x_gvo0, x_gvoS, x_gb, x_gb0, x_gbO, x_gbS, x_c, x_op, x_cm, x_un, x_bf, x_isi, x_ix, x_ixO, x_ofO_some, x_anil, x_acons, x_tup, x_lst, x_eL, x_tb, x_nt, x_an, x_or, x_ent, x_ean, x_eor, x_eif, x_tT, x_tV, x_tY, x_call, x_callD, x_callK, x_cd1, x_cd2, x_cd3, x_cd4, x_st0, x_stS, x_stN, x_wh, x_for, x_iseq, x_ir1, x_ir2, x_add, x_sub, x_neg, x_dcmp, x_eqI, x_neI, x_absI, x_intI, x_gcdI, x_maxI, x_minI, x_lenL, x_lenT, x_ixL, x_ixT, x_at0, x_at1, x_sz0, x_sz1, x_sz2, x_sz3, x_gN, x_forN, x_for0, x_fB_nx, x_fB_ct, x_fB_bk, x_fB_rt, x_fB_er, x_iTT, x_iTL, x_iTI, x_iLT, x_iLL, x_iII, x_iBI, x_iSS, x_iBB, x_truB, x_itT, x_itL, x_try, RO.bind_ok, RO.bind_er, RO.pure_ok, List.set_cons_zero, List.set_cons_succ, List.cons_append, List.nil_append, if_true, if_false, ite_true, ite_false, reduceIte, Bool.false_eq_true, Bool.true_eq_false, Bool.not_true, Bool.not_false, x_len1, and_self, decide_eq_true_eq, decide_true, decide_false, eq_self, Bool.not_eq_true', decide_eq_false_iff_not, not_true_eq_false, not_false_eq_true, ne_eq, x_eqB, x_neB, x_intB, x_iIB, x_gT2, x_lLi, x_eTu, x_eTuO, x_eLeO, x_dSeqL, x_dSeqT, x_oN, x_oS, x_tI, x_sl, x_cutL, x_cutT, x_comp, x_app, x_asg, x_aug, wipeE, List.length_map, x2_seq, x2_seq_nx, x2_seq_rt, x2_seq_rl, x2_of, x2_nx, x2_set, x2_setI, x2_set20, x2_set21, x2_if, x2_ret, x2_retL, x2_runI, x2_fin, x2_start3, x2_runN, x2_finN, x2_start1, x2_P, x2_N, x2_C, x2_Op, x2_Cm, x2_Ix, x2_Lst, x2_Tup, x2_Call, x2_CallI, x2_cI2, x2_set2, x2_set2S, x2_if2, x2_if2S, x2_callN, x2_cN1, x2_okL, x3_Set2, x3_If2, x3_Ret2, x3_tP, x3_tNt, x3_tAn, x3_tOr, x3_Tu, x3_Comp, x3_For2, x3_For2S, x3_Rev, x3_dRev, x3_start2, x3_cI1, x3_seqL, x3_seqT, x4_For, x4_iP, x4_iR, x4_iS, x4_ForX, x4_ForXS, x4_SetL, x4_App, x4_An, x4_Cm, x4_Ch, x4_tCh, x4_cI3, x4_cI4, x4_App2, x4_App2S, hp, w_add_give, w_add_load, w_add_set, w_add_times, w_add_add, max0, e1, x_at2, e2, eq_true c]
      · simp (implicitDefEqProofs := false) only [x_run, x_out_nx, x_out_rt, x_out_er, x_seq, x_seq_nx, x_seq_rt, x_seq_er, x_seq_ct, x_seq_bk, x_ofR_ok, x_ofR_er, x_nx, x_bk, x_ct, x_set, x_setL, x_ret, x_drop, x_retN, x_if, x_raise, x_var, x_gv0, x_gvS, x_gvo0, x_gvoS, x_gb, x_gb0, x_gbO, x_gbS, x_c, x_op, x_cm, x_un, x_bf, x_isi, x_ix, x_ixO, x_ofO_some, x_anil, x_acons, x_tup, x_lst, x_eL, x_tb, x_nt, x_an, x_or, x_ent, x_ean, x_eor, x_eif, x_tT, x_tV, x_tY, x_call, x_callD, x_callK, x_cd1, x_cd2, x_cd3, x_cd4, x_st0, x_stS, x_stN, x_wh, x_for, x_iseq, x_ir1, x_ir2, x_add, x_sub, x_neg, x_dcmp, x_eqI, x_neI, x_absI, x_intI, x_gcdI, x_maxI, x_minI, x_lenL, x_lenT, x_ixL, x_ixT, x_at0, x_at1, x_sz0, x_sz1, x_sz2, x_sz3, x_gN, x_forN, x_for0, x_fB_nx, x_fB_ct, x_fB_bk, x_fB_rt, x_fB_er, x_iTT, x_iTL, x_iTI, x_iLT, x_iLL, x_iII, x_iBI, x_iSS, x_iBB, x_truB, x_itT, x_itL, x_try, RO.bind_ok, RO.bind_er, RO.pure_ok, List.set_cons_zero, List.set_cons_succ, List.cons_append, List.nil_append, if_true, if_false, ite_true, ite_false, reduceIte, Bool.false_eq_true, Bool.true_eq_false, Bool.not_true, Bool.not_false, x_len1, and_self, decide_eq_true_eq, decide_true, decide_false, eq_self, Bool.not_eq_true', decide_eq_false_iff_not, not_true_eq_false, not_false_eq_true, ne_eq, x_eqB, x_neB, x_intB, x_iIB, x_gT2, x_lLi, x_eTu, x_eTuO, x_eLeO, x_dSeqL, x_dSeqT, x_oN, x_oS, x_tI, x_sl, x_cutL, x_cutT, x_comp, x_app, x_asg, x_aug, wipeE, List.length_map, x2_seq, x2_seq_nx, x2_seq_rt, x2_seq_rl, x2_of, x2_nx, x2_set, x2_setI, x2_set20, x2_set21, x2_if, x2_ret, x2_retL, x2_runI, x2_fin, x2_start3, x2_runN, x2_finN, x2_start1, x2_P, x2_N, x2_C, x2_Op, x2_Cm, x2_Ix, x2_Lst, x2_Tup, x2_Call, x2_CallI, x2_cI2, x2_set2, x2_set2S, x2_if2, x2_if2S, x2_callN, x2_cN1, x2_okL, x3_Set2, x3_If2, x3_Ret2, x3_tP, x3_tNt, x3_tAn, x3_tOr, x3_Tu, x3_Comp, x3_For2, x3_For2S, x3_Rev, x3_dRev, x3_start2, x3_cI1, x3_seqL, x3_seqT, x4_For, x4_iP, x4_iR, x4_iS, x4_ForX, x4_ForXS, x4_SetL, x4_App, x4_An, x4_Cm, x4_Ch, x4_tCh, x4_cI3, x4_cI4, x4_App2, x4_App2S, hp, w_add_give, w_add_load, w_add_set, w_add_times, w_add_add, max0, e1, x_at2, e2, eq_false c, eq_true (nf.resolve_left c)]
  | bend a =>
    have hx' : a < r := hx
    have e1 := at_held (held := held) (k := a) (by omega)
    dsimp only [Rw.d] at hp
    refine ⟨some (.fz (Rw.d (.bend a))), some (.fz (.int (worth held inp (.bend a)))), ?_⟩
    dsimp only [Rw.d, Rw.at_]
    rw [if_neg (show ¬ (Rw.bend a).isGive = true from Bool.false_ne_true)]
    have hf' : Fit w (worth held inp (.bend a)) := by
      show Fit w (if held.getD a 0 > 0 then held.getD a 0 else 0)
      split
      · exact hh.get a
      · exact fit0 w
    rw [if_pos hf']
    dsimp only [worth] at hf' ⊢
    generalize hv : (if held.getD a 0 > 0 then held.getD a 0 else 0) = v at hf' ⊢
    unfold macC1
    simp (implicitDefEqProofs := false) only [x_run, x_out_nx, x_out_rt, x_out_er, x_seq, x_seq_nx, x_seq_rt, x_seq_er, x_seq_ct, x_seq_bk, x_ofR_ok, x_ofR_er, x_nx, x_bk, x_ct, x_set, x_setL, x_ret, x_drop, x_retN, x_if, x_raise, x_var, x_gv0, x_gvS, x_gvo0, x_gvoS, x_gb, x_gb0, x_gbO, x_gbS, x_c, x_op, x_cm, x_un, x_bf, x_isi, x_ix, x_ixO, x_ofO_some, x_anil, x_acons, x_tup, x_lst, x_eL, x_tb, x_nt, x_an, x_or, x_ent, x_ean, x_eor, x_eif, x_tT, x_tV, x_tY, x_call, x_callD, x_callK, x_cd1, x_cd2, x_cd3, x_cd4, x_st0, x_stS, x_stN, x_wh, x_for, x_iseq, x_ir1, x_ir2, x_add, x_sub, x_neg, x_dcmp, x_eqI, x_neI, x_absI, x_intI, x_gcdI, x_maxI, x_minI, x_lenL, x_lenT, x_ixL, x_ixT, x_at0, x_at1, x_sz0, x_sz1, x_sz2, x_sz3, x_gN, x_forN, x_for0, x_fB_nx, x_fB_ct, x_fB_bk, x_fB_rt, x_fB_er, x_iTT, x_iTL, x_iTI, x_iLT, x_iLL, x_iII, x_iBI, x_iSS, x_iBB, x_truB, x_itT, x_itL, x_try, RO.bind_ok, RO.bind_er, RO.pure_ok, List.set_cons_zero, List.set_cons_succ, List.cons_append, List.nil_append, if_true, if_false, ite_true, ite_false, reduceIte, Bool.false_eq_true, Bool.true_eq_false, Bool.not_true, Bool.not_false, x_len1, and_self, decide_eq_true_eq, decide_true, decide_false, eq_self, Bool.not_eq_true', decide_eq_false_iff_not, not_true_eq_false, not_false_eq_true, ne_eq, x_eqB, x_neB, x_intB, x_iIB, x_gT2, x_lLi, x_eTu, x_eTuO, x_eLeO, x_dSeqL, x_dSeqT, x_oN, x_oS, x_tI, x_sl, x_cutL, x_cutT, x_comp, x_app, x_asg, x_aug, wipeE, List.length_map, x2_seq, x2_seq_nx, x2_seq_rt, x2_seq_rl, x2_of, x2_nx, x2_set, x2_setI, x2_set20, x2_set21, x2_if, x2_ret, x2_retL, x2_runI, x2_fin, x2_start3, x2_runN, x2_finN, x2_start1, x2_P, x2_N, x2_C, x2_Op, x2_Cm, x2_Ix, x2_Lst, x2_Tup, x2_Call, x2_CallI, x2_cI2, x2_set2, x2_set2S, x2_if2, x2_if2S, x2_callN, x2_cN1, x2_okL, x3_Set2, x3_If2, x3_Ret2, x3_tP, x3_tNt, x3_tAn, x3_tOr, x3_Tu, x3_Comp, x3_For2, x3_For2S, x3_Rev, x3_dRev, x3_start2, x3_cI1, x3_seqL, x3_seqT, x4_For, x4_iP, x4_iR, x4_iS, x4_ForX, x4_ForXS, x4_SetL, x4_App, x4_An, x4_Cm, x4_Ch, x4_tCh, x4_cI3, x4_cI4, x4_App2, x4_App2S, hp, w_bend_give, w_bend_load, w_bend_set, w_bend_times, w_bend_add, max0, e1, hv, (fin _ hf').1, (fin _ hf').2, x_setI, sr _ _ hx', setMap]
  | give a =>
    have hx' : a < r := hx
    have e1 := at_held (held := held) (k := a) (by omega)
    dsimp only [Rw.d] at hp
    refine ⟨some (.fz (Rw.d (.give a))), x9, ?_⟩
    dsimp only [Rw.d, Rw.at_]
    rw [if_pos (show (Rw.give a).isGive = true from rfl)]
    unfold macC1
    simp (implicitDefEqProofs := false) only [x_run, x_out_nx, x_out_rt, x_out_er, x_seq, x_seq_nx, x_seq_rt, x_seq_er, x_seq_ct, x_seq_bk, x_ofR_ok, x_ofR_er, x_nx, x_bk, x_ct, x_set, x_setL, x_ret, x_drop, x_retN, x_if, x_raise, x_var, x_gv0, x_gvS, x_gvo0, x_gvoS, x_gb, x_gb0, x_gbO, x_gbS, x_c, x_op, x_cm, x_un, x_bf, x_isi, x_ix, x_ixO, x_ofO_some, x_anil, x_acons, x_tup, x_lst, x_eL, x_tb, x_nt, x_an, x_or, x_ent, x_ean, x_eor, x_eif, x_tT, x_tV, x_tY, x_call, x_callD, x_callK, x_cd1, x_cd2, x_cd3, x_cd4, x_st0, x_stS, x_stN, x_wh, x_for, x_iseq, x_ir1, x_ir2, x_add, x_sub, x_neg, x_dcmp, x_eqI, x_neI, x_absI, x_intI, x_gcdI, x_maxI, x_minI, x_lenL, x_lenT, x_ixL, x_ixT, x_at0, x_at1, x_sz0, x_sz1, x_sz2, x_sz3, x_gN, x_forN, x_for0, x_fB_nx, x_fB_ct, x_fB_bk, x_fB_rt, x_fB_er, x_iTT, x_iTL, x_iTI, x_iLT, x_iLL, x_iII, x_iBI, x_iSS, x_iBB, x_truB, x_itT, x_itL, x_try, RO.bind_ok, RO.bind_er, RO.pure_ok, List.set_cons_zero, List.set_cons_succ, List.cons_append, List.nil_append, if_true, if_false, ite_true, ite_false, reduceIte, Bool.false_eq_true, Bool.true_eq_false, Bool.not_true, Bool.not_false, x_len1, and_self, decide_eq_true_eq, decide_true, decide_false, eq_self, Bool.not_eq_true', decide_eq_false_iff_not, not_true_eq_false, not_false_eq_true, ne_eq, x_eqB, x_neB, x_intB, x_iIB, x_gT2, x_lLi, x_eTu, x_eTuO, x_eLeO, x_dSeqL, x_dSeqT, x_oN, x_oS, x_tI, x_sl, x_cutL, x_cutT, x_comp, x_app, x_asg, x_aug, wipeE, List.length_map, x2_seq, x2_seq_nx, x2_seq_rt, x2_seq_rl, x2_of, x2_nx, x2_set, x2_setI, x2_set20, x2_set21, x2_if, x2_ret, x2_retL, x2_runI, x2_fin, x2_start3, x2_runN, x2_finN, x2_start1, x2_P, x2_N, x2_C, x2_Op, x2_Cm, x2_Ix, x2_Lst, x2_Tup, x2_Call, x2_CallI, x2_cI2, x2_set2, x2_set2S, x2_if2, x2_if2S, x2_callN, x2_cN1, x2_okL, x3_Set2, x3_If2, x3_Ret2, x3_tP, x3_tNt, x3_tAn, x3_tOr, x3_Tu, x3_Comp, x3_For2, x3_For2S, x3_Rev, x3_dRev, x3_start2, x3_cI1, x3_seqL, x3_seqT, x4_For, x4_iP, x4_iR, x4_iS, x4_ForX, x4_ForXS, x4_SetL, x4_App, x4_An, x4_Cm, x4_Ch, x4_tCh, x4_cI3, x4_cI4, x4_App2, x4_App2S, hp, w_give_give, e1, hs', append_int]
theorem rng_succ (p k : Nat) : rngItems (p : Int) (k + 1) = .int (p : Int) :: rngItems ((p + 1 : Nat) : Int) k := by
  unfold rngItems
  rw [List.range_succ_eq_map, List.map_cons, List.map_map]
  refine congr (congrArg List.cons (by rw [Int.natCast_zero, Int.add_zero])) ?_
  refine List.map_congr_left fun i _ => ?_
  show PyData.int ((p : Int) + ((i + 1 : Nat) : Int)) = PyData.int (((p + 1 : Nat) : Int) + (i : Int))
  congr 1
  omega
theorem mac_loop {w r n : Nat} {all : List Rw} {inp : List Int} (hw : w ≤ 200) (hn : n = inp.length) : ∀ (rows pre : List Rw) (held outs : List Int) (x7 x8 x9 : Option SV), all = pre ++ rows → (∀ x ∈ rows, x.Ok w r n) → Held w r held → outs.length + rows.length ≤ 1000 →
    forGo (gN 7) macC1 (rngItems (pre.length : Int) rows.length) (macE w r (all.map Rw.d) inp held outs x7 x8 x9) = .rt (mach w inp pre.length held outs rows) ∨ ∃ held' outs' y7 y8 y9, forGo (gN 7) macC1 (rngItems (pre.length : Int) rows.length) (macE w r (all.map Rw.d) inp held outs x7 x8 x9) = .nx (macE w r (all.map Rw.d) inp held' outs' y7 y8 y9) ∧ mach w inp pre.length held outs rows = .tuple [.str "done", .tuple (outs'.map .int)]
  | [], pre, held, outs, x7, x8, x9, _, _, _, _ => .inr ⟨held, outs, x7, x8, x9, rfl, rfl⟩
  | x :: rows, pre, held, outs, x7, x8, x9, hall, h, hh, hl => by
    have hx := h x (List.mem_cons_self ..)
    have ht : ∀ y ∈ rows, y.Ok w r n := fun y hy => h y (List.mem_cons_of_mem _ hy)
    have hp : atI (all.map Rw.d) (pre.length : Int) = some x.d := by
      refine atI_nat ?_
      rw [hall, List.map_append, List.getElem?_append_right (by rw [List.length_map]; exact Nat.le_refl _), List.length_map, Nat.sub_self]
      rfl
    obtain ⟨y8, y9, eb⟩ := mac_body (x8 := x8) (x9 := x9) (outs := outs) hw hn hx hh hp (by rw [List.length_cons] at hl; omega)
    have hall' : all = (pre ++ [x]) ++ rows := by rw [hall, List.append_assoc]; rfl
    have hpl : (pre ++ [x]).length = pre.length + 1 := by rw [List.length_append, List.length_singleton]
    rw [List.length_cons, rng_succ]
    have un : forGo (gN 7) macC1 (.int (pre.length : Int) :: rngItems ((pre.length + 1 : Nat) : Int) rows.length) (macE w r (all.map Rw.d) inp held outs x7 x8 x9) = forB (macC1 (macE w r (all.map Rw.d) inp held outs (some (.fz (.int (pre.length : Int)))) x8 x9)) (forGo (gN 7) macC1 (rngItems ((pre.length + 1 : Nat) : Int) rows.length)) := rfl
    rw [un, eb]
    by_cases g : x.isGive = true
    · have em : mach w inp pre.length held outs (x :: rows) = mach w inp (pre.length + 1) held (outs ++ [held.getD x.at_ 0]) rows := by
        show (if x.isGive = true then _ else _) = _
        rw [if_pos g]
      rw [if_pos g, em]
      have := mac_loop hw hn rows (pre ++ [x]) held (outs ++ [held.getD x.at_ 0]) (some (.fz (.int (pre.length : Int)))) y8 y9 hall' ht hh (by rw [List.length_append, List.length_singleton]; rw [List.length_cons] at hl; omega)
      rw [hpl] at this
      exact this
    · have em : mach w inp pre.length held outs (x :: rows) = if Fit w (worth held inp x) then mach w inp (pre.length + 1) (held.set x.at_ (worth held inp x)) outs rows else .tuple [.str "overflow", .int (pre.length : Int)] := by
        show (if x.isGive = true then _ else _) = _
        rw [if_neg g]
      rw [if_neg g, em]
      by_cases hf : Fit w (worth held inp x)
      · rw [if_pos hf, if_pos hf]
        have := mac_loop hw hn rows (pre ++ [x]) _ outs (some (.fz (.int (pre.length : Int)))) y8 y9 hall' ht (hh.set x.at_ hf) (by rw [List.length_cons] at hl; omega)
        rw [hpl] at this
        exact this
      · rw [if_neg hf, if_neg hf]
        exact .inl rfl
theorem machine_ok {w r n : Nat} {inp : List Int} {rows : List Rw} (h2 : 2 ≤ w) (hw : w ≤ 200) (hr : r ≤ 6) (hn : n = inp.length) (h : ∀ x ∈ rows, x.Ok w r n) (hl : rows.length ≤ 900) :
    F__law_machine [.int (w : Int), .int (r : Int), .list (rows.map Rw.d), .list (inp.map .int)] = .ok (mach w inp 0 (List.replicate r 0) [] rows) := by
  have hc : ∀ env : PD.Env, compD (gN 10) tY (eC (.int 0)) env (rngItems 0 r) = .ok ((List.replicate r (0 : Int)).map .int) := fun env => by
    have e := compD_map (gg := gN 10) (f := eC (.int 0)) (env := env) (fun i : Nat => PyData.int (0 + (i : Nat))) (fun _ => PyData.int 0) (List.range r) (by rw [List.length_range]; omega) fun x _ => ⟨_, rfl, rfl⟩
    have e2 : (List.range r).map (fun _ => PyData.int 0) = (List.replicate r (0 : Int)).map .int := by
      rw [List.map_const', List.length_range, List.map_replicate]
    rw [← e2, ← e]
    rfl
  have er : rng1 (.int (r : Int)) = .ok (rngItems 0 r) := rng1_ok (by omega)
  have er2 : rng1 (.int (rows.length : Int)) = .ok (rngItems 0 rows.length) := rng1_ok (by omega)
  have loop := mac_loop (all := rows) hw hn rows [] (List.replicate r 0) [] none none none rfl h (held0 w r) (by show 0 + rows.length ≤ 1000; omega)
  unfold macE at loop
  rw [List.map_nil, show (([] : List Rw).length : Int) = 0 from rfl, show ([] : List Rw).length = 0 from rfl] at loop
  unfold F__law_machine
  rw [macC_eq]
  unfold macCT
  rcases loop with e | ⟨held', outs', y7, y8, y9, e, em⟩
  · simp (implicitDefEqProofs := false) only [x_run, x_out_nx, x_out_rt, x_out_er, x_seq, x_seq_nx, x_seq_rt, x_seq_er, x_seq_ct, x_seq_bk, x_ofR_ok, x_ofR_er, x_nx, x_bk, x_ct, x_set, x_setL, x_ret, x_drop, x_retN, x_if, x_raise, x_var, x_gv0, x_gvS, x_gvo0, x_gvoS, x_gb, x_gb0, x_gbO, x_gbS, x_c, x_op, x_cm, x_un, x_bf, x_isi, x_ix, x_ixO, x_ofO_some, x_anil, x_acons, x_tup, x_lst, x_eL, x_tb, x_nt, x_an, x_or, x_ent, x_ean, x_eor, x_eif, x_tT, x_tV, x_tY, x_call, x_callD, x_callK, x_cd1, x_cd2, x_cd3, x_cd4, x_st0, x_stS, x_stN, x_wh, x_for, x_iseq, x_ir1, x_ir2, x_add, x_sub, x_neg, x_dcmp, x_eqI, x_neI, x_absI, x_intI, x_gcdI, x_maxI, x_minI, x_lenL, x_lenT, x_ixL, x_ixT, x_at0, x_at1, x_sz0, x_sz1, x_sz2, x_sz3, x_gN, x_forN, x_for0, x_fB_nx, x_fB_ct, x_fB_bk, x_fB_rt, x_fB_er, x_iTT, x_iTL, x_iTI, x_iLT, x_iLL, x_iII, x_iBI, x_iSS, x_iBB, x_truB, x_itT, x_itL, x_try, RO.bind_ok, RO.bind_er, RO.pure_ok, List.set_cons_zero, List.set_cons_succ, List.cons_append, List.nil_append, if_true, if_false, ite_true, ite_false, reduceIte, Bool.false_eq_true, Bool.true_eq_false, Bool.not_true, Bool.not_false, x_len1, and_self, decide_eq_true_eq, decide_true, decide_false, eq_self, Bool.not_eq_true', decide_eq_false_iff_not, not_true_eq_false, not_false_eq_true, ne_eq, x_eqB, x_neB, x_intB, x_iIB, x_gT2, x_lLi, x_eTu, x_eTuO, x_eLeO, x_dSeqL, x_dSeqT, x_oN, x_oS, x_tI, x_sl, x_cutL, x_cutT, x_comp, x_app, x_asg, x_aug, wipeE, List.length_map, x2_seq, x2_seq_nx, x2_seq_rt, x2_seq_rl, x2_of, x2_nx, x2_set, x2_setI, x2_set20, x2_set21, x2_if, x2_ret, x2_retL, x2_runI, x2_fin, x2_start3, x2_runN, x2_finN, x2_start1, x2_P, x2_N, x2_C, x2_Op, x2_Cm, x2_Ix, x2_Lst, x2_Tup, x2_Call, x2_CallI, x2_cI2, x2_set2, x2_set2S, x2_if2, x2_if2S, x2_callN, x2_cN1, x2_okL, x3_Set2, x3_If2, x3_Ret2, x3_tP, x3_tNt, x3_tAn, x3_tOr, x3_Tu, x3_Comp, x3_For2, x3_For2S, x3_Rev, x3_dRev, x3_start2, x3_cI1, x3_seqL, x3_seqT, x4_For, x4_iP, x4_iR, x4_iS, x4_ForX, x4_ForXS, x4_SetL, x4_App, x4_An, x4_Cm, x4_Ch, x4_tCh, x4_cI3, x4_cI4, x4_App2, x4_App2S, shl_ok h2 hw, er, hc, er2, e]
  · rw [em]
    simp (implicitDefEqProofs := false) only [x_run, x_out_nx, x_out_rt, x_out_er, x_seq, x_seq_nx, x_seq_rt, x_seq_er, x_seq_ct, x_seq_bk, x_ofR_ok, x_ofR_er, x_nx, x_bk, x_ct, x_set, x_setL, x_ret, x_drop, x_retN, x_if, x_raise, x_var, x_gv0, x_gvS, x_gvo0, x_gvoS, x_gb, x_gb0, x_gbO, x_gbS, x_c, x_op, x_cm, x_un, x_bf, x_isi, x_ix, x_ixO, x_ofO_some, x_anil, x_acons, x_tup, x_lst, x_eL, x_tb, x_nt, x_an, x_or, x_ent, x_ean, x_eor, x_eif, x_tT, x_tV, x_tY, x_call, x_callD, x_callK, x_cd1, x_cd2, x_cd3, x_cd4, x_st0, x_stS, x_stN, x_wh, x_for, x_iseq, x_ir1, x_ir2, x_add, x_sub, x_neg, x_dcmp, x_eqI, x_neI, x_absI, x_intI, x_gcdI, x_maxI, x_minI, x_lenL, x_lenT, x_ixL, x_ixT, x_at0, x_at1, x_sz0, x_sz1, x_sz2, x_sz3, x_gN, x_forN, x_for0, x_fB_nx, x_fB_ct, x_fB_bk, x_fB_rt, x_fB_er, x_iTT, x_iTL, x_iTI, x_iLT, x_iLL, x_iII, x_iBI, x_iSS, x_iBB, x_truB, x_itT, x_itL, x_try, RO.bind_ok, RO.bind_er, RO.pure_ok, List.set_cons_zero, List.set_cons_succ, List.cons_append, List.nil_append, if_true, if_false, ite_true, ite_false, reduceIte, Bool.false_eq_true, Bool.true_eq_false, Bool.not_true, Bool.not_false, x_len1, and_self, decide_eq_true_eq, decide_true, decide_false, eq_self, Bool.not_eq_true', decide_eq_false_iff_not, not_true_eq_false, not_false_eq_true, ne_eq, x_eqB, x_neB, x_intB, x_iIB, x_gT2, x_lLi, x_eTu, x_eTuO, x_eLeO, x_dSeqL, x_dSeqT, x_oN, x_oS, x_tI, x_sl, x_cutL, x_cutT, x_comp, x_app, x_asg, x_aug, wipeE, List.length_map, x2_seq, x2_seq_nx, x2_seq_rt, x2_seq_rl, x2_of, x2_nx, x2_set, x2_setI, x2_set20, x2_set21, x2_if, x2_ret, x2_retL, x2_runI, x2_fin, x2_start3, x2_runN, x2_finN, x2_start1, x2_P, x2_N, x2_C, x2_Op, x2_Cm, x2_Ix, x2_Lst, x2_Tup, x2_Call, x2_CallI, x2_cI2, x2_set2, x2_set2S, x2_if2, x2_if2S, x2_callN, x2_cN1, x2_okL, x3_Set2, x3_If2, x3_Ret2, x3_tP, x3_tNt, x3_tAn, x3_tOr, x3_Tu, x3_Comp, x3_For2, x3_For2S, x3_Rev, x3_dRev, x3_start2, x3_cI1, x3_seqL, x3_seqT, x4_For, x4_iP, x4_iR, x4_iS, x4_ForX, x4_ForXS, x4_SetL, x4_App, x4_An, x4_Cm, x4_Ch, x4_tCh, x4_cI3, x4_cI4, x4_App2, x4_App2S, shl_ok h2 hw, er, hc, er2, e]
end KM
set_option Elab.async false
set_option linter.all false
set_option maxRecDepth 100000
set_option maxHeartbeats 4000000
namespace KM
open PySem PySem.Spec PyProof.Rows L2 PD
/-! ### draws -/
theorem x_stI {m : Nat} {l ds : List PyData} : startI (m + 1) l ds = some (.own l) :: startE m ds := by
  unfold startI startE
  rw [show m + 1 - (ds.length + 1) = m - ds.length by omega]
theorem x_e2Bf {bi : List PyData → Option PyData} {ga : A2} {env : PD.Env} : e2Bf bi ga env = (ga env >>= fun x => ofO (bi x.1) >>= fun d => .ok (d, x.2)) := rfl
theorem x_sz4 {a b c d : PyData} : ([a, b, c, d].length ≤ sizeLine) = True := eq_true (by show 4 ≤ sizeLine; decide)
theorem x_sz6' {a b c d e f : PyData} : ([a, b, c, d, e, f].length ≤ sizeLine) = True := eq_true (by show 6 ≤ sizeLine; decide)
theorem takeN {a b : Int} {m : Nat} (hs : St a b) (hm : 0 < m) (l : m < 2 ^ 300) : ∃ (v : Nat) (a' b' : Int), F__law_take [.int a, .int b] [.int (m : Int)] = .ok (.int (v : Int), [.int a', .int b']) ∧ v < m ∧ St a' b' := by
  have sm : Sm 300 (m : Int) := by
    unfold Sm
    rw [Int.natAbs_natCast]
    exact l
  obtain ⟨v, a', b', e, h0, h1, hs'⟩ := take_ok (m := (m : Int)) hs (by omega) (divOk_sm sm (by omega))
  obtain ⟨k, rfl⟩ := Int.eq_ofNat_of_zero_le h0
  exact ⟨k, a', b', e, by omega, hs'⟩
theorem width_ok {a b : Int} (hs : St a b) : ∃ (w : Nat) (a' b' : Int), F__law_width [.int a, .int b] [] = .ok (.int (w : Int), [.int a', .int b']) ∧ 2 ≤ w ∧ w ≤ 200 ∧ St a' b' := by
  obtain ⟨v1, a1, b1, e1, l1, s1⟩ := takeN (m := 7) hs (by decide) (by decide +kernel)
  obtain ⟨v2, a2, b2, e2, l2, s2⟩ := takeN (m := 30) s1 (by decide) (by decide +kernel)
  obtain ⟨v3, a3, b3, e3, l3, s3⟩ := takeN (m := 199) s2 (by decide) (by decide +kernel)
  obtain ⟨v4, a4, b4, e4, l4, s4⟩ := takeN (m := 4) s3 (by decide) (by decide +kernel)
  obtain ⟨x, ex, hx⟩ := pickI (P := fun x => 2 ≤ x ∧ x ≤ 200) (l := [2 + (v1 : Int), 2 + (v2 : Int), 2 + (v3 : Int), 200]) (i := (v4 : Int)) (by omega) (by show (v4 : Int) < 4; omega) (by
    intro v hv
    simp only [List.mem_cons, List.not_mem_nil, or_false] at hv
    omega)
  obtain ⟨w, rfl⟩ := Int.eq_ofNat_of_zero_le (show 0 ≤ x by omega)
  have ex' : atI [PyData.int (2 + (v1 : Int)), .int (2 + (v2 : Int)), .int (2 + (v3 : Int)), .int 200] (v4 : Int) = some (.int (w : Int)) := ex
  refine ⟨w, a4, b4, ?_, by omega, by omega, s4⟩
  have e1' : F__law_take [.int a, .int b] [.int 7] = _ := e1
  have e2' : F__law_take [.int a1, .int b1] [.int 30] = _ := e2
  have e3' : F__law_take [.int a2, .int b2] [.int 199] = _ := e3
  have e4' : F__law_take [.int a3, .int b3] [.int 4] = _ := e4
  unfold F__law_width B__law_width
  simp (implicitDefEqProofs := false) only [x_run, x_out_nx, x_out_rt, x_out_er, x_seq, x_seq_nx, x_seq_rt, x_seq_er, x_seq_ct, x_seq_bk, x_ofR_ok, x_ofR_er, x_nx, x_bk, x_ct, x_set, x_setL, x_ret, x_drop, x_retN, x_if, x_raise, x_var, x_gv0, x_gvS, x_gvo0, x_gvoS, x_gb, x_gb0, x_gbO, x_gbS, x_c, x_op, x_cm, x_un, x_bf, x_isi, x_ix, x_ixO, x_ofO_some, x_anil, x_acons, x_tup, x_lst, x_eL, x_tb, x_nt, x_an, x_or, x_ent, x_ean, x_eor, x_eif, x_tT, x_tV, x_tY, x_call, x_callD, x_callK, x_cd1, x_cd2, x_cd3, x_cd4, x_st0, x_stS, x_stN, x_wh, x_for, x_iseq, x_ir1, x_ir2, x_add, x_sub, x_neg, x_dcmp, x_eqI, x_neI, x_absI, x_intI, x_gcdI, x_maxI, x_minI, x_lenL, x_lenT, x_ixL, x_ixT, x_at0, x_at1, x_sz0, x_sz1, x_sz2, x_sz3, x_gN, x_forN, x_for0, x_fB_nx, x_fB_ct, x_fB_bk, x_fB_rt, x_fB_er, x_iTT, x_iTL, x_iTI, x_iLT, x_iLL, x_iII, x_iBI, x_iSS, x_iBB, x_truB, x_itT, x_itL, x_try, RO.bind_ok, RO.bind_er, RO.pure_ok, List.set_cons_zero, List.set_cons_succ, List.cons_append, List.nil_append, if_true, if_false, ite_true, ite_false, reduceIte, Bool.false_eq_true, Bool.true_eq_false, Bool.not_true, Bool.not_false, x_len1, and_self, decide_eq_true_eq, decide_true, decide_false, eq_self, Bool.not_eq_true', decide_eq_false_iff_not, not_true_eq_false, not_false_eq_true, ne_eq, x_eqB, x_neB, x_intB, x_iIB, x_gT2, x_lLi, x_eTu, x_eTuO, x_eLeO, x_dSeqL, x_dSeqT, x_oN, x_oS, x_tI, x_sl, x_cutL, x_cutT, x_comp, x_app, x_asg, x_aug, wipeE, List.length_map, x2_seq, x2_seq_nx, x2_seq_rt, x2_seq_rl, x2_of, x2_nx, x2_set, x2_setI, x2_set20, x2_set21, x2_if, x2_ret, x2_retL, x2_runI, x2_fin, x2_start3, x2_runN, x2_finN, x2_start1, x2_P, x2_N, x2_C, x2_Op, x2_Cm, x2_Ix, x2_Lst, x2_Tup, x2_Call, x2_CallI, x2_cI2, x2_set2, x2_set2S, x2_if2, x2_if2S, x2_callN, x2_cN1, x2_okL, x3_Set2, x3_If2, x3_Ret2, x3_tP, x3_tNt, x3_tAn, x3_tOr, x3_Tu, x3_Comp, x3_For2, x3_For2S, x3_Rev, x3_dRev, x3_start2, x3_cI1, x3_seqL, x3_seqT, x4_For, x4_iP, x4_iR, x4_iS, x4_ForX, x4_ForXS, x4_SetL, x4_App, x4_An, x4_Cm, x4_Ch, x4_tCh, x4_cI3, x4_cI4, x4_App2, x4_App2S, x_stI, e1', e2', e3', e4', x_sz4, ex']
def cl (w : Nat) (t : Int) : Int := if (if t < hf w - 1 then t else hf w - 1) > -(hf w) then (if t < hf w - 1 then t else hf w - 1) else -(hf w)
theorem cl_fit (w : Nat) (t : Int) : Fit w (cl w t) := by
  have h := hf_pos w
  unfold cl Fit
  split <;> split <;> omega
theorem hf_sm {w : Nat} (hw : w ≤ 200) : Sm 200 (hf w) := by
  have h : Fit w (-(hf w)) := ⟨Int.le_refl _, by have := hf_pos w; omega⟩
  have := (h.sm hw).neg
  rw [Int.neg_neg] at this
  exact this
theorem integer_ok {a b : Int} {w : Nat} (h2 : 2 ≤ w) (hw : w ≤ 200) (hs : St a b) : ∃ v a' b' : Int, F__law_integer [.int a, .int b] [.int (w : Int)] = .ok (.int v, [.int a', .int b']) ∧ Fit w v ∧ St a' b' := by
  have hp := hf_pos w
  have sm2' : Sm 2 2 := by unfold Sm; decide
  have m2 := mlX (i := 2) (j := hf w) sm2' (hf_sm hw)
  obtain ⟨v1, a1, b1, e1, l1, s1⟩ := takeN (m := 3) hs (by decide) (by decide +kernel)
  obtain ⟨v2, a2, b2, e2, _, l2, s2⟩ := take_ok (m := 2 * hf w) s1 (by omega) (divOk_sm (sm2'.mul (hf_sm hw)) (by omega))
  obtain ⟨v3, a3, b3, e3, l3, s3⟩ := takeN (m := 9) s2 (by decide) (by decide +kernel)
  obtain ⟨v4, a4, b4, e4, l4, s4⟩ := takeN (m := 6) s3 (by decide) (by decide +kernel)
  obtain ⟨x, ex, _⟩ := pickI (P := fun _ => True) (l := [(v1 : Int), -(v1 : Int), hf w - 1 - (v1 : Int), (v1 : Int) - hf w, v2 - hf w, (v3 : Int) - 4]) (i := (v4 : Int)) (by omega) (by show (v4 : Int) < 6; omega) (fun _ _ => trivial)
  have ex' : atI [PyData.int (v1 : Int), .int (-(v1 : Int)), .int (hf w - 1 - (v1 : Int)), .int ((v1 : Int) - hf w), .int (v2 - hf w), .int ((v3 : Int) - 4)] (v4 : Int) = some (.int x) := ex
  have e1' : F__law_take [.int a, .int b] [.int 3] = _ := e1
  have e3' : F__law_take [.int a2, .int b2] [.int 9] = _ := e3
  have e4' : F__law_take [.int a3, .int b3] [.int 6] = _ := e4
  refine ⟨cl w x, a4, b4, ?_, cl_fit w x, s4⟩
  unfold F__law_integer B__law_integer cl
  simp (implicitDefEqProofs := false) only [x_run, x_out_nx, x_out_rt, x_out_er, x_seq, x_seq_nx, x_seq_rt, x_seq_er, x_seq_ct, x_seq_bk, x_ofR_ok, x_ofR_er, x_nx, x_bk, x_ct, x_set, x_setL, x_ret, x_drop, x_retN, x_if, x_raise, x_var, x_gv0, x_gvS, x_gvo0, x_gvoS, x_gb, x_gb0, x_gbO, x_gbS, x_c, x_op, x_cm, x_un, x_bf, x_isi, x_ix, x_ixO, x_ofO_some, x_anil, x_acons, x_tup, x_lst, x_eL, x_tb, x_nt, x_an, x_or, x_ent, x_ean, x_eor, x_eif, x_tT, x_tV, x_tY, x_call, x_callD, x_callK, x_cd1, x_cd2, x_cd3, x_cd4, x_st0, x_stS, x_stN, x_wh, x_for, x_iseq, x_ir1, x_ir2, x_add, x_sub, x_neg, x_dcmp, x_eqI, x_neI, x_absI, x_intI, x_gcdI, x_maxI, x_minI, x_lenL, x_lenT, x_ixL, x_ixT, x_at0, x_at1, x_sz0, x_sz1, x_sz2, x_sz3, x_gN, x_forN, x_for0, x_fB_nx, x_fB_ct, x_fB_bk, x_fB_rt, x_fB_er, x_iTT, x_iTL, x_iTI, x_iLT, x_iLL, x_iII, x_iBI, x_iSS, x_iBB, x_truB, x_itT, x_itL, x_try, RO.bind_ok, RO.bind_er, RO.pure_ok, List.set_cons_zero, List.set_cons_succ, List.cons_append, List.nil_append, if_true, if_false, ite_true, ite_false, reduceIte, Bool.false_eq_true, Bool.true_eq_false, Bool.not_true, Bool.not_false, x_len1, and_self, decide_eq_true_eq, decide_true, decide_false, eq_self, Bool.not_eq_true', decide_eq_false_iff_not, not_true_eq_false, not_false_eq_true, ne_eq, x_eqB, x_neB, x_intB, x_iIB, x_gT2, x_lLi, x_eTu, x_eTuO, x_eLeO, x_dSeqL, x_dSeqT, x_oN, x_oS, x_tI, x_sl, x_cutL, x_cutT, x_comp, x_app, x_asg, x_aug, wipeE, List.length_map, x2_seq, x2_seq_nx, x2_seq_rt, x2_seq_rl, x2_of, x2_nx, x2_set, x2_setI, x2_set20, x2_set21, x2_if, x2_ret, x2_retL, x2_runI, x2_fin, x2_start3, x2_runN, x2_finN, x2_start1, x2_P, x2_N, x2_C, x2_Op, x2_Cm, x2_Ix, x2_Lst, x2_Tup, x2_Call, x2_CallI, x2_cI2, x2_set2, x2_set2S, x2_if2, x2_if2S, x2_callN, x2_cN1, x2_okL, x3_Set2, x3_If2, x3_Ret2, x3_tP, x3_tNt, x3_tAn, x3_tOr, x3_Tu, x3_Comp, x3_For2, x3_For2S, x3_Rev, x3_dRev, x3_start2, x3_cI1, x3_seqL, x3_seqT, x4_For, x4_iP, x4_iR, x4_iS, x4_ForX, x4_ForXS, x4_SetL, x4_App, x4_An, x4_Cm, x4_Ch, x4_tCh, x4_cI3, x4_cI4, x4_App2, x4_App2S, x_stI, shl_ok h2 hw, e1', m2, e2, e3', e4', x_sz6', ex', x_e2Bf]
theorem row_ok {a b : Int} {w n r : Nat} (h2 : 2 ≤ w) (hw : w ≤ 200) (hn1 : 1 ≤ n) (hn : n ≤ 4) (hr1 : 1 ≤ r) (hr : r ≤ 6) (hs : St a b) : ∃ (x : Rw) (a' b' : Int), F__law_row [.int a, .int b] [.int (w : Int), .int (n : Int), .int (r : Int)] = .ok (x.d, [.int a', .int b']) ∧ x.Ok w r n := by
  obtain ⟨k, a1, b1, e1, l1, s1⟩ := takeN (m := 7) hs (by decide) (by decide +kernel)
  obtain ⟨o, a2, b2, e2, l2, s2⟩ := takeN (m := r) s1 (by omega) (Nat.lt_of_le_of_lt hr (by decide +kernel))
  obtain ⟨t, a3, b3, e3, l3, s3⟩ := takeN (m := r) s2 (by omega) (Nat.lt_of_le_of_lt hr (by decide +kernel))
  have e1' : F__law_take [.int a, .int b] [.int 7] = _ := e1
  by_cases k0 : k = 0
  · subst k0
    obtain ⟨i, a4, b4, e4, l4, s4⟩ := takeN (m := n) s3 (by omega) (Nat.lt_of_le_of_lt hn (by decide +kernel))
    refine ⟨.load o i, a4, b4, ?_, l2, l4⟩
    unfold F__law_row B__law_row
    dsimp only [Rw.d]
    simp (implicitDefEqProofs := false) only [x_run, x_out_nx, x_out_rt, x_out_er, x_seq, x_seq_nx, x_seq_rt, x_seq_er, x_seq_ct, x_seq_bk, x_ofR_ok, x_ofR_er, x_nx, x_bk, x_ct, x_set, x_setL, x_ret, x_drop, x_retN, x_if, x_raise, x_var, x_gv0, x_gvS, x_gvo0, x_gvoS, x_gb, x_gb0, x_gbO, x_gbS, x_c, x_op, x_cm, x_un, x_bf, x_isi, x_ix, x_ixO, x_ofO_some, x_anil, x_acons, x_tup, x_lst, x_eL, x_tb, x_nt, x_an, x_or, x_ent, x_ean, x_eor, x_eif, x_tT, x_tV, x_tY, x_call, x_callD, x_callK, x_cd1, x_cd2, x_cd3, x_cd4, x_st0, x_stS, x_stN, x_wh, x_for, x_iseq, x_ir1, x_ir2, x_add, x_sub, x_neg, x_dcmp, x_eqI, x_neI, x_absI, x_intI, x_gcdI, x_maxI, x_minI, x_lenL, x_lenT, x_ixL, x_ixT, x_at0, x_at1, x_sz0, x_sz1, x_sz2, x_sz3, x_gN, x_forN, x_for0, x_fB_nx, x_fB_ct, x_fB_bk, x_fB_rt, x_fB_er, x_iTT, x_iTL, x_iTI, x_iLT, x_iLL, x_iII, x_iBI, x_iSS, x_iBB, x_truB, x_itT, x_itL, x_try, RO.bind_ok, RO.bind_er, RO.pure_ok, List.set_cons_zero, List.set_cons_succ, List.cons_append, List.nil_append, if_true, if_false, ite_true, ite_false, reduceIte, Bool.false_eq_true, Bool.true_eq_false, Bool.not_true, Bool.not_false, x_len1, and_self, decide_eq_true_eq, decide_true, decide_false, eq_self, Bool.not_eq_true', decide_eq_false_iff_not, not_true_eq_false, not_false_eq_true, ne_eq, x_eqB, x_neB, x_intB, x_iIB, x_gT2, x_lLi, x_eTu, x_eTuO, x_eLeO, x_dSeqL, x_dSeqT, x_oN, x_oS, x_tI, x_sl, x_cutL, x_cutT, x_comp, x_app, x_asg, x_aug, wipeE, List.length_map, x2_seq, x2_seq_nx, x2_seq_rt, x2_seq_rl, x2_of, x2_nx, x2_set, x2_setI, x2_set20, x2_set21, x2_if, x2_ret, x2_retL, x2_runI, x2_fin, x2_start3, x2_runN, x2_finN, x2_start1, x2_P, x2_N, x2_C, x2_Op, x2_Cm, x2_Ix, x2_Lst, x2_Tup, x2_Call, x2_CallI, x2_cI2, x2_set2, x2_set2S, x2_if2, x2_if2S, x2_callN, x2_cN1, x2_okL, x3_Set2, x3_If2, x3_Ret2, x3_tP, x3_tNt, x3_tAn, x3_tOr, x3_Tu, x3_Comp, x3_For2, x3_For2S, x3_Rev, x3_dRev, x3_start2, x3_cI1, x3_seqL, x3_seqT, x4_For, x4_iP, x4_iR, x4_iS, x4_ForX, x4_ForXS, x4_SetL, x4_App, x4_An, x4_Cm, x4_Ch, x4_tCh, x4_cI3, x4_cI4, x4_App2, x4_App2S, x_stI, e1', e2, e3, e4, eq_true (show ((0 : Nat) : Int) = 0 from rfl)]
  by_cases k1 : k = 1
  · subst k1
    obtain ⟨v, a4, b4, e4, l4, s4⟩ := integer_ok h2 hw s3
    refine ⟨.sett o v, a4, b4, ?_, l2, l4⟩
    unfold F__law_row B__law_row
    dsimp only [Rw.d]
    simp (implicitDefEqProofs := false) only [x_run, x_out_nx, x_out_rt, x_out_er, x_seq, x_seq_nx, x_seq_rt, x_seq_er, x_seq_ct, x_seq_bk, x_ofR_ok, x_ofR_er, x_nx, x_bk, x_ct, x_set, x_setL, x_ret, x_drop, x_retN, x_if, x_raise, x_var, x_gv0, x_gvS, x_gvo0, x_gvoS, x_gb, x_gb0, x_gbO, x_gbS, x_c, x_op, x_cm, x_un, x_bf, x_isi, x_ix, x_ixO, x_ofO_some, x_anil, x_acons, x_tup, x_lst, x_eL, x_tb, x_nt, x_an, x_or, x_ent, x_ean, x_eor, x_eif, x_tT, x_tV, x_tY, x_call, x_callD, x_callK, x_cd1, x_cd2, x_cd3, x_cd4, x_st0, x_stS, x_stN, x_wh, x_for, x_iseq, x_ir1, x_ir2, x_add, x_sub, x_neg, x_dcmp, x_eqI, x_neI, x_absI, x_intI, x_gcdI, x_maxI, x_minI, x_lenL, x_lenT, x_ixL, x_ixT, x_at0, x_at1, x_sz0, x_sz1, x_sz2, x_sz3, x_gN, x_forN, x_for0, x_fB_nx, x_fB_ct, x_fB_bk, x_fB_rt, x_fB_er, x_iTT, x_iTL, x_iTI, x_iLT, x_iLL, x_iII, x_iBI, x_iSS, x_iBB, x_truB, x_itT, x_itL, x_try, RO.bind_ok, RO.bind_er, RO.pure_ok, List.set_cons_zero, List.set_cons_succ, List.cons_append, List.nil_append, if_true, if_false, ite_true, ite_false, reduceIte, Bool.false_eq_true, Bool.true_eq_false, Bool.not_true, Bool.not_false, x_len1, and_self, decide_eq_true_eq, decide_true, decide_false, eq_self, Bool.not_eq_true', decide_eq_false_iff_not, not_true_eq_false, not_false_eq_true, ne_eq, x_eqB, x_neB, x_intB, x_iIB, x_gT2, x_lLi, x_eTu, x_eTuO, x_eLeO, x_dSeqL, x_dSeqT, x_oN, x_oS, x_tI, x_sl, x_cutL, x_cutT, x_comp, x_app, x_asg, x_aug, wipeE, List.length_map, x2_seq, x2_seq_nx, x2_seq_rt, x2_seq_rl, x2_of, x2_nx, x2_set, x2_setI, x2_set20, x2_set21, x2_if, x2_ret, x2_retL, x2_runI, x2_fin, x2_start3, x2_runN, x2_finN, x2_start1, x2_P, x2_N, x2_C, x2_Op, x2_Cm, x2_Ix, x2_Lst, x2_Tup, x2_Call, x2_CallI, x2_cI2, x2_set2, x2_set2S, x2_if2, x2_if2S, x2_callN, x2_cN1, x2_okL, x3_Set2, x3_If2, x3_Ret2, x3_tP, x3_tNt, x3_tAn, x3_tOr, x3_Tu, x3_Comp, x3_For2, x3_For2S, x3_Rev, x3_dRev, x3_start2, x3_cI1, x3_seqL, x3_seqT, x4_For, x4_iP, x4_iR, x4_iS, x4_ForX, x4_ForXS, x4_SetL, x4_App, x4_An, x4_Cm, x4_Ch, x4_tCh, x4_cI3, x4_cI4, x4_App2, x4_App2S, x_stI, e1', e2, e3, e4, eq_false (show ¬ ((1 : Nat) : Int) = 0 by decide), eq_true (show ((1 : Nat) : Int) = 1 from rfl)]
  by_cases k2 : k = 2
  · subst k2
    obtain ⟨v, a4, b4, e4, l4, s4⟩ := integer_ok h2 hw s3
    refine ⟨.times o t v, a4, b4, ?_, l2, l3, l4⟩
    unfold F__law_row B__law_row
    dsimp only [Rw.d]
    simp (implicitDefEqProofs := false) only [x_run, x_out_nx, x_out_rt, x_out_er, x_seq, x_seq_nx, x_seq_rt, x_seq_er, x_seq_ct, x_seq_bk, x_ofR_ok, x_ofR_er, x_nx, x_bk, x_ct, x_set, x_setL, x_ret, x_drop, x_retN, x_if, x_raise, x_var, x_gv0, x_gvS, x_gvo0, x_gvoS, x_gb, x_gb0, x_gbO, x_gbS, x_c, x_op, x_cm, x_un, x_bf, x_isi, x_ix, x_ixO, x_ofO_some, x_anil, x_acons, x_tup, x_lst, x_eL, x_tb, x_nt, x_an, x_or, x_ent, x_ean, x_eor, x_eif, x_tT, x_tV, x_tY, x_call, x_callD, x_callK, x_cd1, x_cd2, x_cd3, x_cd4, x_st0, x_stS, x_stN, x_wh, x_for, x_iseq, x_ir1, x_ir2, x_add, x_sub, x_neg, x_dcmp, x_eqI, x_neI, x_absI, x_intI, x_gcdI, x_maxI, x_minI, x_lenL, x_lenT, x_ixL, x_ixT, x_at0, x_at1, x_sz0, x_sz1, x_sz2, x_sz3, x_gN, x_forN, x_for0, x_fB_nx, x_fB_ct, x_fB_bk, x_fB_rt, x_fB_er, x_iTT, x_iTL, x_iTI, x_iLT, x_iLL, x_iII, x_iBI, x_iSS, x_iBB, x_truB, x_itT, x_itL, x_try, RO.bind_ok, RO.bind_er, RO.pure_ok, List.set_cons_zero, List.set_cons_succ, List.cons_append, List.nil_append, if_true, if_false, ite_true, ite_false, reduceIte, Bool.false_eq_true, Bool.true_eq_false, Bool.not_true, Bool.not_false, x_len1, and_self, decide_eq_true_eq, decide_true, decide_false, eq_self, Bool.not_eq_true', decide_eq_false_iff_not, not_true_eq_false, not_false_eq_true, ne_eq, x_eqB, x_neB, x_intB, x_iIB, x_gT2, x_lLi, x_eTu, x_eTuO, x_eLeO, x_dSeqL, x_dSeqT, x_oN, x_oS, x_tI, x_sl, x_cutL, x_cutT, x_comp, x_app, x_asg, x_aug, wipeE, List.length_map, x2_seq, x2_seq_nx, x2_seq_rt, x2_seq_rl, x2_of, x2_nx, x2_set, x2_setI, x2_set20, x2_set21, x2_if, x2_ret, x2_retL, x2_runI, x2_fin, x2_start3, x2_runN, x2_finN, x2_start1, x2_P, x2_N, x2_C, x2_Op, x2_Cm, x2_Ix, x2_Lst, x2_Tup, x2_Call, x2_CallI, x2_cI2, x2_set2, x2_set2S, x2_if2, x2_if2S, x2_callN, x2_cN1, x2_okL, x3_Set2, x3_If2, x3_Ret2, x3_tP, x3_tNt, x3_tAn, x3_tOr, x3_Tu, x3_Comp, x3_For2, x3_For2S, x3_Rev, x3_dRev, x3_start2, x3_cI1, x3_seqL, x3_seqT, x4_For, x4_iP, x4_iR, x4_iS, x4_ForX, x4_ForXS, x4_SetL, x4_App, x4_An, x4_Cm, x4_Ch, x4_tCh, x4_cI3, x4_cI4, x4_App2, x4_App2S, x_stI, e1', e2, e3, e4, x_sz4, eq_false (show ¬ ((2 : Nat) : Int) = 0 by decide), eq_false (show ¬ ((2 : Nat) : Int) = 1 by decide), eq_true (show ((2 : Nat) : Int) = 2 from rfl)]
  by_cases k5 : k < 5
  · refine ⟨.add o t, a3, b3, ?_, l2, l3⟩
    unfold F__law_row B__law_row
    dsimp only [Rw.d]
    simp (implicitDefEqProofs := false) only [x_run, x_out_nx, x_out_rt, x_out_er, x_seq, x_seq_nx, x_seq_rt, x_seq_er, x_seq_ct, x_seq_bk, x_ofR_ok, x_ofR_er, x_nx, x_bk, x_ct, x_set, x_setL, x_ret, x_drop, x_retN, x_if, x_raise, x_var, x_gv0, x_gvS, x_gvo0, x_gvoS, x_gb, x_gb0, x_gbO, x_gbS, x_c, x_op, x_cm, x_un, x_bf, x_isi, x_ix, x_ixO, x_ofO_some, x_anil, x_acons, x_tup, x_lst, x_eL, x_tb, x_nt, x_an, x_or, x_ent, x_ean, x_eor, x_eif, x_tT, x_tV, x_tY, x_call, x_callD, x_callK, x_cd1, x_cd2, x_cd3, x_cd4, x_st0, x_stS, x_stN, x_wh, x_for, x_iseq, x_ir1, x_ir2, x_add, x_sub, x_neg, x_dcmp, x_eqI, x_neI, x_absI, x_intI, x_gcdI, x_maxI, x_minI, x_lenL, x_lenT, x_ixL, x_ixT, x_at0, x_at1, x_sz0, x_sz1, x_sz2, x_sz3, x_gN, x_forN, x_for0, x_fB_nx, x_fB_ct, x_fB_bk, x_fB_rt, x_fB_er, x_iTT, x_iTL, x_iTI, x_iLT, x_iLL, x_iII, x_iBI, x_iSS, x_iBB, x_truB, x_itT, x_itL, x_try, RO.bind_ok, RO.bind_er, RO.pure_ok, List.set_cons_zero, List.set_cons_succ, List.cons_append, List.nil_append, if_true, if_false, ite_true, ite_false, reduceIte, Bool.false_eq_true, Bool.true_eq_false, Bool.not_true, Bool.not_false, x_len1, and_self, decide_eq_true_eq, decide_true, decide_false, eq_self, Bool.not_eq_true', decide_eq_false_iff_not, not_true_eq_false, not_false_eq_true, ne_eq, x_eqB, x_neB, x_intB, x_iIB, x_gT2, x_lLi, x_eTu, x_eTuO, x_eLeO, x_dSeqL, x_dSeqT, x_oN, x_oS, x_tI, x_sl, x_cutL, x_cutT, x_comp, x_app, x_asg, x_aug, wipeE, List.length_map, x2_seq, x2_seq_nx, x2_seq_rt, x2_seq_rl, x2_of, x2_nx, x2_set, x2_setI, x2_set20, x2_set21, x2_if, x2_ret, x2_retL, x2_runI, x2_fin, x2_start3, x2_runN, x2_finN, x2_start1, x2_P, x2_N, x2_C, x2_Op, x2_Cm, x2_Ix, x2_Lst, x2_Tup, x2_Call, x2_CallI, x2_cI2, x2_set2, x2_set2S, x2_if2, x2_if2S, x2_callN, x2_cN1, x2_okL, x3_Set2, x3_If2, x3_Ret2, x3_tP, x3_tNt, x3_tAn, x3_tOr, x3_Tu, x3_Comp, x3_For2, x3_For2S, x3_Rev, x3_dRev, x3_start2, x3_cI1, x3_seqL, x3_seqT, x4_For, x4_iP, x4_iR, x4_iS, x4_ForX, x4_ForXS, x4_SetL, x4_App, x4_An, x4_Cm, x4_Ch, x4_tCh, x4_cI3, x4_cI4, x4_App2, x4_App2S, x_stI, e1', e2, e3, eq_false (show ¬ (k : Int) = 0 by omega), eq_false (show ¬ (k : Int) = 1 by omega), eq_false (show ¬ (k : Int) = 2 by omega), eq_true (show (k : Int) < 5 by omega)]
  by_cases k6 : k = 5
  · subst k6
    refine ⟨.bend o, a3, b3, ?_, l2⟩
    unfold F__law_row B__law_row
    dsimp only [Rw.d]
    simp (implicitDefEqProofs := false) only [x_run, x_out_nx, x_out_rt, x_out_er, x_seq, x_seq_nx, x_seq_rt, x_seq_er, x_seq_ct, x_seq_bk, x_ofR_ok, x_ofR_er, x_nx, x_bk, x_ct, x_set, x_setL, x_ret, x_drop, x_retN, x_if, x_raise, x_var, x_gv0, x_gvS, x_gvo0, x_gvoS, x_gb, x_gb0, x_gbO, x_gbS, x_c, x_op, x_cm, x_un, x_bf, x_isi, x_ix, x_ixO, x_ofO_some, x_anil, x_acons, x_tup, x_lst, x_eL, x_tb, x_nt, x_an, x_or, x_ent, x_ean, x_eor, x_eif, x_tT, x_tV, x_tY, x_call, x_callD, x_callK, x_cd1, x_cd2, x_cd3, x_cd4, x_st0, x_stS, x_stN, x_wh, x_for, x_iseq, x_ir1, x_ir2, x_add, x_sub, x_neg, x_dcmp, x_eqI, x_neI, x_absI, x_intI, x_gcdI, x_maxI, x_minI, x_lenL, x_lenT, x_ixL, x_ixT, x_at0, x_at1, x_sz0, x_sz1, x_sz2, x_sz3, x_gN, x_forN, x_for0, x_fB_nx, x_fB_ct, x_fB_bk, x_fB_rt, x_fB_er, x_iTT, x_iTL, x_iTI, x_iLT, x_iLL, x_iII, x_iBI, x_iSS, x_iBB, x_truB, x_itT, x_itL, x_try, RO.bind_ok, RO.bind_er, RO.pure_ok, List.set_cons_zero, List.set_cons_succ, List.cons_append, List.nil_append, if_true, if_false, ite_true, ite_false, reduceIte, Bool.false_eq_true, Bool.true_eq_false, Bool.not_true, Bool.not_false, x_len1, and_self, decide_eq_true_eq, decide_true, decide_false, eq_self, Bool.not_eq_true', decide_eq_false_iff_not, not_true_eq_false, not_false_eq_true, ne_eq, x_eqB, x_neB, x_intB, x_iIB, x_gT2, x_lLi, x_eTu, x_eTuO, x_eLeO, x_dSeqL, x_dSeqT, x_oN, x_oS, x_tI, x_sl, x_cutL, x_cutT, x_comp, x_app, x_asg, x_aug, wipeE, List.length_map, x2_seq, x2_seq_nx, x2_seq_rt, x2_seq_rl, x2_of, x2_nx, x2_set, x2_setI, x2_set20, x2_set21, x2_if, x2_ret, x2_retL, x2_runI, x2_fin, x2_start3, x2_runN, x2_finN, x2_start1, x2_P, x2_N, x2_C, x2_Op, x2_Cm, x2_Ix, x2_Lst, x2_Tup, x2_Call, x2_CallI, x2_cI2, x2_set2, x2_set2S, x2_if2, x2_if2S, x2_callN, x2_cN1, x2_okL, x3_Set2, x3_If2, x3_Ret2, x3_tP, x3_tNt, x3_tAn, x3_tOr, x3_Tu, x3_Comp, x3_For2, x3_For2S, x3_Rev, x3_dRev, x3_start2, x3_cI1, x3_seqL, x3_seqT, x4_For, x4_iP, x4_iR, x4_iS, x4_ForX, x4_ForXS, x4_SetL, x4_App, x4_An, x4_Cm, x4_Ch, x4_tCh, x4_cI3, x4_cI4, x4_App2, x4_App2S, x_stI, e1', e2, e3, eq_false (show ¬ ((5 : Nat) : Int) = 0 by decide), eq_false (show ¬ ((5 : Nat) : Int) = 1 by decide), eq_false (show ¬ ((5 : Nat) : Int) = 2 by decide), eq_false (show ¬ ((5 : Nat) : Int) < 5 by decide), show ((5 : Nat) : Int) - 5 = 0 from rfl]
  · have k7 : k = 6 := by omega
    subst k7
    refine ⟨.give o, a3, b3, ?_, l2⟩
    unfold F__law_row B__law_row
    dsimp only [Rw.d]
    simp (implicitDefEqProofs := false) only [x_run, x_out_nx, x_out_rt, x_out_er, x_seq, x_seq_nx, x_seq_rt, x_seq_er, x_seq_ct, x_seq_bk, x_ofR_ok, x_ofR_er, x_nx, x_bk, x_ct, x_set, x_setL, x_ret, x_drop, x_retN, x_if, x_raise, x_var, x_gv0, x_gvS, x_gvo0, x_gvoS, x_gb, x_gb0, x_gbO, x_gbS, x_c, x_op, x_cm, x_un, x_bf, x_isi, x_ix, x_ixO, x_ofO_some, x_anil, x_acons, x_tup, x_lst, x_eL, x_tb, x_nt, x_an, x_or, x_ent, x_ean, x_eor, x_eif, x_tT, x_tV, x_tY, x_call, x_callD, x_callK, x_cd1, x_cd2, x_cd3, x_cd4, x_st0, x_stS, x_stN, x_wh, x_for, x_iseq, x_ir1, x_ir2, x_add, x_sub, x_neg, x_dcmp, x_eqI, x_neI, x_absI, x_intI, x_gcdI, x_maxI, x_minI, x_lenL, x_lenT, x_ixL, x_ixT, x_at0, x_at1, x_sz0, x_sz1, x_sz2, x_sz3, x_gN, x_forN, x_for0, x_fB_nx, x_fB_ct, x_fB_bk, x_fB_rt, x_fB_er, x_iTT, x_iTL, x_iTI, x_iLT, x_iLL, x_iII, x_iBI, x_iSS, x_iBB, x_truB, x_itT, x_itL, x_try, RO.bind_ok, RO.bind_er, RO.pure_ok, List.set_cons_zero, List.set_cons_succ, List.cons_append, List.nil_append, if_true, if_false, ite_true, ite_false, reduceIte, Bool.false_eq_true, Bool.true_eq_false, Bool.not_true, Bool.not_false, x_len1, and_self, decide_eq_true_eq, decide_true, decide_false, eq_self, Bool.not_eq_true', decide_eq_false_iff_not, not_true_eq_false, not_false_eq_true, ne_eq, x_eqB, x_neB, x_intB, x_iIB, x_gT2, x_lLi, x_eTu, x_eTuO, x_eLeO, x_dSeqL, x_dSeqT, x_oN, x_oS, x_tI, x_sl, x_cutL, x_cutT, x_comp, x_app, x_asg, x_aug, wipeE, List.length_map, x2_seq, x2_seq_nx, x2_seq_rt, x2_seq_rl, x2_of, x2_nx, x2_set, x2_setI, x2_set20, x2_set21, x2_if, x2_ret, x2_retL, x2_runI, x2_fin, x2_start3, x2_runN, x2_finN, x2_start1, x2_P, x2_N, x2_C, x2_Op, x2_Cm, x2_Ix, x2_Lst, x2_Tup, x2_Call, x2_CallI, x2_cI2, x2_set2, x2_set2S, x2_if2, x2_if2S, x2_callN, x2_cN1, x2_okL, x3_Set2, x3_If2, x3_Ret2, x3_tP, x3_tNt, x3_tAn, x3_tOr, x3_Tu, x3_Comp, x3_For2, x3_For2S, x3_Rev, x3_dRev, x3_start2, x3_cI1, x3_seqL, x3_seqT, x4_For, x4_iP, x4_iR, x4_iS, x4_ForX, x4_ForXS, x4_SetL, x4_App, x4_An, x4_Cm, x4_Ch, x4_tCh, x4_cI3, x4_cI4, x4_App2, x4_App2S, x_stI, e1', e2, e3, eq_false (show ¬ ((6 : Nat) : Int) = 0 by decide), eq_false (show ¬ ((6 : Nat) : Int) = 1 by decide), eq_false (show ¬ ((6 : Nat) : Int) = 2 by decide), eq_false (show ¬ ((6 : Nat) : Int) < 5 by decide), show ((6 : Nat) : Int) - 5 = 1 from rfl]
theorem pow6 : dPow (.int 10) (.int 6) = some (.int 1000000) := pow_ok 6 (by decide +kernel)
theorem inp_body {a b : Int} {w : Nat} {l : List Int} {x2 x5 x6 : Option SV} (h2 : 2 ≤ w) (hw : w ≤ 200) (hs : St a b) (hl : l.length ≤ 100) : ∃ a' b' v, inpC1 [some (.own [.int a, .int b]), some (.fz (.int (w : Int))), x2, some (.fz (.int (hf w))), some (.own (l.map .int)), x5, x6] = .nx [some (.own [.int a', .int b']), some (.fz (.int (w : Int))), x2, some (.fz (.int (hf w))), some (.own ((l ++ [v]).map .int)), x5, some (.fz (.int v))] ∧ St a' b' ∧ Sm 300 v := by
  obtain ⟨v, a1, b1, e1, l1, s1⟩ := integer_ok h2 hw hs
  obtain ⟨k, a2, b2, e2, l2, s2⟩ := takeN (m := 12) s1 (by decide) (by decide +kernel)
  have e2' : F__law_take [.int a1, .int b1] [.int 12] = _ := e2
  have hsz : (l.length < sizeLine) = True := eq_true (Nat.lt_of_le_of_lt hl (by decide))
  by_cases k0 : k = 0
  · subst k0
    obtain ⟨v3, a3, b3, e3, l3, s3⟩ := takeN (m := 1000000) s2 (by decide) (by decide +kernel)
    obtain ⟨v4, a4, b4, e4, l4, s4⟩ := takeN (m := 3) s3 (by decide) (by decide +kernel)
    have e3' : F__law_take [.int a2, .int b2] [.int 1000000] = _ := e3
    have e4' : F__law_take [.int a3, .int b3] [.int 3] = _ := e4
    have hh := hf_sm hw
    have s1m : Sm 200 (1 : Int) := by unfold Sm; decide +kernel
    have s3m : Sm 200 (v3 : Int) := by
      unfold Sm
      rw [Int.natAbs_natCast]
      exact Nat.lt_trans l3 (by decide +kernel)
    obtain ⟨x, ex, hx⟩ := pickI (P := fun x => Sm 300 x) (l := [hf w, -(hf w) - 1, hf w + (v3 : Int)]) (i := (v4 : Int)) (by omega) (by show (v4 : Int) < 3; omega) (by
      intro v hv
      simp only [List.mem_cons, List.not_mem_nil, or_false] at hv
      rcases hv with rfl | rfl | rfl
      · exact hh.mono (by decide)
      · exact (Sm.sub hh.neg s1m).mono (by decide)
      · exact (Sm.add hh s3m).mono (by decide))
    have ex' : atI [PyData.int (hf w), .int (-(hf w) - 1), .int (hf w + (v3 : Int))] (v4 : Int) = some (.int x) := ex
    refine ⟨a4, b4, x, ?_, s4, hx⟩
    unfold inpC1
    simp (implicitDefEqProofs := false) only [x_run, x_out_nx, x_out_rt, x_out_er, x_seq, x_seq_nx, x_seq_rt, x_seq_er, x_seq_ct, x_seq_bk, x_ofR_ok, x_ofR_er, x_nx, x_bk, x_ct, x_set, x_setL, x_ret, x_drop, x_retN, x_if, x_raise, x_var, x_gv0, x_gvS, x_gvo0, x_gvoS, x_gb, x_gb0, x_gbO, x_gbS, x_c, x_op, x_cm, x_un, x_bf, x_isi, x_ix, x_ixO, x_ofO_some, x_anil, x_acons, x_tup, x_lst, x_eL, x_tb, x_nt, x_an, x_or, x_ent, x_ean, x_eor, x_eif, x_tT, x_tV, x_tY, x_call, x_callD, x_callK, x_cd1, x_cd2, x_cd3, x_cd4, x_st0, x_stS, x_stN, x_wh, x_for, x_iseq, x_ir1, x_ir2, x_add, x_sub, x_neg, x_dcmp, x_eqI, x_neI, x_absI, x_intI, x_gcdI, x_maxI, x_minI, x_lenL, x_lenT, x_ixL, x_ixT, x_at0, x_at1, x_sz0, x_sz1, x_sz2, x_sz3, x_gN, x_forN, x_for0, x_fB_nx, x_fB_ct, x_fB_bk, x_fB_rt, x_fB_er, x_iTT, x_iTL, x_iTI, x_iLT, x_iLL, x_iII, x_iBI, x_iSS, x_iBB, x_truB, x_itT, x_itL, x_try, RO.bind_ok, RO.bind_er, RO.pure_ok, List.set_cons_zero, List.set_cons_succ, List.cons_append, List.nil_append, if_true, if_false, ite_true, ite_false, reduceIte, Bool.false_eq_true, Bool.true_eq_false, Bool.not_true, Bool.not_false, x_len1, and_self, decide_eq_true_eq, decide_true, decide_false, eq_self, Bool.not_eq_true', decide_eq_false_iff_not, not_true_eq_false, not_false_eq_true, ne_eq, x_eqB, x_neB, x_intB, x_iIB, x_gT2, x_lLi, x_eTu, x_eTuO, x_eLeO, x_dSeqL, x_dSeqT, x_oN, x_oS, x_tI, x_sl, x_cutL, x_cutT, x_comp, x_app, x_asg, x_aug, wipeE, List.length_map, x2_seq, x2_seq_nx, x2_seq_rt, x2_seq_rl, x2_of, x2_nx, x2_set, x2_setI, x2_set20, x2_set21, x2_if, x2_ret, x2_retL, x2_runI, x2_fin, x2_start3, x2_runN, x2_finN, x2_start1, x2_P, x2_N, x2_C, x2_Op, x2_Cm, x2_Ix, x2_Lst, x2_Tup, x2_Call, x2_CallI, x2_cI2, x2_set2, x2_set2S, x2_if2, x2_if2S, x2_callN, x2_cN1, x2_okL, x3_Set2, x3_If2, x3_Ret2, x3_tP, x3_tNt, x3_tAn, x3_tOr, x3_Tu, x3_Comp, x3_For2, x3_For2S, x3_Rev, x3_dRev, x3_start2, x3_cI1, x3_seqL, x3_seqT, x4_For, x4_iP, x4_iR, x4_iS, x4_ForX, x4_ForXS, x4_SetL, x4_App, x4_An, x4_Cm, x4_Ch, x4_tCh, x4_cI3, x4_cI4, x4_App2, x4_App2S, e1, e2', eq_true (show ((0 : Nat) : Int) = 0 from rfl), pow6, e3', e4', ex', hsz, append_int]
  · refine ⟨a2, b2, v, ?_, s2, (l1.sm hw).mono (by decide)⟩
    unfold inpC1
    simp (implicitDefEqProofs := false) only [x_run, x_out_nx, x_out_rt, x_out_er, x_seq, x_seq_nx, x_seq_rt, x_seq_er, x_seq_ct, x_seq_bk, x_ofR_ok, x_ofR_er, x_nx, x_bk, x_ct, x_set, x_setL, x_ret, x_drop, x_retN, x_if, x_raise, x_var, x_gv0, x_gvS, x_gvo0, x_gvoS, x_gb, x_gb0, x_gbO, x_gbS, x_c, x_op, x_cm, x_un, x_bf, x_isi, x_ix, x_ixO, x_ofO_some, x_anil, x_acons, x_tup, x_lst, x_eL, x_tb, x_nt, x_an, x_or, x_ent, x_ean, x_eor, x_eif, x_tT, x_tV, x_tY, x_call, x_callD, x_callK, x_cd1, x_cd2, x_cd3, x_cd4, x_st0, x_stS, x_stN, x_wh, x_for, x_iseq, x_ir1, x_ir2, x_add, x_sub, x_neg, x_dcmp, x_eqI, x_neI, x_absI, x_intI, x_gcdI, x_maxI, x_minI, x_lenL, x_lenT, x_ixL, x_ixT, x_at0, x_at1, x_sz0, x_sz1, x_sz2, x_sz3, x_gN, x_forN, x_for0, x_fB_nx, x_fB_ct, x_fB_bk, x_fB_rt, x_fB_er, x_iTT, x_iTL, x_iTI, x_iLT, x_iLL, x_iII, x_iBI, x_iSS, x_iBB, x_truB, x_itT, x_itL, x_try, RO.bind_ok, RO.bind_er, RO.pure_ok, List.set_cons_zero, List.set_cons_succ, List.cons_append, List.nil_append, if_true, if_false, ite_true, ite_false, reduceIte, Bool.false_eq_true, Bool.true_eq_false, Bool.not_true, Bool.not_false, x_len1, and_self, decide_eq_true_eq, decide_true, decide_false, eq_self, Bool.not_eq_true', decide_eq_false_iff_not, not_true_eq_false, not_false_eq_true, ne_eq, x_eqB, x_neB, x_intB, x_iIB, x_gT2, x_lLi, x_eTu, x_eTuO, x_eLeO, x_dSeqL, x_dSeqT, x_oN, x_oS, x_tI, x_sl, x_cutL, x_cutT, x_comp, x_app, x_asg, x_aug, wipeE, List.length_map, x2_seq, x2_seq_nx, x2_seq_rt, x2_seq_rl, x2_of, x2_nx, x2_set, x2_setI, x2_set20, x2_set21, x2_if, x2_ret, x2_retL, x2_runI, x2_fin, x2_start3, x2_runN, x2_finN, x2_start1, x2_P, x2_N, x2_C, x2_Op, x2_Cm, x2_Ix, x2_Lst, x2_Tup, x2_Call, x2_CallI, x2_cI2, x2_set2, x2_set2S, x2_if2, x2_if2S, x2_callN, x2_cN1, x2_okL, x3_Set2, x3_If2, x3_Ret2, x3_tP, x3_tNt, x3_tAn, x3_tOr, x3_Tu, x3_Comp, x3_For2, x3_For2S, x3_Rev, x3_dRev, x3_start2, x3_cI1, x3_seqL, x3_seqT, x4_For, x4_iP, x4_iR, x4_iS, x4_ForX, x4_ForXS, x4_SetL, x4_App, x4_An, x4_Cm, x4_Ch, x4_tCh, x4_cI3, x4_cI4, x4_App2, x4_App2S, e1, e2', eq_false (show ¬ (k : Int) = 0 by omega), hsz, append_int]
theorem inputs_ok {a b : Int} {w n : Nat} (h2 : 2 ≤ w) (hw : w ≤ 200) (hn : n ≤ 4) (hs : St a b) : ∃ (l : List Int) (a' b' : Int), F__law_inputs [.int a, .int b] [.int (w : Int), .int (n : Int)] = .ok (.list (l.map .int), [.int a', .int b']) ∧ l.length = n ∧ (∀ x ∈ l, Sm 300 x) ∧ St a' b' := by
  have loop := for2_pre (gg := gN 5) (body := inpC1) (fun i : Nat => PyData.int (0 + (i : Nat))) (fun pre env => ∃ (a b : Int) (l : List Int) (x5 x6 : Option SV), env = [some (.own [.int a, .int b]), some (.fz (.int (w : Int))), some (.fz (.int (n : Int))), some (.fz (.int (hf w))), some (.own (l.map .int)), x5, x6] ∧ l.length = pre.length ∧ (∀ x ∈ l, Sm 300 x) ∧ St a b) (List.range n) [] [some (.own [.int a, .int b]), some (.fz (.int (w : Int))), some (.fz (.int (n : Int))), some (.fz (.int (hf w))), some (.own []), none, none]
    (fun p x q env hp hi => by
      obtain ⟨a, b, l, x5, x6, rfl, ll, lm, hs⟩ := hi
      have hlen : p.length < n := by
        have := congrArg List.length hp
        simp only [List.length_append, List.length_cons, List.length_range, List.length_nil] at this
        omega
      obtain ⟨a', b', v, e, hs', hv⟩ := inp_body (x2 := some (.fz (.int (n : Int)))) (x5 := some (.fz (.int (0 + (x : Nat))))) (x6 := x6) h2 hw hs (l := l) (by omega)
      refine ⟨_, _, rfl, e, a', b', l ++ [v], _, _, rfl, ?_, ?_, hs'⟩
      · rw [List.length_append, List.length_append, ll]
        rfl
      · intro y hy
        rcases List.mem_append.mp hy with z | z
        · exact lm y z
        · rw [List.mem_singleton.mp z]; exact hv) ⟨a, b, [], none, none, rfl, rfl, (fun x hx => by cases hx), hs⟩
  obtain ⟨env', e, a', b', l, x5, x6, rfl, ll, lm, hs'⟩ := loop
  refine ⟨l, a', b', ?_, ?_, lm, hs'⟩
  · have er : rng1 (.int (n : Int)) = .ok (rngItems 0 n) := rng1_ok (by omega)
    have e' : for2Go (gN 5) inpC1 (rngItems 0 n) [some (.own [.int a, .int b]), some (.fz (.int (w : Int))), some (.fz (.int (n : Int))), some (.fz (.int (hf w))), some (.own []), none, none] = _ := e
    have hz : ∀ {env : PD.Env} {s : S2} {ds : List PyData}, env[4]? = some (some (.own ds)) → frz2 4 s env = s (env.set 4 (some (.fz (.list ds)))) := fun {env s ds} h => by
      unfold frz2
      rw [h]
    have hz1 := hz (env := [some (.own [.int a', .int b']), some (.fz (.int (w : Int))), some (.fz (.int (n : Int))), some (.fz (.int (hf w))), some (.own (l.map .int)), x5, x6]) (s := s2Ret (eVar 4)) (ds := l.map .int) rfl
    unfold F__law_inputs
    rw [inpC_eq]
    unfold inpCT
    simp (implicitDefEqProofs := false) only [x_run, x_out_nx, x_out_rt, x_out_er, x_seq, x_seq_nx, x_seq_rt, x_seq_er, x_seq_ct, x_seq_bk, x_ofR_ok, x_ofR_er, x_nx, x_bk, x_ct, x_set, x_setL, x_ret, x_drop, x_retN, x_if, x_raise, x_var, x_gv0, x_gvS, x_gvo0, x_gvoS, x_gb, x_gb0, x_gbO, x_gbS, x_c, x_op, x_cm, x_un, x_bf, x_isi, x_ix, x_ixO, x_ofO_some, x_anil, x_acons, x_tup, x_lst, x_eL, x_tb, x_nt, x_an, x_or, x_ent, x_ean, x_eor, x_eif, x_tT, x_tV, x_tY, x_call, x_callD, x_callK, x_cd1, x_cd2, x_cd3, x_cd4, x_st0, x_stS, x_stN, x_wh, x_for, x_iseq, x_ir1, x_ir2, x_add, x_sub, x_neg, x_dcmp, x_eqI, x_neI, x_absI, x_intI, x_gcdI, x_maxI, x_minI, x_lenL, x_lenT, x_ixL, x_ixT, x_at0, x_at1, x_sz0, x_sz1, x_sz2, x_sz3, x_gN, x_forN, x_for0, x_fB_nx, x_fB_ct, x_fB_bk, x_fB_rt, x_fB_er, x_iTT, x_iTL, x_iTI, x_iLT, x_iLL, x_iII, x_iBI, x_iSS, x_iBB, x_truB, x_itT, x_itL, x_try, RO.bind_ok, RO.bind_er, RO.pure_ok, List.set_cons_zero, List.set_cons_succ, List.cons_append, List.nil_append, if_true, if_false, ite_true, ite_false, reduceIte, Bool.false_eq_true, Bool.true_eq_false, Bool.not_true, Bool.not_false, x_len1, and_self, decide_eq_true_eq, decide_true, decide_false, eq_self, Bool.not_eq_true', decide_eq_false_iff_not, not_true_eq_false, not_false_eq_true, ne_eq, x_eqB, x_neB, x_intB, x_iIB, x_gT2, x_lLi, x_eTu, x_eTuO, x_eLeO, x_dSeqL, x_dSeqT, x_oN, x_oS, x_tI, x_sl, x_cutL, x_cutT, x_comp, x_app, x_asg, x_aug, wipeE, List.length_map, x2_seq, x2_seq_nx, x2_seq_rt, x2_seq_rl, x2_of, x2_nx, x2_set, x2_setI, x2_set20, x2_set21, x2_if, x2_ret, x2_retL, x2_runI, x2_fin, x2_start3, x2_runN, x2_finN, x2_start1, x2_P, x2_N, x2_C, x2_Op, x2_Cm, x2_Ix, x2_Lst, x2_Tup, x2_Call, x2_CallI, x2_cI2, x2_set2, x2_set2S, x2_if2, x2_if2S, x2_callN, x2_cN1, x2_okL, x3_Set2, x3_If2, x3_Ret2, x3_tP, x3_tNt, x3_tAn, x3_tOr, x3_Tu, x3_Comp, x3_For2, x3_For2S, x3_Rev, x3_dRev, x3_start2, x3_cI1, x3_seqL, x3_seqT, x4_For, x4_iP, x4_iR, x4_iS, x4_ForX, x4_ForXS, x4_SetL, x4_App, x4_An, x4_Cm, x4_Ch, x4_tCh, x4_cI3, x4_cI4, x4_App2, x4_App2S, x_stI, shl_ok h2 hw, er, e', hz1]
  · rw [ll, List.nil_append, List.length_range]
end KM
set_option Elab.async false
set_option linter.all false
set_option maxRecDepth 100000
set_option maxHeartbeats 4000000
namespace KM
open PySem PySem.Spec PyProof.Rows L2 PD
inductive Flt2 : Nat → PyData → Prop where
  | int {n : Nat} (i : Int) : Flt2 n (.int i)
  | bool {n : Nat} (b : Bool) : Flt2 n (.bool b)
  | str {n : Nat} (s : Str) : dEq (.str s) (.str s) = some (.bool true) → Flt2 n (.str s)
  | tup {n : Nat} (xs : List PyData) : xs.length ≤ 1000 → (∀ x ∈ xs, Flt2 n x) → Flt2 (n + 1) (.tuple xs)
theorem same_all : ∀ (fu n : Nat) (d : PyData), Flt2 n d → n < fu → F__law_same fu [d, d] = .ok (.bool true)
  | 0, n, d, _, h => absurd h (Nat.not_lt_zero _)
  | fu + 1, n, d, hf, h => by
    cases hf with
    | int i =>
      have a2 : dIs (.int i) .none = some (.bool false) := rfl
      have a3 : isiO "str" (.int i) = some (.bool false) := rfl
      have a4 : isiO "tuple" (.int i) = some (.bool false) := rfl
      have a5 : isiO "bool" (.int i) = some (.bool false) := rfl
      have a6 : isiO "int" (.int i) = some (.bool true) := rfl
      show runD 3 (B__law_same (F__law_same fu)) [.int i, .int i] = _
      unfold B__law_same
      simp (implicitDefEqProofs := false) only [x_run, x_out_nx, x_out_rt, x_out_er, x_seq, x_seq_nx, x_seq_rt, x_seq_er, x_seq_ct, x_seq_bk, x_ofR_ok, x_ofR_er, x_nx, x_bk, x_ct, x_set, x_setL, x_ret, x_drop, x_retN, x_if, x_raise, x_var, x_gv0, x_gvS, x_gvo0, x_gvoS, x_gb, x_gb0, x_gbO, x_gbS, x_c, x_op, x_cm, x_un, x_bf, x_isi, x_ix, x_ixO, x_ofO_some, x_anil, x_acons, x_tup, x_lst, x_eL, x_tb, x_nt, x_an, x_or, x_ent, x_ean, x_eor, x_eif, x_tT, x_tV, x_tY, x_call, x_callD, x_callK, x_cd1, x_cd2, x_cd3, x_cd4, x_st0, x_stS, x_stN, x_wh, x_for, x_iseq, x_ir1, x_ir2, x_add, x_sub, x_neg, x_dcmp, x_eqI, x_neI, x_absI, x_intI, x_gcdI, x_maxI, x_minI, x_lenL, x_lenT, x_ixL, x_ixT, x_at0, x_at1, x_sz0, x_sz1, x_sz2, x_sz3, x_gN, x_forN, x_for0, x_fB_nx, x_fB_ct, x_fB_bk, x_fB_rt, x_fB_er, x_iTT, x_iTL, x_iTI, x_iLT, x_iLL, x_iII, x_iBI, x_iSS, x_iBB, x_truB, x_itT, x_itL, x_try, RO.bind_ok, RO.bind_er, RO.pure_ok, List.set_cons_zero, List.set_cons_succ, List.cons_append, List.nil_append, if_true, if_false, ite_true, ite_false, reduceIte, Bool.false_eq_true, Bool.true_eq_false, Bool.not_true, Bool.not_false, x_len1, and_self, decide_eq_true_eq, decide_true, decide_false, eq_self, Bool.not_eq_true', decide_eq_false_iff_not, not_true_eq_false, not_false_eq_true, ne_eq, x_eqB, x_neB, x_intB, x_iIB, x_gT2, x_lLi, x_eTu, x_eTuO, x_eLeO, x_dSeqL, x_dSeqT, x_oN, x_oS, x_tI, x_sl, x_cutL, x_cutT, x_comp, x_app, x_asg, x_aug, wipeE, List.length_map, a2, a3, a4, a5, a6]
    | bool b =>
      have a2 : dIs (.bool b) .none = some (.bool false) := rfl
      have a3 : isiO "str" (.bool b) = some (.bool false) := rfl
      have a4 : isiO "tuple" (.bool b) = some (.bool false) := rfl
      have a5 : isiO "bool" (.bool b) = some (.bool true) := rfl
      show runD 3 (B__law_same (F__law_same fu)) [.bool b, .bool b] = _
      unfold B__law_same
      simp (implicitDefEqProofs := false) only [x_run, x_out_nx, x_out_rt, x_out_er, x_seq, x_seq_nx, x_seq_rt, x_seq_er, x_seq_ct, x_seq_bk, x_ofR_ok, x_ofR_er, x_nx, x_bk, x_ct, x_set, x_setL, x_ret, x_drop, x_retN, x_if, x_raise, x_var, x_gv0, x_gvS, x_gvo0, x_gvoS, x_gb, x_gb0, x_gbO, x_gbS, x_c, x_op, x_cm, x_un, x_bf, x_isi, x_ix, x_ixO, x_ofO_some, x_anil, x_acons, x_tup, x_lst, x_eL, x_tb, x_nt, x_an, x_or, x_ent, x_ean, x_eor, x_eif, x_tT, x_tV, x_tY, x_call, x_callD, x_callK, x_cd1, x_cd2, x_cd3, x_cd4, x_st0, x_stS, x_stN, x_wh, x_for, x_iseq, x_ir1, x_ir2, x_add, x_sub, x_neg, x_dcmp, x_eqI, x_neI, x_absI, x_intI, x_gcdI, x_maxI, x_minI, x_lenL, x_lenT, x_ixL, x_ixT, x_at0, x_at1, x_sz0, x_sz1, x_sz2, x_sz3, x_gN, x_forN, x_for0, x_fB_nx, x_fB_ct, x_fB_bk, x_fB_rt, x_fB_er, x_iTT, x_iTL, x_iTI, x_iLT, x_iLL, x_iII, x_iBI, x_iSS, x_iBB, x_truB, x_itT, x_itL, x_try, RO.bind_ok, RO.bind_er, RO.pure_ok, List.set_cons_zero, List.set_cons_succ, List.cons_append, List.nil_append, if_true, if_false, ite_true, ite_false, reduceIte, Bool.false_eq_true, Bool.true_eq_false, Bool.not_true, Bool.not_false, x_len1, and_self, decide_eq_true_eq, decide_true, decide_false, eq_self, Bool.not_eq_true', decide_eq_false_iff_not, not_true_eq_false, not_false_eq_true, ne_eq, x_eqB, x_neB, x_intB, x_iIB, x_gT2, x_lLi, x_eTu, x_eTuO, x_eLeO, x_dSeqL, x_dSeqT, x_oN, x_oS, x_tI, x_sl, x_cutL, x_cutT, x_comp, x_app, x_asg, x_aug, wipeE, List.length_map, a2, a3, a4, a5]
    | str s e =>
      have a1 : isiO "tuple" (.str s) = some (.bool false) := rfl
      have a2 : dIs (.str s) .none = some (.bool false) := rfl
      have a3 : isiO "str" (.str s) = some (.bool true) := rfl
      show runD 3 (B__law_same (F__law_same fu)) [.str s, .str s] = _
      unfold B__law_same
      simp (implicitDefEqProofs := false) only [x_run, x_out_nx, x_out_rt, x_out_er, x_seq, x_seq_nx, x_seq_rt, x_seq_er, x_seq_ct, x_seq_bk, x_ofR_ok, x_ofR_er, x_nx, x_bk, x_ct, x_set, x_setL, x_ret, x_drop, x_retN, x_if, x_raise, x_var, x_gv0, x_gvS, x_gvo0, x_gvoS, x_gb, x_gb0, x_gbO, x_gbS, x_c, x_op, x_cm, x_un, x_bf, x_isi, x_ix, x_ixO, x_ofO_some, x_anil, x_acons, x_tup, x_lst, x_eL, x_tb, x_nt, x_an, x_or, x_ent, x_ean, x_eor, x_eif, x_tT, x_tV, x_tY, x_call, x_callD, x_callK, x_cd1, x_cd2, x_cd3, x_cd4, x_st0, x_stS, x_stN, x_wh, x_for, x_iseq, x_ir1, x_ir2, x_add, x_sub, x_neg, x_dcmp, x_eqI, x_neI, x_absI, x_intI, x_gcdI, x_maxI, x_minI, x_lenL, x_lenT, x_ixL, x_ixT, x_at0, x_at1, x_sz0, x_sz1, x_sz2, x_sz3, x_gN, x_forN, x_for0, x_fB_nx, x_fB_ct, x_fB_bk, x_fB_rt, x_fB_er, x_iTT, x_iTL, x_iTI, x_iLT, x_iLL, x_iII, x_iBI, x_iSS, x_iBB, x_truB, x_itT, x_itL, x_try, RO.bind_ok, RO.bind_er, RO.pure_ok, List.set_cons_zero, List.set_cons_succ, List.cons_append, List.nil_append, if_true, if_false, ite_true, ite_false, reduceIte, Bool.false_eq_true, Bool.true_eq_false, Bool.not_true, Bool.not_false, x_len1, and_self, decide_eq_true_eq, decide_true, decide_false, eq_self, Bool.not_eq_true', decide_eq_false_iff_not, not_true_eq_false, not_false_eq_true, ne_eq, x_eqB, x_neB, x_intB, x_iIB, x_gT2, x_lLi, x_eTu, x_eTuO, x_eLeO, x_dSeqL, x_dSeqT, x_oN, x_oS, x_tI, x_sl, x_cutL, x_cutT, x_comp, x_app, x_asg, x_aug, wipeE, List.length_map, a1, a2, a3, e]
    | @tup n xs hl hx =>
      have er := rng1_ok (n := xs.length) hl
      obtain ⟨env', ef, x2, rfl⟩ := forGo_keep (gg := gN 2) (body := sIf (tNt (tT (eCall 2 (F__law_same fu) (aCons (eIx (eVar 0) (eVar 2)) (aCons (eIx (eVar 1) (eVar 2)) aNil))))) (sRet (eC (.bool false))) sNx) (fun d => ∃ k : Nat, k < xs.length ∧ d = .int (0 + (k : Int))) (fun env => ∃ x2, env = [some (.fz (.tuple xs)), some (.fz (.tuple xs)), x2]) (fun d env hd hi => by
        obtain ⟨k, hk, rfl⟩ := hd
        obtain ⟨x2, rfl⟩ := hi
        have e1 : atI xs (0 + (k : Int)) = some xs[k] := by
          rw [Int.zero_add]
          exact atI_nat (List.getElem?_eq_getElem hk)
        have e2 := same_all fu n xs[k] (hx _ (List.getElem_mem hk)) (by omega)
        refine ⟨_, rfl, ?_⟩
        simp (implicitDefEqProofs := false) only [x_run, x_out_nx, x_out_rt, x_out_er, x_seq, x_seq_nx, x_seq_rt, x_seq_er, x_seq_ct, x_seq_bk, x_ofR_ok, x_ofR_er, x_nx, x_bk, x_ct, x_set, x_setL, x_ret, x_drop, x_retN, x_if, x_raise, x_var, x_gv0, x_gvS, x_gvo0, x_gvoS, x_gb, x_gb0, x_gbO, x_gbS, x_c, x_op, x_cm, x_un, x_bf, x_isi, x_ix, x_ixO, x_ofO_some, x_anil, x_acons, x_tup, x_lst, x_eL, x_tb, x_nt, x_an, x_or, x_ent, x_ean, x_eor, x_eif, x_tT, x_tV, x_tY, x_call, x_callD, x_callK, x_cd1, x_cd2, x_cd3, x_cd4, x_st0, x_stS, x_stN, x_wh, x_for, x_iseq, x_ir1, x_ir2, x_add, x_sub, x_neg, x_dcmp, x_eqI, x_neI, x_absI, x_intI, x_gcdI, x_maxI, x_minI, x_lenL, x_lenT, x_ixL, x_ixT, x_at0, x_at1, x_sz0, x_sz1, x_sz2, x_sz3, x_gN, x_forN, x_for0, x_fB_nx, x_fB_ct, x_fB_bk, x_fB_rt, x_fB_er, x_iTT, x_iTL, x_iTI, x_iLT, x_iLL, x_iII, x_iBI, x_iSS, x_iBB, x_truB, x_itT, x_itL, x_try, RO.bind_ok, RO.bind_er, RO.pure_ok, List.set_cons_zero, List.set_cons_succ, List.cons_append, List.nil_append, if_true, if_false, ite_true, ite_false, reduceIte, Bool.false_eq_true, Bool.true_eq_false, Bool.not_true, Bool.not_false, x_len1, and_self, decide_eq_true_eq, decide_true, decide_false, eq_self, Bool.not_eq_true', decide_eq_false_iff_not, not_true_eq_false, not_false_eq_true, ne_eq, x_eqB, x_neB, x_intB, x_iIB, x_gT2, x_lLi, x_eTu, x_eTuO, x_eLeO, x_dSeqL, x_dSeqT, x_oN, x_oS, x_tI, x_sl, x_cutL, x_cutT, x_comp, x_app, x_asg, x_aug, wipeE, List.length_map, e1, e2]
        exact ⟨_, rfl⟩) (rngItems 0 xs.length) [some (.fz (.tuple xs)), some (.fz (.tuple xs)), none] (fun d hd => by
          unfold rngItems at hd
          obtain ⟨k, hk, rfl⟩ := List.mem_map.mp hd
          exact ⟨k, List.mem_range.mp hk, rfl⟩) ⟨none, rfl⟩
      have iT : isiO "tuple" (.tuple xs) = some (.bool true) := rfl
      have ln : cLen [.tuple xs] = some (.int (xs.length : Int)) := rfl
      show runD 3 (B__law_same (F__law_same fu)) [.tuple xs, .tuple xs] = _
      unfold B__law_same
      simp (implicitDefEqProofs := false) only [x_run, x_out_nx, x_out_rt, x_out_er, x_seq, x_seq_nx, x_seq_rt, x_seq_er, x_seq_ct, x_seq_bk, x_ofR_ok, x_ofR_er, x_nx, x_bk, x_ct, x_set, x_setL, x_ret, x_drop, x_retN, x_if, x_raise, x_var, x_gv0, x_gvS, x_gvo0, x_gvoS, x_gb, x_gb0, x_gbO, x_gbS, x_c, x_op, x_cm, x_un, x_bf, x_isi, x_ix, x_ixO, x_ofO_some, x_anil, x_acons, x_tup, x_lst, x_eL, x_tb, x_nt, x_an, x_or, x_ent, x_ean, x_eor, x_eif, x_tT, x_tV, x_tY, x_call, x_callD, x_callK, x_cd1, x_cd2, x_cd3, x_cd4, x_st0, x_stS, x_stN, x_wh, x_for, x_iseq, x_ir1, x_ir2, x_add, x_sub, x_neg, x_dcmp, x_eqI, x_neI, x_absI, x_intI, x_gcdI, x_maxI, x_minI, x_lenL, x_lenT, x_ixL, x_ixT, x_at0, x_at1, x_sz0, x_sz1, x_sz2, x_sz3, x_gN, x_forN, x_for0, x_fB_nx, x_fB_ct, x_fB_bk, x_fB_rt, x_fB_er, x_iTT, x_iTL, x_iTI, x_iLT, x_iLL, x_iII, x_iBI, x_iSS, x_iBB, x_truB, x_itT, x_itL, x_try, RO.bind_ok, RO.bind_er, RO.pure_ok, List.set_cons_zero, List.set_cons_succ, List.cons_append, List.nil_append, if_true, if_false, ite_true, ite_false, reduceIte, Bool.false_eq_true, Bool.true_eq_false, Bool.not_true, Bool.not_false, x_len1, and_self, decide_eq_true_eq, decide_true, decide_false, eq_self, Bool.not_eq_true', decide_eq_false_iff_not, not_true_eq_false, not_false_eq_true, ne_eq, x_eqB, x_neB, x_intB, x_iIB, x_gT2, x_lLi, x_eTu, x_eTuO, x_eLeO, x_dSeqL, x_dSeqT, x_oN, x_oS, x_tI, x_sl, x_cutL, x_cutT, x_comp, x_app, x_asg, x_aug, wipeE, List.length_map, iT, ln, er, ef]

/-! ### what a run gives -/
theorem noLs_ints : ∀ l : List Int, noLs (l.map .int) = true
  | [] => rfl
  | x :: l => by
    show (true && noLs (l.map .int)) = true
    rw [noLs_ints l]
    rfl
theorem mach_noL (w : Nat) (inp : List Int) : ∀ (rows : List Rw) (p : Nat) (held outs : List Int), noL (mach w inp p held outs rows) = true
  | [], p, held, outs => by
    show noL (.tuple [.str "done", .tuple (outs.map .int)]) = true
    show (true && (noLs (outs.map .int) && true)) = true
    rw [noLs_ints]
    rfl
  | x :: rows, p, held, outs => by
    show noL (if x.isGive = true then _ else _) = true
    split
    · exact mach_noL w inp rows _ _ _
    · split
      · exact mach_noL w inp rows _ _ _
      · rfl
theorem mach_flat (w : Nat) (inp : List Int) : ∀ (rows : List Rw) (p : Nat) (held outs : List Int), outs.length + rows.length ≤ 1000 → Flt2 2 (mach w inp p held outs rows)
  | [], p, held, outs, hl => by
    refine .tup _ (by show 2 ≤ 1000; decide) fun y hy => ?_
    rcases List.mem_cons.mp hy with rfl | hy
    · exact .str _ rfl
    · rw [List.mem_singleton.mp hy]
      refine .tup _ (by rw [List.length_map]; exact hl) fun z hz => ?_
      obtain ⟨i, _, rfl⟩ := List.mem_map.mp hz
      exact .int i
  | x :: rows, p, held, outs, hl => by
    rw [List.length_cons] at hl
    show Flt2 2 (if x.isGive = true then _ else _)
    split
    · exact mach_flat w inp rows _ _ _ (by rw [List.length_append, List.length_singleton]; omega)
    · split
      · exact mach_flat w inp rows _ _ _ (by omega)
      · refine .tup _ (by show 2 ≤ 1000; decide) fun y hy => ?_
        rcases List.mem_cons.mp hy with rfl | hy
        · exact .str _ rfl
        · rw [List.mem_singleton.mp hy]; exact .int _
/-! ### the law -/
theorem x_e2CallL {n : Nat} {F : List PyData → List PyData → RO (PyData × List PyData)} {fl ga : A} {env : PD.Env} : e2CallL n F fl ga env = (fl env >>= fun l => ga env >>= fun ds => callI n F l ds >>= fun z => .ok (z.1, env)) := rfl
def mk4 (env : PD.Env) (i : Nat) (c f1 f2 f3 f4 : Str) (ds : List PyData) : SO := match ds with
  | [d1, d2, d3, d4] => .nx (env.set i (some (.ob c [(f1, d1), (f2, d2), (f3, d3), (f4, d4)])))
  | _ => .no
theorem x_mk4 {i : Nat} {c f1 f2 f3 f4 : Str} {ga : A} {env : PD.Env} : sMk4 i c f1 f2 f3 f4 ga env = ofR (ga env) env fun ds => mk4 env i c f1 f2 f3 f4 ds := rfl
theorem x_mk4' {env : PD.Env} {i w n r : Nat} {is : List PyData} : mk4 env i "Code" "width" "inputs" "registers" "instructions" [.int (w : Int), .int (n : Int), .int (r : Int), .tuple is] = .nx (env.set i (some (.ob "Code" (flds w n r is)))) := rfl
theorem cut41 {ns : List Int} : ∃ ms : List Int, PD.cutD (ns.map PyData.int) (some 1) (some 41) = ms.map .int ∧ ms.length ≤ 41 ∧ ∀ z ∈ ms, z ∈ ns := by
  refine ⟨(ns.drop (min 1 ns.length)).take (min 41 ns.length - min 1 ns.length), ?_, ?_, fun z hz => List.mem_of_mem_drop (List.mem_of_mem_take hz)⟩
  · unfold PD.cutD
    rw [show (some (1 : Int)) = some ((1 : Nat) : Int) from rfl, show (some (41 : Int)) = some ((41 : Nat) : Int) from rfl, HT.sIx_nat, HT.sIx_nat, List.length_map, List.map_take, List.map_drop]
  · rw [List.length_take]
    omega
theorem row_step {w n r : Nat} {c : Int} {x0 x1 x5 x8 x9 x10 x11 : Option SV} {rows : List Rw} (h2 : 2 ≤ w) (hw : w ≤ 200) (hn1 : 1 ≤ n) (hn : n ≤ 4) (hr1 : 1 ≤ r) (hr : r ≤ 6) (hc : c.natAbs.log2 ≤ 1048576) (hl : rows.length ≤ 100) :
    ∃ x : Rw, x.Ok w r n ∧ lawC1 [x0, x1, some (.fz (.int (w : Int))), some (.fz (.int (n : Int))), some (.fz (.int (r : Int))), x5, some (.own (rows.map Rw.d)), some (.fz (.int c)), x8, x9, x10, x11] = .nx [x0, x1, some (.fz (.int (w : Int))), some (.fz (.int (n : Int))), some (.fz (.int (r : Int))), x5, some (.own ((rows ++ [x]).map Rw.d)), some (.fz (.int c)), x8, x9, x10, x11] := by
  obtain ⟨a, b, e, hs⟩ := stream_ok hc
  obtain ⟨x, a', b', e2, hx⟩ := row_ok h2 hw hn1 hn hr1 hr hs
  have hsz : (rows.length < sizeLine) = True := eq_true (Nat.lt_of_le_of_lt hl (by decide))
  have ha : rows.map Rw.d ++ [x.d] = (rows ++ [x]).map Rw.d := by rw [List.map_append, List.map_singleton]
  refine ⟨x, hx, ?_⟩
  unfold lawC1
  simp (implicitDefEqProofs := false) only [x_run, x_out_nx, x_out_rt, x_out_er, x_seq, x_seq_nx, x_seq_rt, x_seq_er, x_seq_ct, x_seq_bk, x_ofR_ok, x_ofR_er, x_nx, x_bk, x_ct, x_set, x_setL, x_ret, x_drop, x_retN, x_if, x_raise, x_var, x_gv0, x_gvS, x_gvo0, x_gvoS, x_gb, x_gb0, x_gbO, x_gbS, x_c, x_op, x_cm, x_un, x_bf, x_isi, x_ix, x_ixO, x_ofO_some, x_anil, x_acons, x_tup, x_lst, x_eL, x_tb, x_nt, x_an, x_or, x_ent, x_ean, x_eor, x_eif, x_tT, x_tV, x_tY, x_call, x_callD, x_callK, x_cd1, x_cd2, x_cd3, x_cd4, x_st0, x_stS, x_stN, x_wh, x_for, x_iseq, x_ir1, x_ir2, x_add, x_sub, x_neg, x_dcmp, x_eqI, x_neI, x_absI, x_intI, x_gcdI, x_maxI, x_minI, x_lenL, x_lenT, x_ixL, x_ixT, x_at0, x_at1, x_sz0, x_sz1, x_sz2, x_sz3, x_gN, x_forN, x_for0, x_fB_nx, x_fB_ct, x_fB_bk, x_fB_rt, x_fB_er, x_iTT, x_iTL, x_iTI, x_iLT, x_iLL, x_iII, x_iBI, x_iSS, x_iBB, x_truB, x_itT, x_itL, x_try, RO.bind_ok, RO.bind_er, RO.pure_ok, List.set_cons_zero, List.set_cons_succ, List.cons_append, List.nil_append, if_true, if_false, ite_true, ite_false, reduceIte, Bool.false_eq_true, Bool.true_eq_false, Bool.not_true, Bool.not_false, x_len1, and_self, decide_eq_true_eq, decide_true, decide_false, eq_self, Bool.not_eq_true', decide_eq_false_iff_not, not_true_eq_false, not_false_eq_true, ne_eq, x_eqB, x_neB, x_intB, x_iIB, x_gT2, x_lLi, x_eTu, x_eTuO, x_eLeO, x_dSeqL, x_dSeqT, x_oN, x_oS, x_tI, x_sl, x_cutL, x_cutT, x_comp, x_app, x_asg, x_aug, wipeE, List.length_map, x2_seq, x2_seq_nx, x2_seq_rt, x2_seq_rl, x2_of, x2_nx, x2_set, x2_setI, x2_set20, x2_set21, x2_if, x2_ret, x2_retL, x2_runI, x2_fin, x2_start3, x2_runN, x2_finN, x2_start1, x2_P, x2_N, x2_C, x2_Op, x2_Cm, x2_Ix, x2_Lst, x2_Tup, x2_Call, x2_CallI, x2_cI2, x2_set2, x2_set2S, x2_if2, x2_if2S, x2_callN, x2_cN1, x2_okL, x3_Set2, x3_If2, x3_Ret2, x3_tP, x3_tNt, x3_tAn, x3_tOr, x3_Tu, x3_Comp, x3_For2, x3_For2S, x3_Rev, x3_dRev, x3_start2, x3_cI1, x3_seqL, x3_seqT, x4_For, x4_iP, x4_iR, x4_iS, x4_ForX, x4_ForXS, x4_SetL, x4_App, x4_An, x4_Cm, x4_Ch, x4_tCh, x4_cI3, x4_cI4, x4_App2, x4_App2S, x_e2CallL, e, e2, hsz, ha]
theorem law_true (ns : List Int) (hl : ns.length ≤ 63) (hb : ∀ z ∈ ns, Builtin.Int.intBits z ≤ 1048576) : F_law [.list (ns.map .int)] = .ok (.bool true) := by
  obtain ⟨c, ec, hc⟩ := cell_ok ns hb 0
  obtain ⟨a, b, e0, s0⟩ := stream_ok hc
  obtain ⟨w, a1, b1, e1, h2, hw, s1⟩ := width_ok s0
  obtain ⟨n0, a2, b2, e2, hn0, s2⟩ := takeN (m := 4) s1 (by decide) (by decide +kernel)
  obtain ⟨r0, a3, b3, e3, hr0, s3⟩ := takeN (m := 6) s2 (by decide) (by decide +kernel)
  obtain ⟨n, hn⟩ : ∃ n : Nat, n = 1 + n0 := ⟨_, rfl⟩
  obtain ⟨r, hr⟩ : ∃ r : Nat, r = 1 + r0 := ⟨_, rfl⟩
  have en1 : (1 : Int) + (n0 : Int) = (n : Int) := by omega
  have er1 : (1 : Int) + (r0 : Int) = (r : Int) := by omega
  obtain ⟨inp, a4, b4, e4, il, im, s4⟩ := inputs_ok (n := n) h2 hw (by omega) s3
  have ec' : F__law_cell [.list (ns.map .int), .int 0] = .ok (.int c) := ec
  have e2' : F__law_take [.int a1, .int b1] [.int 4] = _ := e2
  have e3' : F__law_take [.int a2, .int b2] [.int 6] = _ := e3
  have rg : rng1 (.int (n : Int)) = .ok (rngItems 0 n) := rng1_ok (by omega)
  -- the first rows
  have hcomp : ∀ env : PD.Env, (∃ x0 x1 x2 x3 x5 x6 x7 x8 x9 x10, env = [x0, x1, x2, x3, some (.fz (.int (r : Int))), x5, x6, x7, x8, x9, x10, none]) → compD (gN 11) tY (eTup (aCons (eC (.str "load")) (aCons (eOp dMod (eVar 11) (eVar 4)) (aCons (eVar 11) aNil)))) env (rngItems 0 n) = .ok (((List.range n).map fun k => Rw.load (k % r) k).map Rw.d) := fun env ⟨x0, x1, x2, x3, x5, x6, x7, x8, x9, x10, he⟩ => by
    subst he
    rw [List.map_map]
    refine compR (i := 11) (n := n) (Rw.d ∘ fun k => Rw.load (k % r) k) (by omega) fun k hk => ?_
    have m := x_mod (i := (k : Int)) (j := (r : Int)) (by omega)
    show eTup (aCons (eC (.str "load")) (aCons (eOp dMod (eVar 11) (eVar 4)) (aCons (eVar 11) aNil))) [x0, x1, x2, x3, some (.fz (.int (r : Int))), x5, x6, x7, x8, x9, x10, some (.fz (.int (0 + (k : Int))))] = _
    simp (implicitDefEqProofs := false) only [x_run, x_out_nx, x_out_rt, x_out_er, x_seq, x_seq_nx, x_seq_rt, x_seq_er, x_seq_ct, x_seq_bk, x_ofR_ok, x_ofR_er, x_nx, x_bk, x_ct, x_set, x_setL, x_ret, x_drop, x_retN, x_if, x_raise, x_var, x_gv0, x_gvS, x_gvo0, x_gvoS, x_gb, x_gb0, x_gbO, x_gbS, x_c, x_op, x_cm, x_un, x_bf, x_isi, x_ix, x_ixO, x_ofO_some, x_anil, x_acons, x_tup, x_lst, x_eL, x_tb, x_nt, x_an, x_or, x_ent, x_ean, x_eor, x_eif, x_tT, x_tV, x_tY, x_call, x_callD, x_callK, x_cd1, x_cd2, x_cd3, x_cd4, x_st0, x_stS, x_stN, x_wh, x_for, x_iseq, x_ir1, x_ir2, x_add, x_sub, x_neg, x_dcmp, x_eqI, x_neI, x_absI, x_intI, x_gcdI, x_maxI, x_minI, x_lenL, x_lenT, x_ixL, x_ixT, x_at0, x_at1, x_sz0, x_sz1, x_sz2, x_sz3, x_gN, x_forN, x_for0, x_fB_nx, x_fB_ct, x_fB_bk, x_fB_rt, x_fB_er, x_iTT, x_iTL, x_iTI, x_iLT, x_iLL, x_iII, x_iBI, x_iSS, x_iBB, x_truB, x_itT, x_itL, x_try, RO.bind_ok, RO.bind_er, RO.pure_ok, List.set_cons_zero, List.set_cons_succ, List.cons_append, List.nil_append, if_true, if_false, ite_true, ite_false, reduceIte, Bool.false_eq_true, Bool.true_eq_false, Bool.not_true, Bool.not_false, x_len1, and_self, decide_eq_true_eq, decide_true, decide_false, eq_self, Bool.not_eq_true', decide_eq_false_iff_not, not_true_eq_false, not_false_eq_true, ne_eq, x_eqB, x_neB, x_intB, x_iIB, x_gT2, x_lLi, x_eTu, x_eTuO, x_eLeO, x_dSeqL, x_dSeqT, x_oN, x_oS, x_tI, x_sl, x_cutL, x_cutT, x_comp, x_app, x_asg, x_aug, wipeE, List.length_map, x2_seq, x2_seq_nx, x2_seq_rt, x2_seq_rl, x2_of, x2_nx, x2_set, x2_setI, x2_set20, x2_set21, x2_if, x2_ret, x2_retL, x2_runI, x2_fin, x2_start3, x2_runN, x2_finN, x2_start1, x2_P, x2_N, x2_C, x2_Op, x2_Cm, x2_Ix, x2_Lst, x2_Tup, x2_Call, x2_CallI, x2_cI2, x2_set2, x2_set2S, x2_if2, x2_if2S, x2_callN, x2_cN1, x2_okL, x3_Set2, x3_If2, x3_Ret2, x3_tP, x3_tNt, x3_tAn, x3_tOr, x3_Tu, x3_Comp, x3_For2, x3_For2S, x3_Rev, x3_dRev, x3_start2, x3_cI1, x3_seqL, x3_seqT, x4_For, x4_iP, x4_iR, x4_iS, x4_ForX, x4_ForXS, x4_SetL, x4_App, x4_An, x4_Cm, x4_Ch, x4_tCh, x4_cI3, x4_cI4, x4_App2, x4_App2S, m, Int.zero_add]
    show RO.ok _ = RO.ok (PyData.tuple [.str "load", .int ((k % r : Nat) : Int), .int (k : Int)])
    rw [Int.natCast_emod]
  have hc1 := hcomp [some (.fz (.list (ns.map .int))), some (.own [.int a4, .int b4]), some (.fz (.int (w : Int))), some (.fz (.int (n : Int))), some (.fz (.int (r : Int))), some (.fz (.list (inp.map .int))), none, none, none, none, none, none] ⟨_, _, _, _, _, _, _, _, _, _, rfl⟩
  have rows0 : ∀ x ∈ (List.range n).map (fun k => Rw.load (k % r) k), x.Ok w r n := fun x hx => by
    obtain ⟨k, hk, rfl⟩ := List.mem_map.mp hx
    exact ⟨Nat.mod_lt _ (by omega), List.mem_range.mp hk⟩
  -- the drawn rows
  obtain ⟨ms, em, ml, mm⟩ := cut41 (ns := ns)
  have loop := forGo_pre (gg := gN 7) (body := lawC1) PyData.int (fun pre env => ∃ (rows : List Rw) (x7 : Option SV), env = [some (.fz (.list (ns.map .int))), some (.own [.int a4, .int b4]), some (.fz (.int (w : Int))), some (.fz (.int (n : Int))), some (.fz (.int (r : Int))), some (.fz (.list (inp.map .int))), some (.own (rows.map Rw.d)), x7, none, none, none, none] ∧ (∀ x ∈ rows, x.Ok w r n) ∧ rows.length = n + pre.length) ms [] [some (.fz (.list (ns.map .int))), some (.own [.int a4, .int b4]), some (.fz (.int (w : Int))), some (.fz (.int (n : Int))), some (.fz (.int (r : Int))), some (.fz (.list (inp.map .int))), some (.own (((List.range n).map fun k => Rw.load (k % r) k).map Rw.d)), none, none, none, none, none]
    (fun p x q env hp hi => by
      obtain ⟨rows, x7, rfl, ho, hlen⟩ := hi
      have hpl : p.length < 41 := by
        have := congrArg List.length hp
        simp only [List.length_append, List.length_cons, List.length_nil] at this
        omega
      have hx : x ∈ ms := by
        have : x ∈ ([] : List Int) ++ ms := by rw [hp]; exact List.mem_append_right _ (List.mem_cons_self ..)
        simpa using this
      obtain ⟨y, hy, e⟩ := row_step (c := x) (rows := rows) (x0 := some (.fz (.list (ns.map .int)))) (x1 := some (.own [.int a4, .int b4])) (x5 := some (.fz (.list (inp.map .int)))) (x8 := none) (x9 := none) (x10 := none) (x11 := none) h2 hw (by omega : 1 ≤ n) (by omega) (by omega : 1 ≤ r) (by omega) (log_bits (hb x (mm x hx))) (by omega)
      refine ⟨_, rfl, ?_⟩
      show Keeps _ (lawC1 [some (.fz (.list (ns.map .int))), some (.own [.int a4, .int b4]), some (.fz (.int (w : Int))), some (.fz (.int (n : Int))), some (.fz (.int (r : Int))), some (.fz (.list (inp.map .int))), some (.own (rows.map Rw.d)), some (.fz (.int x)), none, none, none, none])
      rw [e]
      refine ⟨rows ++ [y], _, rfl, fun z hz => ?_, ?_⟩
      · rcases List.mem_append.mp hz with h | h
        · exact ho z h
        · rw [List.mem_singleton.mp h]; exact hy
      · rw [List.length_append, List.length_append, hlen, List.length_singleton, List.length_singleton]
        omega) ⟨_, none, rfl, rows0, by rw [List.length_map, List.length_range]; rfl⟩
  obtain ⟨env', e5, rows, x7, rfl, ho, hlen⟩ := loop
  rw [List.nil_append] at hlen
  have hr45 : rows.length ≤ 45 := by omega
  have ck := check_ok h2 hw (by omega : 1 ≤ r) (by omega) (by omega : 1 ≤ n) (by omega) ho
  have mo := machine_ok h2 hw (by omega : r ≤ 6) il.symm ho (by omega)
  have ilist : InpD n inp (.list (inp.map .int)) := by rw [← il]; exact inp_list
  have ituple : InpD n inp (.tuple (inp.map .int)) := by rw [← il]; exact inp_tuple
  have r1 := run_ok h2 hw (by omega : r ≤ 6) ilist ho (by omega)
  have r2 := run_ok h2 hw (by omega : r ≤ 6) ituple ho (by omega)
  have nl := nL_ok (mach_noL w inp rows 0 (List.replicate r 0) [])
  have sm := same_all RD 2 _ (mach_flat w inp rows 0 (List.replicate r 0) [] (by show 0 + rows.length ≤ 1000; omega)) (by decide)
  have fi : Fine 1 (.list (inp.map .int)) := .list _ (by rw [List.length_map]; omega) fun x hx => by
    obtain ⟨i, hi, rfl⟩ := List.mem_map.mp hx
    exact .int i ((im i hi).mono (by decide))
  have ne := fi.ne_self (by decide)
  have fr : Fine 2 (.tuple (rows.map Rw.d)) := .tup _ (by rw [List.length_map]; omega) fun x hx => by
    obtain ⟨y, hy, rfl⟩ := List.mem_map.mp hx
    exact rw_fine hw (by omega) (by omega) (ho y hy)
  have er := fr.eq_self (by decide)
  generalize mach w inp 0 (List.replicate r 0) [] rows = M at *
  have l2 : ∃ x11, forGo (gN 11) lawC2 (rngItems 0 2) [some (.fz (.list (ns.map .int))), some (.own [.int a4, .int b4]), some (.fz (.int (w : Int))), some (.fz (.int (n : Int))), some (.fz (.int (r : Int))), some (.fz (.list (inp.map .int))), some (.own (rows.map Rw.d)), x7, some (.ob "Code" (flds w n r (rows.map Rw.d))), some (.fz M), some (.fz (.list (inp.map .int))), none] = .nx [some (.fz (.list (ns.map .int))), some (.own [.int a4, .int b4]), some (.fz (.int (w : Int))), some (.fz (.int (n : Int))), some (.fz (.int (r : Int))), some (.fz (.list (inp.map .int))), some (.own (rows.map Rw.d)), x7, some (.ob "Code" (flds w n r (rows.map Rw.d))), some (.fz M), some (.fz (.list (inp.map .int))), x11] := by
    obtain ⟨env', e, x11, rfl⟩ := forGo_keep (gg := gN 11) (body := lawC2) (fun _ => True) (fun env => ∃ x11, env = [some (.fz (.list (ns.map .int))), some (.own [.int a4, .int b4]), some (.fz (.int (w : Int))), some (.fz (.int (n : Int))), some (.fz (.int (r : Int))), some (.fz (.list (inp.map .int))), some (.own (rows.map Rw.d)), x7, some (.ob "Code" (flds w n r (rows.map Rw.d))), some (.fz M), some (.fz (.list (inp.map .int))), x11]) (fun d env _ hi => by
      obtain ⟨x11, rfl⟩ := hi
      refine ⟨_, rfl, ?_⟩
      show Keeps _ (lawC2 [some (.fz (.list (ns.map .int))), some (.own [.int a4, .int b4]), some (.fz (.int (w : Int))), some (.fz (.int (n : Int))), some (.fz (.int (r : Int))), some (.fz (.list (inp.map .int))), some (.own (rows.map Rw.d)), x7, some (.ob "Code" (flds w n r (rows.map Rw.d))), some (.fz M), some (.fz (.list (inp.map .int))), some (.fz d)])
      unfold lawC2
      simp (implicitDefEqProofs := false) only [x_run, x_out_nx, x_out_rt, x_out_er, x_seq, x_seq_nx, x_seq_rt, x_seq_er, x_seq_ct, x_seq_bk, x_ofR_ok, x_ofR_er, x_nx, x_bk, x_ct, x_set, x_setL, x_ret, x_drop, x_retN, x_if, x_raise, x_var, x_gv0, x_gvS, x_gvo0, x_gvoS, x_gb, x_gb0, x_gbO, x_gbS, x_c, x_op, x_cm, x_un, x_bf, x_isi, x_ix, x_ixO, x_ofO_some, x_anil, x_acons, x_tup, x_lst, x_eL, x_tb, x_nt, x_an, x_or, x_ent, x_ean, x_eor, x_eif, x_tT, x_tV, x_tY, x_call, x_callD, x_callK, x_cd1, x_cd2, x_cd3, x_cd4, x_st0, x_stS, x_stN, x_wh, x_for, x_iseq, x_ir1, x_ir2, x_add, x_sub, x_neg, x_dcmp, x_eqI, x_neI, x_absI, x_intI, x_gcdI, x_maxI, x_minI, x_lenL, x_lenT, x_ixL, x_ixT, x_at0, x_at1, x_sz0, x_sz1, x_sz2, x_sz3, x_gN, x_forN, x_for0, x_fB_nx, x_fB_ct, x_fB_bk, x_fB_rt, x_fB_er, x_iTT, x_iTL, x_iTI, x_iLT, x_iLL, x_iII, x_iBI, x_iSS, x_iBB, x_truB, x_itT, x_itL, x_try, RO.bind_ok, RO.bind_er, RO.pure_ok, List.set_cons_zero, List.set_cons_succ, List.cons_append, List.nil_append, if_true, if_false, ite_true, ite_false, reduceIte, Bool.false_eq_true, Bool.true_eq_false, Bool.not_true, Bool.not_false, x_len1, and_self, decide_eq_true_eq, decide_true, decide_false, eq_self, Bool.not_eq_true', decide_eq_false_iff_not, not_true_eq_false, not_false_eq_true, ne_eq, x_eqB, x_neB, x_intB, x_iIB, x_gT2, x_lLi, x_eTu, x_eTuO, x_eLeO, x_dSeqL, x_dSeqT, x_oN, x_oS, x_tI, x_sl, x_cutL, x_cutT, x_comp, x_app, x_asg, x_aug, wipeE, List.length_map, x2_seq, x2_seq_nx, x2_seq_rt, x2_seq_rl, x2_of, x2_nx, x2_set, x2_setI, x2_set20, x2_set21, x2_if, x2_ret, x2_retL, x2_runI, x2_fin, x2_start3, x2_runN, x2_finN, x2_start1, x2_P, x2_N, x2_C, x2_Op, x2_Cm, x2_Ix, x2_Lst, x2_Tup, x2_Call, x2_CallI, x2_cI2, x2_set2, x2_set2S, x2_if2, x2_if2S, x2_callN, x2_cN1, x2_okL, x3_Set2, x3_If2, x3_Ret2, x3_tP, x3_tNt, x3_tAn, x3_tOr, x3_Tu, x3_Comp, x3_For2, x3_For2S, x3_Rev, x3_dRev, x3_start2, x3_cI1, x3_seqL, x3_seqT, x4_For, x4_iP, x4_iR, x4_iS, x4_ForX, x4_ForXS, x4_SetL, x4_App, x4_An, x4_Cm, x4_Ch, x4_tCh, x4_cI3, x4_cI4, x4_App2, x4_App2S, x_callO, gobS, gob0, x_len1, r1, sm, ne]
      exact ⟨_, rfl⟩) (rngItems 0 2) [some (.fz (.list (ns.map .int))), some (.own [.int a4, .int b4]), some (.fz (.int (w : Int))), some (.fz (.int (n : Int))), some (.fz (.int (r : Int))), some (.fz (.list (inp.map .int))), some (.own (rows.map Rw.d)), x7, some (.ob "Code" (flds w n r (rows.map Rw.d))), some (.fz M), some (.fz (.list (inp.map .int))), none] (fun _ _ => trivial) ⟨none, rfl⟩
    exact ⟨x11, e⟩
  obtain ⟨x11, l2⟩ := l2
  have rg2 : rng1 (.int 2) = .ok (rngItems 0 2) := rng1_ok (n := 2) (by decide)
  have isn : dIsN .none .none = some (.bool false) := rfl
  unfold F_law
  rw [lawC_eq]
  unfold lawCT
  simp (implicitDefEqProofs := false) only [x_run, x_out_nx, x_out_rt, x_out_er, x_seq, x_seq_nx, x_seq_rt, x_seq_er, x_seq_ct, x_seq_bk, x_ofR_ok, x_ofR_er, x_nx, x_bk, x_ct, x_set, x_setL, x_ret, x_drop, x_retN, x_if, x_raise, x_var, x_gv0, x_gvS, x_gvo0, x_gvoS, x_gb, x_gb0, x_gbO, x_gbS, x_c, x_op, x_cm, x_un, x_bf, x_isi, x_ix, x_ixO, x_ofO_some, x_anil, x_acons, x_tup, x_lst, x_eL, x_tb, x_nt, x_an, x_or, x_ent, x_ean, x_eor, x_eif, x_tT, x_tV, x_tY, x_call, x_callD, x_callK, x_cd1, x_cd2, x_cd3, x_cd4, x_st0, x_stS, x_stN, x_wh, x_for, x_iseq, x_ir1, x_ir2, x_add, x_sub, x_neg, x_dcmp, x_eqI, x_neI, x_absI, x_intI, x_gcdI, x_maxI, x_minI, x_lenL, x_lenT, x_ixL, x_ixT, x_at0, x_at1, x_sz0, x_sz1, x_sz2, x_sz3, x_gN, x_forN, x_for0, x_fB_nx, x_fB_ct, x_fB_bk, x_fB_rt, x_fB_er, x_iTT, x_iTL, x_iTI, x_iLT, x_iLL, x_iII, x_iBI, x_iSS, x_iBB, x_truB, x_itT, x_itL, x_try, RO.bind_ok, RO.bind_er, RO.pure_ok, List.set_cons_zero, List.set_cons_succ, List.cons_append, List.nil_append, if_true, if_false, ite_true, ite_false, reduceIte, Bool.false_eq_true, Bool.true_eq_false, Bool.not_true, Bool.not_false, x_len1, and_self, decide_eq_true_eq, decide_true, decide_false, eq_self, Bool.not_eq_true', decide_eq_false_iff_not, not_true_eq_false, not_false_eq_true, ne_eq, x_eqB, x_neB, x_intB, x_iIB, x_gT2, x_lLi, x_eTu, x_eTuO, x_eLeO, x_dSeqL, x_dSeqT, x_oN, x_oS, x_tI, x_sl, x_cutL, x_cutT, x_comp, x_app, x_asg, x_aug, wipeE, List.length_map, x2_seq, x2_seq_nx, x2_seq_rt, x2_seq_rl, x2_of, x2_nx, x2_set, x2_setI, x2_set20, x2_set21, x2_if, x2_ret, x2_retL, x2_runI, x2_fin, x2_start3, x2_runN, x2_finN, x2_start1, x2_P, x2_N, x2_C, x2_Op, x2_Cm, x2_Ix, x2_Lst, x2_Tup, x2_Call, x2_CallI, x2_cI2, x2_set2, x2_set2S, x2_if2, x2_if2S, x2_callN, x2_cN1, x2_okL, x3_Set2, x3_If2, x3_Ret2, x3_tP, x3_tNt, x3_tAn, x3_tOr, x3_Tu, x3_Comp, x3_For2, x3_For2S, x3_Rev, x3_dRev, x3_start2, x3_cI1, x3_seqL, x3_seqT, x4_For, x4_iP, x4_iR, x4_iS, x4_ForX, x4_ForXS, x4_SetL, x4_App, x4_An, x4_Cm, x4_Ch, x4_tCh, x4_cI3, x4_cI4, x4_App2, x4_App2S, ec', e0, e1, e2', e3', en1, er1, e4, rg, hc1, em, e5, x_mk4, x_mk4', x_callO, gobS, gob0, x_len0, x_len1, ck, isn, x_callB, x_eB, mo, nl, rg2, l2, r2, sm, x_fd, lk_w, lk_n, lk_r, lk_i, er]
end KM
set_option Elab.async false
set_option linter.all false
set_option maxRecDepth 100000
set_option maxHeartbeats 4000000
namespace KM
open PySem PySem.Spec PyProof.Rows L2 PD
def topS (i : Nat) : Stmt := PySem.Challenge.pw_kinkmeasure_k65_runs_of_code.main.body.getD i (.Pass ⟨0, 0, 0, 0⟩)
abbrev s_is_integer : Stmt := topS 4
theorem sc_is_integer : FnScope ["value"] ["value"] (defScope s_is_integer) := ⟨rfl, rfl, rfl, by decide +kernel, rfl, by decide +kernel, by decide +kernel⟩
abbrev s_is_width : Stmt := topS 11
theorem sc_is_width : FnScope ["value"] ["value"] (defScope s_is_width) := ⟨rfl, rfl, rfl, by decide +kernel, rfl, by decide +kernel, by decide +kernel⟩
abbrev s_is_number : Stmt := topS 12
theorem sc_is_number : FnScope ["value"] ["value"] (defScope s_is_number) := ⟨rfl, rfl, rfl, by decide +kernel, rfl, by decide +kernel, by decide +kernel⟩
abbrev s_least_fitting : Stmt := topS 13
theorem sc_least_fitting : FnScope ["width"] ["width"] (defScope s_least_fitting) := ⟨rfl, rfl, rfl, by decide +kernel, rfl, by decide +kernel, by decide +kernel⟩
abbrev s_most_fitting : Stmt := topS 14
theorem sc_most_fitting : FnScope ["width"] ["width"] (defScope s_most_fitting) := ⟨rfl, rfl, rfl, by decide +kernel, rfl, by decide +kernel, by decide +kernel⟩
abbrev s_fits : Stmt := topS 15
theorem sc_fits : FnScope ["integer", "width"] ["integer", "width"] (defScope s_fits) := ⟨rfl, rfl, rfl, by decide +kernel, rfl, by decide +kernel, by decide +kernel⟩
abbrev s_is_part : Stmt := topS 16
theorem sc_is_part : FnScope ["code", "letter", "value"] ["code", "letter", "value"] (defScope s_is_part) := ⟨rfl, rfl, rfl, by decide +kernel, rfl, by decide +kernel, by decide +kernel⟩
abbrev s_is_instruction : Stmt := topS 17
theorem sc_is_instruction : FnScope ["code", "value", "word", "letters", "parts", "letter", "part"] ["code", "value"] (defScope s_is_instruction) := ⟨rfl, rfl, rfl, by decide +kernel, rfl, by decide +kernel, by decide +kernel⟩
abbrev s_check_code : Stmt := topS 18
theorem sc_check_code : FnScope ["code", "place", "instruction"] ["code"] (defScope s_check_code) := ⟨rfl, rfl, rfl, by decide +kernel, rfl, by decide +kernel, by decide +kernel⟩
abbrev s_becomes : Stmt := topS 19
theorem sc_becomes : FnScope ["instruction", "held", "inputs", "word"] ["instruction", "held", "inputs"] (defScope s_becomes) := ⟨rfl, rfl, rfl, by decide +kernel, rfl, by decide +kernel, by decide +kernel⟩
abbrev s_run_code : Stmt := topS 20
theorem sc_run_code : FnScope ["code", "inputs", "held", "outputs", "place", "instruction", "integer"] ["code", "inputs"] (defScope s_run_code) := ⟨rfl, rfl, rfl, by decide +kernel, rfl, by decide +kernel, by decide +kernel⟩
abbrev s__law_cell : Stmt := topS 22
theorem sc__law_cell : FnScope ["script", "k"] ["script", "k"] (defScope s__law_cell) := ⟨rfl, rfl, rfl, by decide +kernel, rfl, by decide +kernel, by decide +kernel⟩
abbrev s__law_stream : Stmt := topS 23
theorem sc__law_stream : FnScope ["cell"] ["cell"] (defScope s__law_stream) := ⟨rfl, rfl, rfl, by decide +kernel, rfl, by decide +kernel, by decide +kernel⟩
abbrev s__law_take : Stmt := topS 24
theorem sc__law_take : FnScope ["stream", "many", "worth"] ["stream", "many"] (defScope s__law_take) := ⟨rfl, rfl, rfl, by decide +kernel, rfl, by decide +kernel, by decide +kernel⟩
abbrev s__law_same : Stmt := topS 25
theorem sc__law_same : FnScope ["actual", "expected", "k"] ["actual", "expected"] (defScope s__law_same) := ⟨rfl, rfl, rfl, by decide +kernel, rfl, by decide +kernel, by decide +kernel⟩
abbrev s__law_machine : Stmt := topS 26
theorem sc__law_machine : FnScope ["width", "registers", "rows", "inputs", "half", "held", "outputs", "place", "row", "worth", "k"] ["width", "registers", "rows", "inputs"] (defScope s__law_machine) := ⟨rfl, rfl, rfl, by decide +kernel, rfl, by decide +kernel, by decide +kernel⟩
abbrev s__law_width : Stmt := topS 27
theorem sc__law_width : FnScope ["stream"] ["stream"] (defScope s__law_width) := ⟨rfl, rfl, rfl, by decide +kernel, rfl, by decide +kernel, by decide +kernel⟩
abbrev s__law_integer : Stmt := topS 28
theorem sc__law_integer : FnScope ["stream", "width", "half", "near", "menu"] ["stream", "width"] (defScope s__law_integer) := ⟨rfl, rfl, rfl, by decide +kernel, rfl, by decide +kernel, by decide +kernel⟩
abbrev s__law_row : Stmt := topS 29
theorem sc__law_row : FnScope ["stream", "width", "inputs", "registers", "kind", "one", "two"] ["stream", "width", "inputs", "registers"] (defScope s__law_row) := ⟨rfl, rfl, rfl, by decide +kernel, rfl, by decide +kernel, by decide +kernel⟩
abbrev s__law_inputs : Stmt := topS 30
theorem sc__law_inputs : FnScope ["stream", "width", "count", "half", "inputs", "k", "worth"] ["stream", "width", "count"] (defScope s__law_inputs) := ⟨rfl, rfl, rfl, by decide +kernel, rfl, by decide +kernel, by decide +kernel⟩
abbrev s_law : Stmt := topS 31
theorem sc_law : FnScope ["script", "stream", "width", "inputs", "registers", "given", "rows", "cell", "code", "due", "passed", "k"] ["script"] (defScope s_law) := ⟨rfl, rfl, rfl, by decide +kernel, rfl, by decide +kernel, by decide +kernel⟩
def s_initO_Code : Stmt := (match topS 10 with | .ClassDef _ _ _ b _ _ _ _ _ _ _ => b | _ => []).getD 0 (.Pass ⟨0, 0, 0, 0⟩)
theorem sc_initO_Code : FnScope ["self", "width", "inputs", "registers", "instructions"] ["self", "width", "inputs", "registers", "instructions"] (defScope s_initO_Code) := ⟨rfl, rfl, rfl, by decide +kernel, rfl, by decide +kernel, by decide +kernel⟩
theorem fnI_Code {P : Program} {w : World} {K : PySem.W.Frag} {mg : Str → Option Value} {base : Heap} {f C : Addr} {kV doc pm cdv ct oc : Value} {an od : Option Addr} {osl : Array (Option Value)} (lk : K.lookup f = some ⟨oc, od, .func (PySem.W.fnOf "__init__" "Code.__init__" (defArgs s_initO_Code) (defBody s_initO_Code) (defScope s_initO_Code) .none kV doc pm an cdv ct), osl⟩) (hcd : PySem.W.codeIn K cdv "Code.__init__" = true) (cl : Cls K C) (n1 : NoAttr K C "width") (n2 : NoAttr K C "inputs") (n3 : NoAttr K C "registers") (n4 : NoAttr K C "instructions") : FnOk P w K mg base (L2.CX P w) 1 f (PySem.W.fnOf "__init__" "Code.__init__" (defArgs s_initO_Code) (defBody s_initO_Code) (defScope s_initO_Code) .none kV doc pm an cdv ct) ["self", "width", "inputs", "registers", "instructions"] (spI4 C "width" "inputs" "registers" "instructions") :=
  fn_of (k := 0) lk hcd sc_initO_Code (fun vs H Q E q => by obtain ⟨_, _, _, _, _, _, rfl, _⟩ := q; rfl) fun A outer s H vs Q E hr hsp => ⟨_, (pss_cons (ps_fld (pe_var (i := 0) rfl (.inl rfl)) (pe_var (i := 1) rfl (.inl rfl)) rfl) (pss_cons (ps_fld (pe_var (i := 0) rfl (.inl rfl)) (pe_var (i := 2) rfl (.inl rfl)) rfl) (pss_cons (ps_fld (pe_var (i := 0) rfl (.inl rfl)) (pe_var (i := 3) rfl (.inl rfl)) rfl) (pss_one (ps_fld (pe_var (i := 0) rfl (.inl rfl)) (pe_var (i := 4) rfl (.inl rfl)) rfl))))), init4_ok rfl cl n1 n2 n3 n4 (by decide) (by decide) (by decide) (by decide) (by decide) (by decide) hsp⟩
section
variable [Tbs] {P : Program} {w : World} {K : PySem.W.Frag} {mg : Str → Option Value} {base : Heap}
theorem ok_is_integer {f : Addr} {fd : FuncData} (Fn : Fun K "is_integer" "is_integer" s_is_integer f fd) (hb : Binds K fd ["value"] []) (hm : mg "is_integer" = some (.ref f)) (m_bool : mg "bool" = none) (m_int : mg "int" = none) (m_isinstance : mg "isinstance" = none) : Dfn P w K mg base "is_integer" 1 1 F_is_integer :=
  dfn_of (B := B_is_integer) Fn sc_is_integer hb hm (fun cdv A outer s H E hr => (by refine css_one ?_; refine cs_ret ?_; exact (ce_and (c_isi_int (by rfl) m_isinstance (by rfl) m_int (CE.cb (ce_var 0))) (ce_one (ce_not (c_isi_bool (by rfl) m_isinstance (by rfl) m_bool (CE.cb (ce_var 0))))))))
theorem ok_is_width {f : Addr} {fd : FuncData} (Fn : Fun K "is_width" "is_width" s_is_width f fd) (hb : Binds K fd ["value"] []) (hm : mg "is_width" = some (.ref f)) (D_is_integer : Dfn P w K mg base "is_integer" 1 1 F_is_integer) (c_LEAST_WIDTH : GInt mg "LEAST_WIDTH" 2) (c_MOST_WIDTH : GInt mg "MOST_WIDTH" 200) : Dfn P w K mg base "is_width" 2 1 F_is_width :=
  dfn_of (B := B_is_width) Fn sc_is_width hb hm (fun cdv A outer s H E hr => (by refine css_one ?_; refine cs_ret ?_; exact (ce_and (c_call D_is_integer hr (by first | decide | omega) tk0 (by rfl) (ca_cons (ce_var 0) ca_nil)) (ce_one (ce_chain bin_le bin_le (CE.cb (c_gI (by rfl) c_LEAST_WIDTH)) (CE.cb (ce_var 0)) (CE.cb (c_gI (by rfl) c_MOST_WIDTH)))))))
theorem ok_is_number {f : Addr} {fd : FuncData} (Fn : Fun K "is_number" "is_number" s_is_number f fd) (hb : Binds K fd ["value"] []) (hm : mg "is_number" = some (.ref f)) (D_is_integer : Dfn P w K mg base "is_integer" 1 1 F_is_integer) (c_MOST_PLACES : GInt mg "MOST_PLACES" 10000) : Dfn P w K mg base "is_number" 2 1 F_is_number :=
  dfn_of (B := B_is_number) Fn sc_is_number hb hm (fun cdv A outer s H E hr => (by refine css_one ?_; refine cs_ret ?_; exact (ce_and (c_call D_is_integer hr (by first | decide | omega) tk0 (by rfl) (ca_cons (ce_var 0) ca_nil)) (ce_one (ce_chain bin_le bin_le (CE.cb ce_int) (CE.cb (ce_var 0)) (CE.cb (c_gI (by rfl) c_MOST_PLACES)))))))
theorem ok_least_fitting {f : Addr} {fd : FuncData} (Fn : Fun K "least_fitting" "least_fitting" s_least_fitting f fd) (hb : Binds K fd ["width"] []) (hm : mg "least_fitting" = some (.ref f))  : Dfn P w K mg base "least_fitting" 1 1 F_least_fitting :=
  dfn_of (B := B_least_fitting) Fn sc_least_fitting hb hm (fun cdv A outer s H E hr => (by refine css_one ?_; refine cs_ret ?_; exact (ce_un un_negD (ce_op bin_shl ce_int (ce_op bin_sub (ce_var 0) ce_int)))))
theorem ok_most_fitting {f : Addr} {fd : FuncData} (Fn : Fun K "most_fitting" "most_fitting" s_most_fitting f fd) (hb : Binds K fd ["width"] []) (hm : mg "most_fitting" = some (.ref f))  : Dfn P w K mg base "most_fitting" 1 1 F_most_fitting :=
  dfn_of (B := B_most_fitting) Fn sc_most_fitting hb hm (fun cdv A outer s H E hr => (by refine css_one ?_; refine cs_ret ?_; refine ce_op ?_ ?_ ?_; exact bin_sub; refine ce_op ?_ ?_ ?_; exact bin_shl; exact ce_int; refine ce_op ?_ ?_ ?_; exact bin_sub; exact (ce_var 0); exact ce_int; exact ce_int))
theorem ok_fits {f : Addr} {fd : FuncData} (Fn : Fun K "fits" "fits" s_fits f fd) (hb : Binds K fd ["integer", "width"] []) (hm : mg "fits" = some (.ref f)) (D_least_fitting : Dfn P w K mg base "least_fitting" 1 1 F_least_fitting) (D_most_fitting : Dfn P w K mg base "most_fitting" 1 1 F_most_fitting) : Dfn P w K mg base "fits" 2 2 F_fits :=
  dfn_of (B := B_fits) Fn sc_fits hb hm (fun cdv A outer s H E hr => (by refine css_one ?_; refine cs_ret ?_; exact (ce_chain bin_le bin_le (CE.cb (c_call D_least_fitting hr (by first | decide | omega) tk0 (by rfl) (ca_cons (ce_var 1) ca_nil))) (CE.cb (ce_var 0)) (CE.cb (c_call D_most_fitting hr (by first | decide | omega) tk0 (by rfl) (ca_cons (ce_var 1) ca_nil))))))
theorem ok_is_part {C_Code : Addr} {f : Addr} {fd : FuncData} (Fn : Fun K "is_part" "is_part" s_is_part f fd) (hb : Binds K fd ["code", "letter", "value"] []) (hm : mg "is_part" = some (.ref f)) (D_fits : Dfn P w K mg base "fits" 2 2 F_fits) (D_is_integer : Dfn P w K mg base "is_integer" 1 1 F_is_integer) (o_Code : ObC K "Code" C_Code) (na_Code_inputs : NoAttr K C_Code "inputs") (na_Code_registers : NoAttr K C_Code "registers") (na_Code_width : NoAttr K C_Code "width") : DfnO P w K mg base "is_part" "Code" 3 2 F_is_part :=
  dfnO_of (n := 2) (N := ["code", "letter", "value"]) (ps := ["code", "letter", "value"]) (c := "Code") (B := B_is_part) Fn sc_is_part rfl (by decide) hb hm (fun cdv A outer s H E hr => (by refine css_cons ?_ ?_; refine cs_if ?_ ?_ ?_; exact (ct_not (ct_tru (CE.cb (c_call D_is_integer hr (by first | decide | omega) tk0 (by rfl) (ca_cons (ce_var 2) ca_nil))))); refine css_one ?_; refine cs_ret ?_; exact ce_bl; exact css_nil; refine css_cons ?_ ?_; refine cs_if ?_ ?_ ?_; exact (ct_cmp (bin_eq hr.units) (CE.cb (ce_var 1)) (CE.cb ce_str)); refine css_one ?_; refine cs_ret ?_; exact (c_call D_fits hr (by first | decide | omega) tk0 (by rfl) (ca_cons (ce_var 2) (ca_cons (ce_fd o_Code na_Code_width (i := 0) rfl (by first | exact .inl rfl | exact .inr (.inl rfl) | exact .inr (.inr rfl))) ca_nil))); exact css_nil; refine css_one ?_; refine cs_ret ?_; exact (ce_chain bin_le bin_lt (CE.cb ce_int) (CE.cb (ce_var 2)) (CE.cb (ce_if (ct_cmp (bin_eq hr.units) (CE.cb (ce_var 1)) (CE.cb ce_str)) (ce_fd o_Code na_Code_registers (i := 0) rfl (by first | exact .inl rfl | exact .inr (.inl rfl) | exact .inr (.inr rfl))) (ce_fd o_Code na_Code_inputs (i := 0) rfl (by first | exact .inl rfl | exact .inr (.inl rfl) | exact .inr (.inr rfl))))))))
theorem ok_is_instruction {f : Addr} {fd : FuncData} (Fn : Fun K "is_instruction" "is_instruction" s_is_instruction f fd) (hb : Binds K fd ["code", "value"] []) (hm : mg "is_instruction" = some (.ref f)) (D_is_part : DfnO P w K mg base "is_part" "Code" 3 2 F_is_part) (m_all : mg "all" = none) (m_isinstance : mg "isinstance" = none) (m_len : mg "len" = none) (m_tuple : mg "tuple" = none) (m_zip : mg "zip" = none) (c_PARTS : GCon K mg "PARTS" (.tuple [(.tuple [(.str "load"), (.str "ri")]), (.tuple [(.str "set"), (.str "rn")]), (.tuple [(.str "times"), (.str "rrn")]), (.tuple [(.str "add"), (.str "rr")]), (.tuple [(.str "bend"), (.str "r")]), (.tuple [(.str "give"), (.str "r")])])) : DfnO P w K mg base "is_instruction" "Code" 4 1 F_is_instruction :=
  dfnO_of (n := 1) (N := ["code", "value", "word", "letters", "parts", "letter", "part"]) (ps := ["code", "value"]) (c := "Code") (B := B_is_instruction) Fn sc_is_instruction rfl (by decide) hb hm (fun cdv A outer s H E hr => (by refine css_cons ?_ ?_; refine cs_if ?_ ?_ ?_; exact (CW.ct (cw_or (ct_not (ct_tru (CE.cb (c_isi_tuple (by rfl) m_isinstance (by rfl) m_tuple (CE.cb (ce_var 1)))))) (cw_or1 (ct_cmp (bin_eq hr.units) (CE.cb (ce_var 1)) (CE.cb (ce_tup ca_nil)))))); refine css_one ?_; refine cs_ret ?_; exact ce_bl; exact css_nil; refine css_cons ?_ ?_; refine cs_for ps0 rfl ?_ (cg_tup rfl (cgs_cons (cg_name 2 sc_is_instruction.nd rfl (by first | exact .inl rfl | exact .inr rfl)) (cgs_cons (cg_name 3 sc_is_instruction.nd rfl (by first | exact .inl rfl | exact .inr rfl)) cgs_nil))) ?_; exact (ci_seq (ce_gD c_PARTS (by rfl))); refine css_one ?_; refine cs_if ?_ ?_ ?_; exact (ct_cmp (bin_eq hr.units) (CE.cb (ce_ix (ce_var 1) ce_int)) (CE.cb (ce_var 2))); refine css_cons ?_ ?_; refine cs_set (i := 4) ?_ ?_ ?_ ?_; exact sc_is_instruction.nd; rfl; (first | exact .inl rfl | exact .inr rfl); refine ce_slice ?_ ?_ ?_; exact (ce_var 1); exact (co_some ce_int); exact co_none; refine css_cons ?_ ?_; refine cs_if ?_ ?_ ?_; exact (ct_cmp (bin_ne hr.units) (CE.cb (c_len (by rfl) m_len (ca_cons (ce_var 4) ca_nil))) (CE.cb (c_len (by rfl) m_len (ca_cons (ce_var 3) ca_nil)))); refine css_one ?_; refine cs_ret ?_; exact ce_bl; exact css_nil; refine css_one ?_; refine cs_ret ?_; exact (c_all rfl (by rfl) m_all (ca_cons (CL.ce (cl_comp (own := [("letter", 5), ("part", 6)]) rfl sc_is_instruction.nd (blkOk_by (own := [("letter", 5), ("part", 6)]) (N := ["code", "value", "word", "letters", "parts", "letter", "part"]) (sc := defScope (topS 17)) (by decide +kernel)) (ci_zipS (ce_var 3) (ce_var 4) (by rfl) m_zip) (fun _ _ _ _ _ => (cg_tup rfl (cgs_cons (cg_name 5 sc_is_instruction.nd rfl (by first | exact .inl rfl | exact .inr rfl)) (cgs_cons (cg_name 6 sc_is_instruction.nd rfl (by first | exact .inl rfl | exact .inr rfl)) cgs_nil)))) (by decide) (fun _ _ _ _ _ => cts_nil) (fun _ _ _ _ _ => (c_callO (i := 0) D_is_part hr (by first | decide | omega) tkN (by rfl) rfl (by first | exact .inl rfl | exact .inr (.inl rfl) | exact .inr (.inr rfl)) (ca_cons (ce_var 5) (ca_cons (ce_var 6) ca_nil)))))) ca_nil)); exact css_nil; refine css_one ?_; refine cs_ret ?_; exact ce_bl))
theorem ok_check_code {C_Code : Addr} {f : Addr} {fd : FuncData} (Fn : Fun K "check_code" "check_code" s_check_code f fd) (hb : Binds K fd ["code"] []) (hm : mg "check_code" = some (.ref f)) (D_is_instruction : DfnO P w K mg base "is_instruction" "Code" 4 1 F_is_instruction) (D_is_number : Dfn P w K mg base "is_number" 2 1 F_is_number) (D_is_width : Dfn P w K mg base "is_width" 2 1 F_is_width) (m_enumerate : mg "enumerate" = none) (m_isinstance : mg "isinstance" = none) (m_tuple : mg "tuple" = none) (o_Code : ObC K "Code" C_Code) (na_Code_inputs : NoAttr K C_Code "inputs") (na_Code_instructions : NoAttr K C_Code "instructions") (na_Code_registers : NoAttr K C_Code "registers") (na_Code_width : NoAttr K C_Code "width") (ic_Code : C8.InsC K C_Code) (mC_Code : mg "Code" = some (.ref C_Code)) : DfnO P w K mg base "check_code" "Code" 5 0 F_check_code :=
  dfnO_of (n := 0) (N := ["code", "place", "instruction"]) (ps := ["code"]) (c := "Code") (B := B_check_code) Fn sc_check_code rfl (by decide) hb hm (fun cdv A outer s H E hr => (by refine css_cons ?_ ?_; refine cs_if ?_ ?_ ?_; exact (CW.ct (cw_or (ct_not (ct_tru (CE.cb (ce_isO o_Code ic_Code (by rfl) m_isinstance (by rfl) mC_Code (i := 0) rfl (by first | exact .inl rfl | exact .inr (.inl rfl) | exact .inr (.inr rfl)))))) (cw_or1 (ct_not (ct_tru (CE.cb (c_call D_is_width hr (by first | decide | omega) tk0 (by rfl) (ca_cons (ce_fd o_Code na_Code_width (i := 0) rfl (by first | exact .inl rfl | exact .inr (.inl rfl) | exact .inr (.inr rfl))) ca_nil)))))))); refine css_one ?_; exact cs_never; exact css_nil; refine css_cons ?_ ?_; refine cs_if ?_ ?_ ?_; exact (CW.ct (cw_or (ct_not (ct_tru (CE.cb (c_call D_is_number hr (by first | decide | omega) tk0 (by rfl) (ca_cons (ce_fd o_Code na_Code_inputs (i := 0) rfl (by first | exact .inl rfl | exact .inr (.inl rfl) | exact .inr (.inr rfl))) ca_nil))))) (cw_or (ct_not (ct_tru (CE.cb (c_call D_is_number hr (by first | decide | omega) tk0 (by rfl) (ca_cons (ce_fd o_Code na_Code_registers (i := 0) rfl (by first | exact .inl rfl | exact .inr (.inl rfl) | exact .inr (.inr rfl))) ca_nil))))) (cw_or1 (ct_not (ct_tru (CE.cb (c_isi_tuple (by rfl) m_isinstance (by rfl) m_tuple (CE.cb (ce_fd o_Code na_Code_instructions (i := 0) rfl (by first | exact .inl rfl | exact .inr (.inl rfl) | exact .inr (.inr rfl)))))))))))); refine css_one ?_; exact cs_never; exact css_nil; refine css_one ?_; refine cs_for ps0 rfl ?_ (cg_tup rfl (cgs_cons (cg_name 1 sc_check_code.nd rfl (by first | exact .inl rfl | exact .inr rfl)) (cgs_cons (cg_name 2 sc_check_code.nd rfl (by first | exact .inl rfl | exact .inr rfl)) cgs_nil))) ?_; exact (ci_enum (ce_fd o_Code na_Code_instructions (i := 0) rfl (by first | exact .inl rfl | exact .inr (.inl rfl) | exact .inr (.inr rfl))) (by rfl) m_enumerate); refine css_one ?_; refine cs_if ?_ ?_ ?_; exact (ct_not (ct_tru (CE.cb (c_callO (i := 0) D_is_instruction hr (by first | decide | omega) tk0 (by rfl) rfl (by first | exact .inl rfl | exact .inr (.inl rfl) | exact .inr (.inr rfl)) (ca_cons (ce_var 2) ca_nil))))); refine css_one ?_; exact cs_never; exact css_nil))
theorem ok_becomes {f : Addr} {fd : FuncData} (Fn : Fun K "becomes" "becomes" s_becomes f fd) (hb : Binds K fd ["instruction", "held", "inputs"] []) (hm : mg "becomes" = some (.ref f)) (m_max : mg "max" = none) : Dfn P w K mg base "becomes" 1 3 F_becomes :=
  dfn_of (B := B_becomes) Fn sc_becomes hb hm (fun cdv A outer s H E hr => (by refine css_cons ?_ ?_; refine cs_set (i := 3) ?_ ?_ ?_ ?_; exact sc_becomes.nd; rfl; (first | exact .inl rfl | exact .inr rfl); refine ce_ix ?_ ?_; exact (ce_var 0); exact ce_int; refine css_cons ?_ ?_; refine cs_if ?_ ?_ ?_; exact (ct_cmp (bin_eq hr.units) (CE.cb (ce_var 3)) (CE.cb ce_str)); refine css_one ?_; refine cs_ret ?_; refine ce_ix ?_ ?_; exact (ce_var 2); refine ce_ix ?_ ?_; exact (ce_var 0); exact ce_int; exact css_nil; refine css_cons ?_ ?_; refine cs_if ?_ ?_ ?_; exact (ct_cmp (bin_eq hr.units) (CE.cb (ce_var 3)) (CE.cb ce_str)); refine css_one ?_; refine cs_ret ?_; refine ce_ix ?_ ?_; exact (ce_var 0); exact ce_int; exact css_nil; refine css_cons ?_ ?_; refine cs_if ?_ ?_ ?_; exact (ct_cmp (bin_eq hr.units) (CE.cb (ce_var 3)) (CE.cb ce_str)); refine css_one ?_; refine cs_ret ?_; refine ce_op ?_ ?_ ?_; exact bin_mulX; refine ce_ix ?_ ?_; exact (ce_var 0); exact ce_int; refine ce_ix ?_ ?_; exact (ce_var 1); refine ce_ix ?_ ?_; exact (ce_var 0); exact ce_int; exact css_nil; refine css_cons ?_ ?_; refine cs_if ?_ ?_ ?_; exact (ct_cmp (bin_eq hr.units) (CE.cb (ce_var 3)) (CE.cb ce_str)); refine css_one ?_; refine cs_ret ?_; refine ce_op ?_ ?_ ?_; exact bin_add; refine ce_ix ?_ ?_; exact (ce_var 1); refine ce_ix ?_ ?_; exact (ce_var 0); exact ce_int; refine ce_ix ?_ ?_; exact (ce_var 1); refine ce_ix ?_ ?_; exact (ce_var 0); exact ce_int; exact css_nil; refine css_one ?_; refine cs_ret ?_; exact (c_max rfl (by rfl) m_max (ca_cons ce_int (ca_cons (ce_ix (ce_var 1) (ce_ix (ce_var 0) ce_int)) ca_nil)))))
theorem ok_run_code {C_Code : Addr} {f : Addr} {fd : FuncData} (Fn : Fun K "run_code" "run_code" s_run_code f fd) (hb : Binds K fd ["code", "inputs"] []) (hm : mg "run_code" = some (.ref f)) (D_becomes : Dfn P w K mg base "becomes" 1 3 F_becomes) (D_fits : Dfn P w K mg base "fits" 2 2 F_fits) (m_enumerate : mg "enumerate" = none) (m_tuple : mg "tuple" = none) (o_Code : ObC K "Code" C_Code) (na_Code_instructions : NoAttr K C_Code "instructions") (na_Code_registers : NoAttr K C_Code "registers") (na_Code_width : NoAttr K C_Code "width") : DfnO P w K mg base "run_code" "Code" 3 1 F_run_code :=
  dfnO_of (n := 1) (N := ["code", "inputs", "held", "outputs", "place", "instruction", "integer"]) (ps := ["code", "inputs"]) (c := "Code") (B := B_run_code) Fn sc_run_code rfl (by decide) hb hm (fun cdv A outer s H E hr => (by refine css_cons ?_ ?_; exact (cs_setL (i := 2) sc_run_code.nd rfl (by first | exact .inl rfl | exact .inr rfl) (cl_rep (cl_lst (ca_cons ce_int ca_nil)) (ce_fd o_Code na_Code_registers (i := 0) rfl (by first | exact .inl rfl | exact .inr (.inl rfl) | exact .inr (.inr rfl))))); refine css_cons ?_ ?_; exact (cs_setL (i := 3) sc_run_code.nd rfl (by first | exact .inl rfl | exact .inr rfl) (cl_lst ca_nil)); refine css_cons ?_ ?_; refine cs_for ps0 rfl ?_ (cg_tup rfl (cgs_cons (cg_name 4 sc_run_code.nd rfl (by first | exact .inl rfl | exact .inr rfl)) (cgs_cons (cg_name 5 sc_run_code.nd rfl (by first | exact .inl rfl | exact .inr rfl)) cgs_nil))) ?_; exact (ci_enum (ce_fd o_Code na_Code_instructions (i := 0) rfl (by first | exact .inl rfl | exact .inr (.inl rfl) | exact .inr (.inr rfl))) (by rfl) m_enumerate); refine css_cons ?_ ?_; refine cs_if ?_ ?_ ?_; exact (ct_cmp (bin_eq hr.units) (CE.cb (ce_ix (ce_var 5) ce_int)) (CE.cb ce_str)); refine css_cons ?_ ?_; exact (cs_app (i := 3) rfl (by first | exact .inl rfl | exact .inr (.inl rfl)) (by decide) (by decide) (ce_ixO 2 (ce_ix (ce_var 5) ce_int))); refine css_one ?_; exact cs_continue; exact css_nil; refine css_cons ?_ ?_; refine cs_set (i := 6) ?_ ?_ ?_ ?_; exact sc_run_code.nd; rfl; (first | exact .inl rfl | exact .inr rfl); exact (c_callB D_becomes hr (by first | decide | omega) (by rfl) (cab_cons (CE.cb (ce_var 5)) (cab_cons (cb_var 2) (cab_cons (CE.cb (ce_var 1)) cab_nil)))); refine css_cons ?_ ?_; refine cs_if ?_ ?_ ?_; exact (ct_not (ct_tru (CE.cb (c_call D_fits hr (by first | decide | omega) tk0 (by rfl) (ca_cons (ce_var 6) (ca_cons (ce_fd o_Code na_Code_width (i := 0) rfl (by first | exact .inl rfl | exact .inr (.inl rfl) | exact .inr (.inr rfl))) ca_nil)))))); refine css_one ?_; refine cs_ret ?_; refine ce_tup ?_; refine ca_k ?_ ?_; exact ce_str; refine ca_k ?_ ?_; exact (ce_var 4); exact ca_nil; exact css_nil; refine css_one ?_; exact (cs_setI (i := 2) rfl (by first | exact .inl rfl | exact .inr (.inl rfl)) (by decide) (by decide) (ce_var 6) (ce_ix (ce_var 5) ce_int)); refine css_one ?_; refine cs_ret ?_; refine ce_tup ?_; refine ca_k ?_ ?_; exact ce_str; refine ca_k ?_ ?_; exact (ce_tupleO 3 (by rfl) m_tuple); exact ca_nil))
theorem ok__law_cell {f : Addr} {fd : FuncData} (Fn : Fun K "_law_cell" "_law_cell" s__law_cell f fd) (hb : Binds K fd ["script", "k"] []) (hm : mg "_law_cell" = some (.ref f)) (m_len : mg "len" = none) : Dfn P w K mg base "_law_cell" 1 2 F__law_cell :=
  dfn_of (B := B__law_cell) Fn sc__law_cell hb hm (fun cdv A outer s H E hr => (by refine css_cons ?_ ?_; refine cs_if ?_ ?_ ?_; exact (ct_cmp bin_lt (CE.cb (ce_var 1)) (CE.cb (c_len (by rfl) m_len (ca_cons (ce_var 0) ca_nil)))); refine css_one ?_; refine cs_ret ?_; refine ce_ix ?_ ?_; exact (ce_var 0); exact (ce_var 1); exact css_nil; refine css_one ?_; refine cs_ret ?_; exact ce_int))
theorem ok__law_stream {f : Addr} {fd : FuncData} (Fn : Fun K "_law_stream" "_law_stream" s__law_stream f fd) (hb : Binds K fd ["cell"] []) (hm : mg "_law_stream" = some (.ref f))  : DfnN P w K mg base "_law_stream" 1 1 F__law_stream :=
  dfnN_of (B := B__law_stream) Fn sc__law_stream hb hm (fun cdv A outer s H E hr => (css2_cons (cs2_if tk0 (ct_cmp bin_ge (CE.cb (ce_var 0)) (CE.cb (ce_op bin_pow ce_int ce_int))) (css2_one (cs2_retL tk0 (cl_lst (ca_cons (ce_var 0) (ca_cons ce_int ca_nil))))) css2_nil) (css2_one (cs2_retL tk0 (cl_lst (ca_cons ce_int (ca_cons (ce_var 0) ca_nil)))))))
theorem ok__law_take {f : Addr} {fd : FuncData} (Fn : Fun K "_law_take" "_law_take" s__law_take f fd) (hb : Binds K fd ["stream", "many"] []) (hm : mg "_law_take" = some (.ref f)) (m_int : mg "int" = none) : DfnI P w K mg base "_law_take" 1 2 F__law_take :=
  dfnI_of (B := B__law_take) Fn sc__law_take hb hm (fun cdv A outer s H E hr => (css2_cons (cs2_if tk0 (ct_cmp bin_gt (CE.cb (ce_ixO 0 ce_int)) (CE.cb ce_int)) (css2_cons (cs2_set (j := 2) tk0 sc__law_take.nd rfl (by first | exact .inl rfl | exact .inr rfl) (ce_op bin_mod (c_int (by rfl) m_int (ca_cons (ce_ixO 0 ce_int) ca_nil)) (ce_var 1)) (by decide)) (css2_cons (cs2_setI (j := 0) tk0 rfl (by first | exact .inl rfl | exact .inr (.inl rfl)) (by decide) (by decide) (ce_op bin_div (ce_ixO 0 ce_int) (ce_var 1)) ce_int) (css2_one (cs2_ret tk0 (ce_var 2))))) css2_nil) (css2_cons (cs2_setI (j := 0) tk0 rfl (by first | exact .inl rfl | exact .inr (.inl rfl)) (by decide) (by decide) (ce_op bin_mod (c_int (by rfl) m_int (ca_cons (ce_op bin_add (ce_op bin_mulX (ce_ixO 0 ce_int) ce_int) ce_int) ca_nil)) ce_int) ce_int) (css2_one (cs2_ret tk0 (ce_op bin_mod (c_int (by rfl) m_int (ca_cons (ce_op bin_add (ce_op bin_div (ce_op bin_mulX (ce_ixO 0 ce_int) (ce_ixO 0 ce_int)) ce_int) (ce_op bin_div (ce_ixO 0 ce_int) ce_int)) ca_nil)) (ce_var 1)))))))
theorem ok__law_same {f : Addr} {fd : FuncData} (Fn : Fun K "_law_same" "_law_same" s__law_same f fd) (hb : Binds K fd ["actual", "expected"] []) (hm : mg "_law_same" = some (.ref f)) (m_bool : mg "bool" = none) (m_int : mg "int" = none) (m_isinstance : mg "isinstance" = none) (m_len : mg "len" = none) (m_range : mg "range" = none) (m_str : mg "str" = none) (m_tuple : mg "tuple" = none) : ∀ fu : Nat, Dfn P w K mg base "_law_same" (0 + fu) 2 (F__law_same fu)
  | 0 => dfn_no rfl hm Fn.kp hb
  | fu + 1 => by
    have D__law_same := ok__law_same Fn hb hm m_bool m_int m_isinstance m_len m_range m_str m_tuple fu
    exact dfn_of (B := B__law_same (F__law_same fu)) Fn sc__law_same hb hm (fun cdv A outer s H E hr => (by refine css_cons ?_ ?_; refine cs_if ?_ ?_ ?_; exact (ct_tru (CE.cb (c_isi_tuple (by rfl) m_isinstance (by rfl) m_tuple (CE.cb (ce_var 1))))); refine css_cons ?_ ?_; refine cs_if ?_ ?_ ?_; exact (CW.ct (cw_or (ct_not (ct_tru (CE.cb (c_isi_tuple (by rfl) m_isinstance (by rfl) m_tuple (CE.cb (ce_var 0)))))) (cw_or1 (ct_cmp (bin_ne hr.units) (CE.cb (c_len (by rfl) m_len (ca_cons (ce_var 0) ca_nil))) (CE.cb (c_len (by rfl) m_len (ca_cons (ce_var 1) ca_nil))))))); refine css_one ?_; refine cs_ret ?_; exact ce_bl; exact css_nil; refine css_cons ?_ ?_; refine cs_for ps0 rfl ?_ (cg_name 2 sc__law_same.nd rfl (by first | exact .inl rfl | exact .inr rfl)) ?_; exact (ci_range1 (c_len (by rfl) m_len (ca_cons (ce_var 1) ca_nil)) (by rfl) m_range); refine css_one ?_; refine cs_if ?_ ?_ ?_; exact (ct_not (ct_tru (CE.cb (c_call D__law_same hr (by first | exact Nat.le_refl _ | exact Nat.le_add_right _ _ | omega | decide) tk0 (by rfl) (ca_cons (ce_ix (ce_var 0) (ce_var 2)) (ca_cons (ce_ix (ce_var 1) (ce_var 2)) ca_nil)))))); refine css_one ?_; refine cs_ret ?_; exact ce_bl; exact css_nil; refine css_one ?_; refine cs_ret ?_; exact ce_bl; exact css_nil; refine css_cons ?_ ?_; refine cs_if ?_ ?_ ?_; exact (ct_cmp bin_is (CE.cb (ce_var 1)) (CE.cb ce_non)); refine css_one ?_; refine cs_ret ?_; exact (ce_cmp bin_is (CE.cb (ce_var 0)) (CE.cb ce_non)); exact css_nil; refine css_cons ?_ ?_; refine cs_if ?_ ?_ ?_; exact (ct_tru (CE.cb (c_isi_str (by rfl) m_isinstance (by rfl) m_str (CE.cb (ce_var 1))))); refine css_one ?_; refine cs_ret ?_; exact (ce_and (c_isi_str (by rfl) m_isinstance (by rfl) m_str (CE.cb (ce_var 0))) (ce_one (ce_cmp (bin_eq hr.units) (CE.cb (ce_var 0)) (CE.cb (ce_var 1))))); exact css_nil; refine css_cons ?_ ?_; refine cs_if ?_ ?_ ?_; exact (ct_tru (CE.cb (c_isi_bool (by rfl) m_isinstance (by rfl) m_bool (CE.cb (ce_var 1))))); refine css_one ?_; refine cs_ret ?_; exact (ce_and (c_isi_bool (by rfl) m_isinstance (by rfl) m_bool (CE.cb (ce_var 0))) (ce_one (ce_cmp (bin_eq hr.units) (CE.cb (ce_var 0)) (CE.cb (ce_var 1))))); exact css_nil; refine css_one ?_; refine cs_ret ?_; exact (ce_and (c_isi_int (by rfl) m_isinstance (by rfl) m_int (CE.cb (ce_var 0))) (ce_and (ce_not (c_isi_bool (by rfl) m_isinstance (by rfl) m_bool (CE.cb (ce_var 0)))) (ce_one (ce_cmp (bin_eq hr.units) (CE.cb (ce_var 0)) (CE.cb (ce_var 1))))))))
theorem ok__law_machine {f : Addr} {fd : FuncData} (Fn : Fun K "_law_machine" "_law_machine" s__law_machine f fd) (hb : Binds K fd ["width", "registers", "rows", "inputs"] []) (hm : mg "_law_machine" = some (.ref f)) (m_len : mg "len" = none) (m_max : mg "max" = none) (m_range : mg "range" = none) (m_tuple : mg "tuple" = none) : Dfn P w K mg base "_law_machine" 1 4 F__law_machine :=
  dfn_of (B := B__law_machine) Fn sc__law_machine hb hm (fun cdv A outer s H E hr => (by refine css_cons ?_ ?_; refine cs_set (i := 4) ?_ ?_ ?_ ?_; exact sc__law_machine.nd; rfl; (first | exact .inl rfl | exact .inr rfl); refine ce_op ?_ ?_ ?_; exact bin_shl; exact ce_int; refine ce_op ?_ ?_ ?_; exact bin_sub; exact (ce_var 0); exact ce_int; refine css_cons ?_ ?_; exact (cs_setC (own := [("k", 10)]) (i := 5) rfl sc__law_machine.nd rfl rfl (sw_true rfl rfl rfl (by decide +kernel)) (blkOk_by (own := [("k", 10)]) (N := ["width", "registers", "rows", "inputs", "half", "held", "outputs", "place", "row", "worth", "k"]) (sc := defScope (topS 26)) (by decide +kernel)) (ci_range1 (ce_var 1) (by rfl) m_range) (fun _ _ _ _ _ => (cg_name 10 sc__law_machine.nd rfl (by first | exact .inl rfl | exact .inr rfl))) (by decide) (fun _ _ _ _ _ => cts_nil) (fun _ _ _ _ _ => ce_int)); refine css_cons ?_ ?_; exact (cs_setL (i := 6) sc__law_machine.nd rfl (by first | exact .inl rfl | exact .inr rfl) (cl_lst ca_nil)); refine css_cons ?_ ?_; refine cs_for ps0 rfl ?_ (cg_name 7 sc__law_machine.nd rfl (by first | exact .inl rfl | exact .inr rfl)) ?_; exact (ci_range1 (c_len (by rfl) m_len (ca_cons (ce_var 2) ca_nil)) (by rfl) m_range); refine css_cons ?_ ?_; refine cs_set (i := 8) ?_ ?_ ?_ ?_; exact sc__law_machine.nd; rfl; (first | exact .inl rfl | exact .inr rfl); refine ce_ix ?_ ?_; exact (ce_var 2); exact (ce_var 7); refine css_cons ?_ ?_; refine cs_if ?_ ?_ ?_; exact (ct_cmp (bin_eq hr.units) (CE.cb (ce_ix (ce_var 8) ce_int)) (CE.cb ce_str)); refine css_cons ?_ ?_; exact (cs_app (i := 6) rfl (by first | exact .inl rfl | exact .inr (.inl rfl)) (by decide) (by decide) (ce_ixO 5 (ce_ix (ce_var 8) ce_int))); refine css_one ?_; exact cs_continue; exact css_nil; refine css_cons ?_ ?_; refine cs_set (i := 9) ?_ ?_ ?_ ?_; exact sc__law_machine.nd; rfl; (first | exact .inl rfl | exact .inr rfl); exact (c_max rfl (by rfl) m_max (ca_cons ce_int (ca_cons (ce_ixO 5 (ce_ix (ce_var 8) ce_int)) ca_nil))); refine css_cons ?_ ?_; refine cs_if ?_ ?_ ?_; exact (ct_cmp (bin_eq hr.units) (CE.cb (ce_ix (ce_var 8) ce_int)) (CE.cb ce_str)); refine css_one ?_; refine cs_set (i := 9) ?_ ?_ ?_ ?_; exact sc__law_machine.nd; rfl; (first | exact .inl rfl | exact .inr rfl); refine ce_ix ?_ ?_; exact (ce_var 3); refine ce_ix ?_ ?_; exact (ce_var 8); exact ce_int; exact css_nil; refine css_cons ?_ ?_; refine cs_if ?_ ?_ ?_; exact (ct_cmp (bin_eq hr.units) (CE.cb (ce_ix (ce_var 8) ce_int)) (CE.cb ce_str)); refine css_one ?_; refine cs_set (i := 9) ?_ ?_ ?_ ?_; exact sc__law_machine.nd; rfl; (first | exact .inl rfl | exact .inr rfl); refine ce_ix ?_ ?_; exact (ce_var 8); exact ce_int; exact css_nil; refine css_cons ?_ ?_; refine cs_if ?_ ?_ ?_; exact (ct_cmp (bin_eq hr.units) (CE.cb (ce_ix (ce_var 8) ce_int)) (CE.cb ce_str)); refine css_one ?_; refine cs_set (i := 9) ?_ ?_ ?_ ?_; exact sc__law_machine.nd; rfl; (first | exact .inl rfl | exact .inr rfl); refine ce_op ?_ ?_ ?_; exact bin_mulX; refine ce_ix ?_ ?_; exact (ce_var 8); exact ce_int; exact (ce_ixO 5 (ce_ix (ce_var 8) ce_int)); exact css_nil; refine css_cons ?_ ?_; refine cs_if ?_ ?_ ?_; exact (ct_cmp (bin_eq hr.units) (CE.cb (ce_ix (ce_var 8) ce_int)) (CE.cb ce_str)); refine css_one ?_; refine cs_set (i := 9) ?_ ?_ ?_ ?_; exact sc__law_machine.nd; rfl; (first | exact .inl rfl | exact .inr rfl); refine ce_op ?_ ?_ ?_; exact bin_add; exact (ce_ixO 5 (ce_ix (ce_var 8) ce_int)); exact (ce_ixO 5 (ce_ix (ce_var 8) ce_int)); exact css_nil; refine css_cons ?_ ?_; refine cs_if ?_ ?_ ?_; exact (CW.ct (cw_or (ct_cmp bin_lt (CE.cb (ce_var 9)) (CE.cb (ce_un un_negD (ce_var 4)))) (cw_or1 (ct_cmp bin_ge (CE.cb (ce_var 9)) (CE.cb (ce_var 4)))))); refine css_one ?_; refine cs_ret ?_; refine ce_tup ?_; refine ca_k ?_ ?_; exact ce_str; refine ca_k ?_ ?_; exact (ce_var 7); exact ca_nil; exact css_nil; refine css_one ?_; exact (cs_setI (i := 5) rfl (by first | exact .inl rfl | exact .inr (.inl rfl)) (by decide) (by decide) (ce_var 9) (ce_ix (ce_var 8) ce_int)); refine css_one ?_; refine cs_ret ?_; refine ce_tup ?_; refine ca_k ?_ ?_; exact ce_str; refine ca_k ?_ ?_; exact (ce_tupleO 6 (by rfl) m_tuple); exact ca_nil))
theorem ok__law_width {f : Addr} {fd : FuncData} (Fn : Fun K "_law_width" "_law_width" s__law_width f fd) (hb : Binds K fd ["stream"] []) (hm : mg "_law_width" = some (.ref f)) (D__law_take : DfnI P w K mg base "_law_take" 1 2 F__law_take) : DfnI P w K mg base "_law_width" 2 1 F__law_width :=
  dfnI_of (B := B__law_width) Fn sc__law_width hb hm (fun cdv A outer s H E hr => (css2_one (cs2_ret2 (ce2_ix (ce2_lst (ca2_cons (ce2_op bin_add (c2_pure tk0 ce_int) (c2_callI (i := 0) D__law_take hr (by first | decide | omega) tk0 (by rfl) (ca2_cons (c2_pure tk0 ce_int) ca2_nil) rfl (by first | exact .inl rfl | exact .inr (.inl rfl) | exact .inr (.inr rfl)) (by decide) (by decide))) (ca2_cons (ce2_op bin_add (c2_pure tk0 ce_int) (c2_callI (i := 0) D__law_take hr (by first | decide | omega) tk0 (by rfl) (ca2_cons (c2_pure tk0 ce_int) ca2_nil) rfl (by first | exact .inl rfl | exact .inr (.inl rfl) | exact .inr (.inr rfl)) (by decide) (by decide))) (ca2_cons (ce2_op bin_add (c2_pure tk0 ce_int) (c2_callI (i := 0) D__law_take hr (by first | decide | omega) tk0 (by rfl) (ca2_cons (c2_pure tk0 ce_int) ca2_nil) rfl (by first | exact .inl rfl | exact .inr (.inl rfl) | exact .inr (.inr rfl)) (by decide) (by decide))) (ca2_cons (c2_pure tk0 ce_int) ca2_nil))))) (c2_callI (i := 0) D__law_take hr (by first | decide | omega) tk0 (by rfl) (ca2_cons (c2_pure tk0 ce_int) ca2_nil) rfl (by first | exact .inl rfl | exact .inr (.inl rfl) | exact .inr (.inr rfl)) (by decide) (by decide))))))
theorem ok__law_integer {f : Addr} {fd : FuncData} (Fn : Fun K "_law_integer" "_law_integer" s__law_integer f fd) (hb : Binds K fd ["stream", "width"] []) (hm : mg "_law_integer" = some (.ref f)) (D__law_take : DfnI P w K mg base "_law_take" 1 2 F__law_take) (m_max : mg "max" = none) (m_min : mg "min" = none) : DfnI P w K mg base "_law_integer" 2 2 F__law_integer :=
  dfnI_of (B := B__law_integer) Fn sc__law_integer hb hm (fun cdv A outer s H E hr => (css2_cons (cs2_set (j := 2) tk0 sc__law_integer.nd rfl (by first | exact .inl rfl | exact .inr rfl) (ce_op bin_shl ce_int (ce_op bin_sub (ce_var 1) ce_int)) (by decide)) (css2_cons (cs2_set2 (j := 3) sc__law_integer.nd rfl (by first | exact .inl rfl | exact .inr rfl) (c2_callI (i := 0) D__law_take hr (by first | decide | omega) tk0 (by rfl) (ca2_cons (c2_pure tk0 ce_int) ca2_nil) rfl (by first | exact .inl rfl | exact .inr (.inl rfl) | exact .inr (.inr rfl)) (by decide) (by decide)) (by decide)) (css2_cons (cs2_set2 (j := 4) sc__law_integer.nd rfl (by first | exact .inl rfl | exact .inr rfl) (ce2_lst (ca2_cons (c2_pure tk0 (ce_var 3)) (ca2_cons (c2_pure tk0 (ce_un un_negD (ce_var 3))) (ca2_cons (c2_pure tk0 (ce_op bin_sub (ce_op bin_sub (ce_var 2) ce_int) (ce_var 3))) (ca2_cons (c2_pure tk0 (ce_op bin_sub (ce_var 3) (ce_var 2))) (ca2_cons (ce2_op bin_sub (c2_callI (i := 0) D__law_take hr (by first | decide | omega) tk0 (by rfl) (ca2_cons (c2_pure tk0 (ce_op bin_mulX ce_int (ce_var 2))) ca2_nil) rfl (by first | exact .inl rfl | exact .inr (.inl rfl) | exact .inr (.inr rfl)) (by decide) (by decide)) (c2_pure tk0 (ce_var 2))) (ca2_cons (ce2_op bin_sub (c2_callI (i := 0) D__law_take hr (by first | decide | omega) tk0 (by rfl) (ca2_cons (c2_pure tk0 ce_int) ca2_nil) rfl (by first | exact .inl rfl | exact .inr (.inl rfl) | exact .inr (.inr rfl)) (by decide) (by decide)) (c2_pure tk0 ce_int)) ca2_nil))))))) (by decide)) (css2_one (cs2_ret2 (c2_max rfl (by rfl) m_max (ca2_cons (c2_pure tk0 (ce_un un_negD (ce_var 2))) (ca2_cons (c2_min rfl (by rfl) m_min (ca2_cons (c2_pure tk0 (ce_op bin_sub (ce_var 2) ce_int)) (ca2_cons (ce2_ix (c2_pure tk0 (ce_var 4)) (c2_callI (i := 0) D__law_take hr (by first | decide | omega) tk0 (by rfl) (ca2_cons (c2_pure tk0 ce_int) ca2_nil) rfl (by first | exact .inl rfl | exact .inr (.inl rfl) | exact .inr (.inr rfl)) (by decide) (by decide))) ca2_nil))) ca2_nil)))))))))
theorem ok__law_row {f : Addr} {fd : FuncData} (Fn : Fun K "_law_row" "_law_row" s__law_row f fd) (hb : Binds K fd ["stream", "width", "inputs", "registers"] []) (hm : mg "_law_row" = some (.ref f)) (D__law_integer : DfnI P w K mg base "_law_integer" 2 2 F__law_integer) (D__law_take : DfnI P w K mg base "_law_take" 1 2 F__law_take) : DfnI P w K mg base "_law_row" 3 4 F__law_row :=
  dfnI_of (B := B__law_row) Fn sc__law_row hb hm (fun cdv A outer s H E hr => (css2_cons (cs2_set2 (j := 4) sc__law_row.nd rfl (by first | exact .inl rfl | exact .inr rfl) (c2_callI (i := 0) D__law_take hr (by first | decide | omega) tk0 (by rfl) (ca2_cons (c2_pure tk0 ce_int) ca2_nil) rfl (by first | exact .inl rfl | exact .inr (.inl rfl) | exact .inr (.inr rfl)) (by decide) (by decide)) (by decide)) (css2_cons (cs2_set2 (j := 5) sc__law_row.nd rfl (by first | exact .inl rfl | exact .inr rfl) (c2_callI (i := 0) D__law_take hr (by first | decide | omega) tk0 (by rfl) (ca2_cons (c2_pure tk0 (ce_var 3)) ca2_nil) rfl (by first | exact .inl rfl | exact .inr (.inl rfl) | exact .inr (.inr rfl)) (by decide) (by decide)) (by decide)) (css2_cons (cs2_set2 (j := 6) sc__law_row.nd rfl (by first | exact .inl rfl | exact .inr rfl) (c2_callI (i := 0) D__law_take hr (by first | decide | omega) tk0 (by rfl) (ca2_cons (c2_pure tk0 (ce_var 3)) ca2_nil) rfl (by first | exact .inl rfl | exact .inr (.inl rfl) | exact .inr (.inr rfl)) (by decide) (by decide)) (by decide)) (css2_cons (cs2_if tk0 (ct_cmp (bin_eq hr.units) (CE.cb (ce_var 4)) (CE.cb ce_int)) (css2_one (cs2_ret2 (ce2_tup (ca2_cons (c2_pure tk0 ce_str) (ca2_cons (c2_pure tk0 (ce_var 5)) (ca2_cons (c2_callI (i := 0) D__law_take hr (by first | decide | omega) tk0 (by rfl) (ca2_cons (c2_pure tk0 (ce_var 2)) ca2_nil) rfl (by first | exact .inl rfl | exact .inr (.inl rfl) | exact .inr (.inr rfl)) (by decide) (by decide)) ca2_nil)))))) css2_nil) (css2_cons (cs2_if tk0 (ct_cmp (bin_eq hr.units) (CE.cb (ce_var 4)) (CE.cb ce_int)) (css2_one (cs2_ret2 (ce2_tup (ca2_cons (c2_pure tk0 ce_str) (ca2_cons (c2_pure tk0 (ce_var 5)) (ca2_cons (c2_callI (i := 0) D__law_integer hr (by first | decide | omega) tk0 (by rfl) (ca2_cons (c2_pure tk0 (ce_var 1)) ca2_nil) rfl (by first | exact .inl rfl | exact .inr (.inl rfl) | exact .inr (.inr rfl)) (by decide) (by decide)) ca2_nil)))))) css2_nil) (css2_cons (cs2_if tk0 (ct_cmp (bin_eq hr.units) (CE.cb (ce_var 4)) (CE.cb ce_int)) (css2_one (cs2_ret2 (ce2_tup (ca2_cons (c2_pure tk0 ce_str) (ca2_cons (c2_pure tk0 (ce_var 5)) (ca2_cons (c2_pure tk0 (ce_var 6)) (ca2_cons (c2_callI (i := 0) D__law_integer hr (by first | decide | omega) tk0 (by rfl) (ca2_cons (c2_pure tk0 (ce_var 1)) ca2_nil) rfl (by first | exact .inl rfl | exact .inr (.inl rfl) | exact .inr (.inr rfl)) (by decide) (by decide)) ca2_nil))))))) css2_nil) (css2_cons (cs2_if tk0 (ct_cmp bin_lt (CE.cb (ce_var 4)) (CE.cb ce_int)) (css2_one (cs2_ret tk0 (ce_tup (ca_cons ce_str (ca_cons (ce_var 5) (ca_cons (ce_var 6) ca_nil)))))) css2_nil) (css2_one (cs2_ret tk0 (ce_ix (CL.ce (cl_lst (ca_cons (ce_tup (ca_cons ce_str (ca_cons (ce_var 5) ca_nil))) (ca_cons (ce_tup (ca_cons ce_str (ca_cons (ce_var 5) ca_nil))) ca_nil)))) (ce_op bin_sub (ce_var 4) ce_int))))))))))))
theorem ok__law_inputs {f : Addr} {fd : FuncData} (Fn : Fun K "_law_inputs" "_law_inputs" s__law_inputs f fd) (hb : Binds K fd ["stream", "width", "count"] []) (hm : mg "_law_inputs" = some (.ref f)) (D__law_integer : DfnI P w K mg base "_law_integer" 2 2 F__law_integer) (D__law_take : DfnI P w K mg base "_law_take" 1 2 F__law_take) (m_range : mg "range" = none) : DfnI P w K mg base "_law_inputs" 3 3 F__law_inputs :=
  dfnI_of (B := B__law_inputs) Fn sc__law_inputs hb hm (fun cdv A outer s H E hr => (css2_cons (cs2_set (j := 3) tk0 sc__law_inputs.nd rfl (by first | exact .inl rfl | exact .inr rfl) (ce_op bin_shl ce_int (ce_op bin_sub (ce_var 1) ce_int)) (by decide)) (css2_cons (cs2_setL (j := 4) tk0 sc__law_inputs.nd rfl (by first | exact .inl rfl | exact .inr rfl) (cl_lst ca_nil) (by decide)) (css2_cons (cs2_for ps0 rfl (ci2_pure tk0 (ci_range1 (ce_var 2) (by rfl) m_range)) (cg_name 5 sc__law_inputs.nd rfl (by first | exact .inl rfl | exact .inr rfl)) (fun j h => by cases h <;> decide) (css2_cons (cs2_set2 (j := 6) sc__law_inputs.nd rfl (by first | exact .inl rfl | exact .inr rfl) (c2_callI (i := 0) D__law_integer hr (by first | decide | omega) tk0 (by rfl) (ca2_cons (c2_pure tk0 (ce_var 1)) ca2_nil) rfl (by first | exact .inl rfl | exact .inr (.inl rfl) | exact .inr (.inr rfl)) (by decide) (by decide)) (by decide)) (css2_cons (cs2_if2 (ct2_cmp (bin_eq hr.units) (c2_callI (i := 0) D__law_take hr (by first | decide | omega) tk0 (by rfl) (ca2_cons (c2_pure tk0 ce_int) ca2_nil) rfl (by first | exact .inl rfl | exact .inr (.inl rfl) | exact .inr (.inr rfl)) (by decide) (by decide)) (c2_pure tk0 ce_int)) (css2_one (cs2_set2 (j := 6) sc__law_inputs.nd rfl (by first | exact .inl rfl | exact .inr rfl) (ce2_ix (ce2_lst (ca2_cons (c2_pure tk0 (ce_var 3)) (ca2_cons (c2_pure tk0 (ce_op bin_sub (ce_un un_negD (ce_var 3)) ce_int)) (ca2_cons (ce2_op bin_add (c2_pure tk0 (ce_var 3)) (c2_callI (i := 0) D__law_take hr (by first | decide | omega) tk0 (by rfl) (ca2_cons (c2_pure tk0 (ce_op bin_pow ce_int ce_int)) ca2_nil) rfl (by first | exact .inl rfl | exact .inr (.inl rfl) | exact .inr (.inr rfl)) (by decide) (by decide))) ca2_nil)))) (c2_callI (i := 0) D__law_take hr (by first | decide | omega) tk0 (by rfl) (ca2_cons (c2_pure tk0 ce_int) ca2_nil) rfl (by first | exact .inl rfl | exact .inr (.inl rfl) | exact .inr (.inr rfl)) (by decide) (by decide))) (by decide))) css2_nil) (css2_one (cs2_app2 (j := 4) rfl (by first | exact .inl rfl | exact .inr (.inl rfl)) (by decide) (by decide) (c2_pure tk0 (ce_var 6))))))) (css2_one (cs2_frz 4 (cs2_ret tk0 (ce_var 4))))))))
theorem ok_law {C_Code : Addr} {fN_Code : Addr} {fdN_Code : FuncData} {f : Addr} {fd : FuncData} (Fn : Fun K "law" "law" s_law f fd) (D__law_cell : Dfn P w K mg base "_law_cell" 1 2 F__law_cell) (D__law_inputs : DfnI P w K mg base "_law_inputs" 3 3 F__law_inputs) (D__law_machine : Dfn P w K mg base "_law_machine" 1 4 F__law_machine) (D__law_row : DfnI P w K mg base "_law_row" 3 4 F__law_row) (D__law_same : Dfn P w K mg base "_law_same" 20 2 (F__law_same RD)) (D__law_stream : DfnN P w K mg base "_law_stream" 1 1 F__law_stream) (D__law_take : DfnI P w K mg base "_law_take" 1 2 F__law_take) (D__law_width : DfnI P w K mg base "_law_width" 2 1 F__law_width) (D_check_code : DfnO P w K mg base "check_code" "Code" 5 0 F_check_code) (D_run_code : DfnO P w K mg base "run_code" "Code" 3 1 F_run_code) (m_list : mg "list" = none) (m_range : mg "range" = none) (m_tuple : mg "tuple" = none) (o_Code : ObC K "Code" C_Code) (na_Code_inputs : NoAttr K C_Code "inputs") (na_Code_instructions : NoAttr K C_Code "instructions") (na_Code_registers : NoAttr K C_Code "registers") (na_Code_width : NoAttr K C_Code "width") (mC_Code : mg "Code" = some (.ref C_Code)) (Mk_Code : Mk K C_Code fN_Code) (FI_Code : FnOk P w K mg base (L2.CX P w) 1 fN_Code fdN_Code ["self", "width", "inputs", "registers", "instructions"] (spI4 C_Code "width" "inputs" "registers" "instructions")) (bI_Code : Binds K fdN_Code ["self", "width", "inputs", "registers", "instructions"] []) : FnOk P w K mg base (L2.CX P w) 21 f fd ["script"] (spD K mg 1 F_law) :=
  okD Fn sc_law B_law fun cdv A outer s H E hr => (by refine css_cons ?_ ?_; exact (cs_setL (i := 1) sc_law.nd rfl (by first | exact .inl rfl | exact .inr rfl) (c_callN D__law_stream hr (by first | decide | omega) tk0 (by rfl) (ca_cons (c_call D__law_cell hr (by first | decide | omega) tk0 (by rfl) (ca_cons (ce_var 0) (ca_cons ce_int ca_nil))) ca_nil))); refine css_cons ?_ ?_; exact (cs_set2 (i := 2) sc_law.nd rfl (by first | exact .inl rfl | exact .inr rfl) (c2_callI (i := 1) D__law_width hr (by first | decide | omega) tk0 (by rfl) ca2_nil rfl (by first | exact .inl rfl | exact .inr (.inl rfl) | exact .inr (.inr rfl)) (by decide) (by decide))); refine css_cons ?_ ?_; exact (cs_set2 (i := 3) sc_law.nd rfl (by first | exact .inl rfl | exact .inr rfl) (ce2_op bin_add (c2_pure tk0 ce_int) (c2_callI (i := 1) D__law_take hr (by first | decide | omega) tk0 (by rfl) (ca2_cons (c2_pure tk0 ce_int) ca2_nil) rfl (by first | exact .inl rfl | exact .inr (.inl rfl) | exact .inr (.inr rfl)) (by decide) (by decide)))); refine css_cons ?_ ?_; exact (cs_set2 (i := 4) sc_law.nd rfl (by first | exact .inl rfl | exact .inr rfl) (ce2_op bin_add (c2_pure tk0 ce_int) (c2_callI (i := 1) D__law_take hr (by first | decide | omega) tk0 (by rfl) (ca2_cons (c2_pure tk0 ce_int) ca2_nil) rfl (by first | exact .inl rfl | exact .inr (.inl rfl) | exact .inr (.inr rfl)) (by decide) (by decide)))); refine css_cons ?_ ?_; exact (cs_set2 (i := 5) sc_law.nd rfl (by first | exact .inl rfl | exact .inr rfl) (c2_callI (i := 1) D__law_inputs hr (by first | decide | omega) tk0 (by rfl) (ca2_cons (c2_pure tk0 (ce_var 2)) (ca2_cons (c2_pure tk0 (ce_var 3)) ca2_nil)) rfl (by first | exact .inl rfl | exact .inr (.inl rfl) | exact .inr (.inr rfl)) (by decide) (by decide))); refine css_cons ?_ ?_; exact (cs_setC (own := [("k", 11)]) (i := 6) rfl sc_law.nd rfl rfl (sw_true rfl rfl rfl (by decide +kernel)) (blkOk_by (own := [("k", 11)]) (N := ["script", "stream", "width", "inputs", "registers", "given", "rows", "cell", "code", "due", "passed", "k"]) (sc := defScope (topS 31)) (by decide +kernel)) (ci_range1 (ce_var 3) (by rfl) m_range) (fun _ _ _ _ _ => (cg_name 11 sc_law.nd rfl (by first | exact .inl rfl | exact .inr rfl))) (by decide) (fun _ _ _ _ _ => cts_nil) (fun _ _ _ _ _ => (ce_tup (ca_cons ce_str (ca_cons (ce_op bin_mod (ce_var 11) (ce_var 4)) (ca_cons (ce_var 11) ca_nil)))))); refine css_cons ?_ ?_; refine cs_for ps0 rfl ?_ (cg_name 7 sc_law.nd rfl (by first | exact .inl rfl | exact .inr rfl)) ?_; exact (ci_seq (ce_slice (ce_var 0) (co_some ce_int) (co_some ce_int))); refine css_one ?_; exact (cs_app2 (i := 6) rfl (by first | exact .inl rfl | exact .inr (.inl rfl)) (by decide) (by decide) (c2_callL D__law_row hr (by first | decide | omega) tk0 (by rfl) (c_callN D__law_stream hr (by first | decide | omega) tk0 (by rfl) (ca_cons (ce_var 7) ca_nil)) (ca_cons (ce_var 2) (ca_cons (ce_var 3) (ca_cons (ce_var 4) ca_nil))))); refine css_cons ?_ ?_; exact (cs_mk4 o_Code Mk_Code FI_Code hr (by first | decide | omega) (by rfl) mC_Code bI_Code sc_law.nd rfl (by first | exact .inl rfl | exact .inr rfl) (ca_cons (ce_var 2) (ca_cons (ce_var 3) (ca_cons (ce_var 4) (ca_cons (ce_tupleO 6 (by rfl) m_tuple) ca_nil))))); refine css_cons ?_ ?_; refine cs_if ?_ ?_ ?_; exact (ct_cmp bin_isn (CE.cb (c_callO (i := 8) D_check_code hr (by first | decide | omega) tk0 (by rfl) rfl (by first | exact .inl rfl | exact .inr (.inl rfl) | exact .inr (.inr rfl)) ca_nil)) (CE.cb ce_non)); refine css_one ?_; refine cs_ret ?_; exact ce_bl; exact css_nil; refine css_cons ?_ ?_; refine cs_set (i := 9) ?_ ?_ ?_ ?_; exact sc_law.nd; rfl; (first | exact .inl rfl | exact .inr rfl); exact (c_callB D__law_machine hr (by first | decide | omega) (by rfl) (cab_cons (CE.cb (ce_var 2)) (cab_cons (CE.cb (ce_var 4)) (cab_cons (cb_var 6) (cab_cons (CE.cb (ce_var 5)) cab_nil))))); refine css_cons ?_ ?_; refine cs_set (i := 10) ?_ ?_ ?_ ?_; exact sc_law.nd; rfl; (first | exact .inl rfl | exact .inr rfl); refine CL.ce ?_; exact (cl_list (ce_var 5) (by rfl) m_list); refine css_cons ?_ ?_; refine cs_for ps0 rfl ?_ (cg_name 11 sc_law.nd rfl (by first | exact .inl rfl | exact .inr rfl)) ?_; exact (ci_range1 ce_int (by rfl) m_range); refine css_one ?_; refine cs_if ?_ ?_ ?_; exact (CW.ct (cw_or (ct_not (ct_tru (CE.cb (c_call D__law_same hr (by first | exact Nat.le_refl _ | exact Nat.le_add_right _ _ | omega | decide) tk0 (by rfl) (ca_cons (c_callO (i := 8) D_run_code hr (by first | decide | omega) tk0 (by rfl) rfl (by first | exact .inl rfl | exact .inr (.inl rfl) | exact .inr (.inr rfl)) (ca_cons (ce_var 10) ca_nil)) (ca_cons (ce_var 9) ca_nil)))))) (cw_or1 (ct_cmp (bin_ne hr.units) (CE.cb (ce_var 10)) (CE.cb (ce_var 5)))))); refine css_one ?_; refine cs_ret ?_; exact ce_bl; exact css_nil; refine css_cons ?_ ?_; refine cs_if ?_ ?_ ?_; exact (ct_not (ct_tru (CE.cb (c_call D__law_same hr (by first | exact Nat.le_refl _ | exact Nat.le_add_right _ _ | omega | decide) tk0 (by rfl) (ca_cons (c_callO (i := 8) D_run_code hr (by first | decide | omega) tk0 (by rfl) rfl (by first | exact .inl rfl | exact .inr (.inl rfl) | exact .inr (.inr rfl)) (ca_cons (ce_tuple (ce_var 5) (by rfl) m_tuple) ca_nil)) (ca_cons (ce_var 9) ca_nil)))))); refine css_one ?_; refine cs_ret ?_; exact ce_bl; exact css_nil; refine css_one ?_; refine cs_ret ?_; exact (ce_and (ce_cmp (bin_eq hr.units) (CE.cb (ce_fd o_Code na_Code_instructions (i := 8) rfl (by first | exact .inl rfl | exact .inr (.inl rfl) | exact .inr (.inr rfl)))) (CE.cb (ce_tupleO 6 (by rfl) m_tuple))) (ce_and (ce_cmp (bin_eq hr.units) (CE.cb (ce_fd o_Code na_Code_width (i := 8) rfl (by first | exact .inl rfl | exact .inr (.inl rfl) | exact .inr (.inr rfl)))) (CE.cb (ce_var 2))) (ce_and (ce_cmp (bin_eq hr.units) (CE.cb (ce_fd o_Code na_Code_registers (i := 8) rfl (by first | exact .inl rfl | exact .inr (.inl rfl) | exact .inr (.inr rfl)))) (CE.cb (ce_var 4))) (ce_one (ce_cmp (bin_eq hr.units) (CE.cb (ce_fd o_Code na_Code_inputs (i := 8) rfl (by first | exact .inl rfl | exact .inr (.inl rfl) | exact .inr (.inr rfl)))) (CE.cb (ce_var 3))))))))
end
end KM
set_option Elab.async false
set_option linter.all false
set_option maxRecDepth 100000
set_option maxHeartbeats 4000000
namespace KM
open PySem PySem.Spec PyProof.Rows L2 PD
theorem all_mk {P : Program} {w : World} {K : PySem.W.Frag} {h : Heap} {mg : Str → Option Value} {fa : Addr} (X : K.In h) (G : h.Ns mainGlobals mg) (hfa : mg "law" = some (.ref fa))
    {f_is_integer : Addr} {od_is_integer an_is_integer : Option Addr} {sl_is_integer : Array (Option Value)} {oc_is_integer kV_is_integer dc_is_integer pm_is_integer cd_is_integer ct_is_integer : Value}
    {f_is_width : Addr} {od_is_width an_is_width : Option Addr} {sl_is_width : Array (Option Value)} {oc_is_width kV_is_width dc_is_width pm_is_width cd_is_width ct_is_width : Value}
    {f_is_number : Addr} {od_is_number an_is_number : Option Addr} {sl_is_number : Array (Option Value)} {oc_is_number kV_is_number dc_is_number pm_is_number cd_is_number ct_is_number : Value}
    {f_least_fitting : Addr} {od_least_fitting an_least_fitting : Option Addr} {sl_least_fitting : Array (Option Value)} {oc_least_fitting kV_least_fitting dc_least_fitting pm_least_fitting cd_least_fitting ct_least_fitting : Value}
    {f_most_fitting : Addr} {od_most_fitting an_most_fitting : Option Addr} {sl_most_fitting : Array (Option Value)} {oc_most_fitting kV_most_fitting dc_most_fitting pm_most_fitting cd_most_fitting ct_most_fitting : Value}
    {f_fits : Addr} {od_fits an_fits : Option Addr} {sl_fits : Array (Option Value)} {oc_fits kV_fits dc_fits pm_fits cd_fits ct_fits : Value}
    {f_is_part : Addr} {od_is_part an_is_part : Option Addr} {sl_is_part : Array (Option Value)} {oc_is_part kV_is_part dc_is_part pm_is_part cd_is_part ct_is_part : Value}
    {f_is_instruction : Addr} {od_is_instruction an_is_instruction : Option Addr} {sl_is_instruction : Array (Option Value)} {oc_is_instruction kV_is_instruction dc_is_instruction pm_is_instruction cd_is_instruction ct_is_instruction : Value}
    {f_check_code : Addr} {od_check_code an_check_code : Option Addr} {sl_check_code : Array (Option Value)} {oc_check_code kV_check_code dc_check_code pm_check_code cd_check_code ct_check_code : Value}
    {f_becomes : Addr} {od_becomes an_becomes : Option Addr} {sl_becomes : Array (Option Value)} {oc_becomes kV_becomes dc_becomes pm_becomes cd_becomes ct_becomes : Value}
    {f_run_code : Addr} {od_run_code an_run_code : Option Addr} {sl_run_code : Array (Option Value)} {oc_run_code kV_run_code dc_run_code pm_run_code cd_run_code ct_run_code : Value}
    {f__law_cell : Addr} {od__law_cell an__law_cell : Option Addr} {sl__law_cell : Array (Option Value)} {oc__law_cell kV__law_cell dc__law_cell pm__law_cell cd__law_cell ct__law_cell : Value}
    {f__law_stream : Addr} {od__law_stream an__law_stream : Option Addr} {sl__law_stream : Array (Option Value)} {oc__law_stream kV__law_stream dc__law_stream pm__law_stream cd__law_stream ct__law_stream : Value}
    {f__law_take : Addr} {od__law_take an__law_take : Option Addr} {sl__law_take : Array (Option Value)} {oc__law_take kV__law_take dc__law_take pm__law_take cd__law_take ct__law_take : Value}
    {f__law_same : Addr} {od__law_same an__law_same : Option Addr} {sl__law_same : Array (Option Value)} {oc__law_same kV__law_same dc__law_same pm__law_same cd__law_same ct__law_same : Value}
    {f__law_machine : Addr} {od__law_machine an__law_machine : Option Addr} {sl__law_machine : Array (Option Value)} {oc__law_machine kV__law_machine dc__law_machine pm__law_machine cd__law_machine ct__law_machine : Value}
    {f__law_width : Addr} {od__law_width an__law_width : Option Addr} {sl__law_width : Array (Option Value)} {oc__law_width kV__law_width dc__law_width pm__law_width cd__law_width ct__law_width : Value}
    {f__law_integer : Addr} {od__law_integer an__law_integer : Option Addr} {sl__law_integer : Array (Option Value)} {oc__law_integer kV__law_integer dc__law_integer pm__law_integer cd__law_integer ct__law_integer : Value}
    {f__law_row : Addr} {od__law_row an__law_row : Option Addr} {sl__law_row : Array (Option Value)} {oc__law_row kV__law_row dc__law_row pm__law_row cd__law_row ct__law_row : Value}
    {f__law_inputs : Addr} {od__law_inputs an__law_inputs : Option Addr} {sl__law_inputs : Array (Option Value)} {oc__law_inputs kV__law_inputs dc__law_inputs pm__law_inputs cd__law_inputs ct__law_inputs : Value}
    {f_law : Addr} {od_law an_law : Option Addr} {sl_law : Array (Option Value)} {oc_law kV_law dc_law pm_law cd_law ct_law : Value}
    {t_LEAST_WIDTH : Tok}
    {t_MOST_PLACES : Tok}
    {t_MOST_WIDTH : Tok}
    {t_PARTS_0_0 : Tok}
    {t_PARTS_0_1 : Tok}
    {C_PARTS_0 : Addr} {dC_PARTS_0 : Option Addr} {mC_PARTS_0 : Nat} {qC_PARTS_0 : Array (Option Value)}
    {t_PARTS_1_0 : Tok}
    {t_PARTS_1_1 : Tok}
    {C_PARTS_1 : Addr} {dC_PARTS_1 : Option Addr} {mC_PARTS_1 : Nat} {qC_PARTS_1 : Array (Option Value)}
    {t_PARTS_2_0 : Tok}
    {t_PARTS_2_1 : Tok}
    {C_PARTS_2 : Addr} {dC_PARTS_2 : Option Addr} {mC_PARTS_2 : Nat} {qC_PARTS_2 : Array (Option Value)}
    {t_PARTS_3_0 : Tok}
    {t_PARTS_3_1 : Tok}
    {C_PARTS_3 : Addr} {dC_PARTS_3 : Option Addr} {mC_PARTS_3 : Nat} {qC_PARTS_3 : Array (Option Value)}
    {t_PARTS_4_0 : Tok}
    {t_PARTS_4_1 : Tok}
    {C_PARTS_4 : Addr} {dC_PARTS_4 : Option Addr} {mC_PARTS_4 : Nat} {qC_PARTS_4 : Array (Option Value)}
    {t_PARTS_5_0 : Tok}
    {t_PARTS_5_1 : Tok}
    {C_PARTS_5 : Addr} {dC_PARTS_5 : Option Addr} {mC_PARTS_5 : Nat} {qC_PARTS_5 : Array (Option Value)}
    {C_PARTS : Addr} {dC_PARTS : Option Addr} {mC_PARTS : Nat} {qC_PARTS : Array (Option Value)}
    {C_Code fN_Code : Addr} {ocN_Code kVN_Code dcN_Code pmN_Code cdN_Code ctN_Code : Value} {odN_Code anN_Code : Option Addr} {slN_Code : Array (Option Value)}
    (a_is_integer : PySem.W.nsIn K mainGlobals "is_integer" = some (some (.ref f_is_integer)))
    (l_is_integer : K.lookup f_is_integer = some ⟨oc_is_integer, od_is_integer, .func (PySem.W.fnOf "is_integer" "is_integer" (defArgs s_is_integer) (defBody s_is_integer) (defScope s_is_integer) .none kV_is_integer dc_is_integer pm_is_integer an_is_integer cd_is_integer ct_is_integer), sl_is_integer⟩)
    (c_is_integer : PySem.W.codeIn K cd_is_integer "is_integer" = true)
    (k_is_integer : PySem.W.keepIn K (.ref f_is_integer) = true)
    (a_is_width : PySem.W.nsIn K mainGlobals "is_width" = some (some (.ref f_is_width)))
    (l_is_width : K.lookup f_is_width = some ⟨oc_is_width, od_is_width, .func (PySem.W.fnOf "is_width" "is_width" (defArgs s_is_width) (defBody s_is_width) (defScope s_is_width) .none kV_is_width dc_is_width pm_is_width an_is_width cd_is_width ct_is_width), sl_is_width⟩)
    (c_is_width : PySem.W.codeIn K cd_is_width "is_width" = true)
    (k_is_width : PySem.W.keepIn K (.ref f_is_width) = true)
    (a_is_number : PySem.W.nsIn K mainGlobals "is_number" = some (some (.ref f_is_number)))
    (l_is_number : K.lookup f_is_number = some ⟨oc_is_number, od_is_number, .func (PySem.W.fnOf "is_number" "is_number" (defArgs s_is_number) (defBody s_is_number) (defScope s_is_number) .none kV_is_number dc_is_number pm_is_number an_is_number cd_is_number ct_is_number), sl_is_number⟩)
    (c_is_number : PySem.W.codeIn K cd_is_number "is_number" = true)
    (k_is_number : PySem.W.keepIn K (.ref f_is_number) = true)
    (a_least_fitting : PySem.W.nsIn K mainGlobals "least_fitting" = some (some (.ref f_least_fitting)))
    (l_least_fitting : K.lookup f_least_fitting = some ⟨oc_least_fitting, od_least_fitting, .func (PySem.W.fnOf "least_fitting" "least_fitting" (defArgs s_least_fitting) (defBody s_least_fitting) (defScope s_least_fitting) .none kV_least_fitting dc_least_fitting pm_least_fitting an_least_fitting cd_least_fitting ct_least_fitting), sl_least_fitting⟩)
    (c_least_fitting : PySem.W.codeIn K cd_least_fitting "least_fitting" = true)
    (k_least_fitting : PySem.W.keepIn K (.ref f_least_fitting) = true)
    (a_most_fitting : PySem.W.nsIn K mainGlobals "most_fitting" = some (some (.ref f_most_fitting)))
    (l_most_fitting : K.lookup f_most_fitting = some ⟨oc_most_fitting, od_most_fitting, .func (PySem.W.fnOf "most_fitting" "most_fitting" (defArgs s_most_fitting) (defBody s_most_fitting) (defScope s_most_fitting) .none kV_most_fitting dc_most_fitting pm_most_fitting an_most_fitting cd_most_fitting ct_most_fitting), sl_most_fitting⟩)
    (c_most_fitting : PySem.W.codeIn K cd_most_fitting "most_fitting" = true)
    (k_most_fitting : PySem.W.keepIn K (.ref f_most_fitting) = true)
    (a_fits : PySem.W.nsIn K mainGlobals "fits" = some (some (.ref f_fits)))
    (l_fits : K.lookup f_fits = some ⟨oc_fits, od_fits, .func (PySem.W.fnOf "fits" "fits" (defArgs s_fits) (defBody s_fits) (defScope s_fits) .none kV_fits dc_fits pm_fits an_fits cd_fits ct_fits), sl_fits⟩)
    (c_fits : PySem.W.codeIn K cd_fits "fits" = true)
    (k_fits : PySem.W.keepIn K (.ref f_fits) = true)
    (a_is_part : PySem.W.nsIn K mainGlobals "is_part" = some (some (.ref f_is_part)))
    (l_is_part : K.lookup f_is_part = some ⟨oc_is_part, od_is_part, .func (PySem.W.fnOf "is_part" "is_part" (defArgs s_is_part) (defBody s_is_part) (defScope s_is_part) .none kV_is_part dc_is_part pm_is_part an_is_part cd_is_part ct_is_part), sl_is_part⟩)
    (c_is_part : PySem.W.codeIn K cd_is_part "is_part" = true)
    (k_is_part : PySem.W.keepIn K (.ref f_is_part) = true)
    (a_is_instruction : PySem.W.nsIn K mainGlobals "is_instruction" = some (some (.ref f_is_instruction)))
    (l_is_instruction : K.lookup f_is_instruction = some ⟨oc_is_instruction, od_is_instruction, .func (PySem.W.fnOf "is_instruction" "is_instruction" (defArgs s_is_instruction) (defBody s_is_instruction) (defScope s_is_instruction) .none kV_is_instruction dc_is_instruction pm_is_instruction an_is_instruction cd_is_instruction ct_is_instruction), sl_is_instruction⟩)
    (c_is_instruction : PySem.W.codeIn K cd_is_instruction "is_instruction" = true)
    (k_is_instruction : PySem.W.keepIn K (.ref f_is_instruction) = true)
    (a_check_code : PySem.W.nsIn K mainGlobals "check_code" = some (some (.ref f_check_code)))
    (l_check_code : K.lookup f_check_code = some ⟨oc_check_code, od_check_code, .func (PySem.W.fnOf "check_code" "check_code" (defArgs s_check_code) (defBody s_check_code) (defScope s_check_code) .none kV_check_code dc_check_code pm_check_code an_check_code cd_check_code ct_check_code), sl_check_code⟩)
    (c_check_code : PySem.W.codeIn K cd_check_code "check_code" = true)
    (k_check_code : PySem.W.keepIn K (.ref f_check_code) = true)
    (a_becomes : PySem.W.nsIn K mainGlobals "becomes" = some (some (.ref f_becomes)))
    (l_becomes : K.lookup f_becomes = some ⟨oc_becomes, od_becomes, .func (PySem.W.fnOf "becomes" "becomes" (defArgs s_becomes) (defBody s_becomes) (defScope s_becomes) .none kV_becomes dc_becomes pm_becomes an_becomes cd_becomes ct_becomes), sl_becomes⟩)
    (c_becomes : PySem.W.codeIn K cd_becomes "becomes" = true)
    (k_becomes : PySem.W.keepIn K (.ref f_becomes) = true)
    (a_run_code : PySem.W.nsIn K mainGlobals "run_code" = some (some (.ref f_run_code)))
    (l_run_code : K.lookup f_run_code = some ⟨oc_run_code, od_run_code, .func (PySem.W.fnOf "run_code" "run_code" (defArgs s_run_code) (defBody s_run_code) (defScope s_run_code) .none kV_run_code dc_run_code pm_run_code an_run_code cd_run_code ct_run_code), sl_run_code⟩)
    (c_run_code : PySem.W.codeIn K cd_run_code "run_code" = true)
    (k_run_code : PySem.W.keepIn K (.ref f_run_code) = true)
    (a__law_cell : PySem.W.nsIn K mainGlobals "_law_cell" = some (some (.ref f__law_cell)))
    (l__law_cell : K.lookup f__law_cell = some ⟨oc__law_cell, od__law_cell, .func (PySem.W.fnOf "_law_cell" "_law_cell" (defArgs s__law_cell) (defBody s__law_cell) (defScope s__law_cell) .none kV__law_cell dc__law_cell pm__law_cell an__law_cell cd__law_cell ct__law_cell), sl__law_cell⟩)
    (c__law_cell : PySem.W.codeIn K cd__law_cell "_law_cell" = true)
    (k__law_cell : PySem.W.keepIn K (.ref f__law_cell) = true)
    (a__law_stream : PySem.W.nsIn K mainGlobals "_law_stream" = some (some (.ref f__law_stream)))
    (l__law_stream : K.lookup f__law_stream = some ⟨oc__law_stream, od__law_stream, .func (PySem.W.fnOf "_law_stream" "_law_stream" (defArgs s__law_stream) (defBody s__law_stream) (defScope s__law_stream) .none kV__law_stream dc__law_stream pm__law_stream an__law_stream cd__law_stream ct__law_stream), sl__law_stream⟩)
    (c__law_stream : PySem.W.codeIn K cd__law_stream "_law_stream" = true)
    (k__law_stream : PySem.W.keepIn K (.ref f__law_stream) = true)
    (a__law_take : PySem.W.nsIn K mainGlobals "_law_take" = some (some (.ref f__law_take)))
    (l__law_take : K.lookup f__law_take = some ⟨oc__law_take, od__law_take, .func (PySem.W.fnOf "_law_take" "_law_take" (defArgs s__law_take) (defBody s__law_take) (defScope s__law_take) .none kV__law_take dc__law_take pm__law_take an__law_take cd__law_take ct__law_take), sl__law_take⟩)
    (c__law_take : PySem.W.codeIn K cd__law_take "_law_take" = true)
    (k__law_take : PySem.W.keepIn K (.ref f__law_take) = true)
    (a__law_same : PySem.W.nsIn K mainGlobals "_law_same" = some (some (.ref f__law_same)))
    (l__law_same : K.lookup f__law_same = some ⟨oc__law_same, od__law_same, .func (PySem.W.fnOf "_law_same" "_law_same" (defArgs s__law_same) (defBody s__law_same) (defScope s__law_same) .none kV__law_same dc__law_same pm__law_same an__law_same cd__law_same ct__law_same), sl__law_same⟩)
    (c__law_same : PySem.W.codeIn K cd__law_same "_law_same" = true)
    (k__law_same : PySem.W.keepIn K (.ref f__law_same) = true)
    (a__law_machine : PySem.W.nsIn K mainGlobals "_law_machine" = some (some (.ref f__law_machine)))
    (l__law_machine : K.lookup f__law_machine = some ⟨oc__law_machine, od__law_machine, .func (PySem.W.fnOf "_law_machine" "_law_machine" (defArgs s__law_machine) (defBody s__law_machine) (defScope s__law_machine) .none kV__law_machine dc__law_machine pm__law_machine an__law_machine cd__law_machine ct__law_machine), sl__law_machine⟩)
    (c__law_machine : PySem.W.codeIn K cd__law_machine "_law_machine" = true)
    (k__law_machine : PySem.W.keepIn K (.ref f__law_machine) = true)
    (a__law_width : PySem.W.nsIn K mainGlobals "_law_width" = some (some (.ref f__law_width)))
    (l__law_width : K.lookup f__law_width = some ⟨oc__law_width, od__law_width, .func (PySem.W.fnOf "_law_width" "_law_width" (defArgs s__law_width) (defBody s__law_width) (defScope s__law_width) .none kV__law_width dc__law_width pm__law_width an__law_width cd__law_width ct__law_width), sl__law_width⟩)
    (c__law_width : PySem.W.codeIn K cd__law_width "_law_width" = true)
    (k__law_width : PySem.W.keepIn K (.ref f__law_width) = true)
    (a__law_integer : PySem.W.nsIn K mainGlobals "_law_integer" = some (some (.ref f__law_integer)))
    (l__law_integer : K.lookup f__law_integer = some ⟨oc__law_integer, od__law_integer, .func (PySem.W.fnOf "_law_integer" "_law_integer" (defArgs s__law_integer) (defBody s__law_integer) (defScope s__law_integer) .none kV__law_integer dc__law_integer pm__law_integer an__law_integer cd__law_integer ct__law_integer), sl__law_integer⟩)
    (c__law_integer : PySem.W.codeIn K cd__law_integer "_law_integer" = true)
    (k__law_integer : PySem.W.keepIn K (.ref f__law_integer) = true)
    (a__law_row : PySem.W.nsIn K mainGlobals "_law_row" = some (some (.ref f__law_row)))
    (l__law_row : K.lookup f__law_row = some ⟨oc__law_row, od__law_row, .func (PySem.W.fnOf "_law_row" "_law_row" (defArgs s__law_row) (defBody s__law_row) (defScope s__law_row) .none kV__law_row dc__law_row pm__law_row an__law_row cd__law_row ct__law_row), sl__law_row⟩)
    (c__law_row : PySem.W.codeIn K cd__law_row "_law_row" = true)
    (k__law_row : PySem.W.keepIn K (.ref f__law_row) = true)
    (a__law_inputs : PySem.W.nsIn K mainGlobals "_law_inputs" = some (some (.ref f__law_inputs)))
    (l__law_inputs : K.lookup f__law_inputs = some ⟨oc__law_inputs, od__law_inputs, .func (PySem.W.fnOf "_law_inputs" "_law_inputs" (defArgs s__law_inputs) (defBody s__law_inputs) (defScope s__law_inputs) .none kV__law_inputs dc__law_inputs pm__law_inputs an__law_inputs cd__law_inputs ct__law_inputs), sl__law_inputs⟩)
    (c__law_inputs : PySem.W.codeIn K cd__law_inputs "_law_inputs" = true)
    (k__law_inputs : PySem.W.keepIn K (.ref f__law_inputs) = true)
    (a_law : PySem.W.nsIn K mainGlobals "law" = some (some (.ref f_law)))
    (l_law : K.lookup f_law = some ⟨oc_law, od_law, .func (PySem.W.fnOf "law" "law" (defArgs s_law) (defBody s_law) (defScope s_law) .none kV_law dc_law pm_law an_law cd_law ct_law), sl_law⟩)
    (c_law : PySem.W.codeIn K cd_law "law" = true)
    (k_law : PySem.W.keepIn K (.ref f_law) = true)
    (n_all : PySem.W.nsIn K mainGlobals "all" = some none)
    (n_bool : PySem.W.nsIn K mainGlobals "bool" = some none)
    (n_enumerate : PySem.W.nsIn K mainGlobals "enumerate" = some none)
    (n_int : PySem.W.nsIn K mainGlobals "int" = some none)
    (n_isinstance : PySem.W.nsIn K mainGlobals "isinstance" = some none)
    (n_len : PySem.W.nsIn K mainGlobals "len" = some none)
    (n_list : PySem.W.nsIn K mainGlobals "list" = some none)
    (n_max : PySem.W.nsIn K mainGlobals "max" = some none)
    (n_min : PySem.W.nsIn K mainGlobals "min" = some none)
    (n_range : PySem.W.nsIn K mainGlobals "range" = some none)
    (n_str : PySem.W.nsIn K mainGlobals "str" = some none)
    (n_tuple : PySem.W.nsIn K mainGlobals "tuple" = some none)
    (n_zip : PySem.W.nsIn K mainGlobals "zip" = some none)
    (g_LEAST_WIDTH : PySem.W.nsIn K mainGlobals "LEAST_WIDTH" = some (some (.int 2 t_LEAST_WIDTH)))
    (g_MOST_PLACES : PySem.W.nsIn K mainGlobals "MOST_PLACES" = some (some (.int 10000 t_MOST_PLACES)))
    (g_MOST_WIDTH : PySem.W.nsIn K mainGlobals "MOST_WIDTH" = some (some (.int 200 t_MOST_WIDTH)))
    (g_PARTS : PySem.W.nsIn K mainGlobals "PARTS" = some (some (.ref C_PARTS)))
    (h_PARTS : K.lookup C_PARTS = some ⟨.type "tuple", dC_PARTS, .seq #[.ref C_PARTS_0, .ref C_PARTS_1, .ref C_PARTS_2, .ref C_PARTS_3, .ref C_PARTS_4, .ref C_PARTS_5] mC_PARTS, qC_PARTS⟩)
    (h_PARTS_0 : K.lookup C_PARTS_0 = some ⟨.type "tuple", dC_PARTS_0, .seq #[.str "load" t_PARTS_0_0, .str "ri" t_PARTS_0_1] mC_PARTS_0, qC_PARTS_0⟩)
    (h_PARTS_1 : K.lookup C_PARTS_1 = some ⟨.type "tuple", dC_PARTS_1, .seq #[.str "set" t_PARTS_1_0, .str "rn" t_PARTS_1_1] mC_PARTS_1, qC_PARTS_1⟩)
    (h_PARTS_2 : K.lookup C_PARTS_2 = some ⟨.type "tuple", dC_PARTS_2, .seq #[.str "times" t_PARTS_2_0, .str "rrn" t_PARTS_2_1] mC_PARTS_2, qC_PARTS_2⟩)
    (h_PARTS_3 : K.lookup C_PARTS_3 = some ⟨.type "tuple", dC_PARTS_3, .seq #[.str "add" t_PARTS_3_0, .str "rr" t_PARTS_3_1] mC_PARTS_3, qC_PARTS_3⟩)
    (h_PARTS_4 : K.lookup C_PARTS_4 = some ⟨.type "tuple", dC_PARTS_4, .seq #[.str "bend" t_PARTS_4_0, .str "r" t_PARTS_4_1] mC_PARTS_4, qC_PARTS_4⟩)
    (h_PARTS_5 : K.lookup C_PARTS_5 = some ⟨.type "tuple", dC_PARTS_5, .seq #[.str "give" t_PARTS_5_0, .str "r" t_PARTS_5_1] mC_PARTS_5, qC_PARTS_5⟩)
    (Ons_Code : PySem.W.nsIn K mainGlobals "Code" = some (some (.ref C_Code)))
    (Opg_Code : PySem.W.plainGet K C_Code Str.empty = true)
    (Ohd_Code : PySem.W.hasDictIn K C_Code = true)
    (Opo_Code : PySem.W.plainOver K C_Code = true)
    (Osa_Code : PySem.W.findIn K (.ref C_Code) "__setattr__" = some (some (.builtin "object.__setattr__")))
    (Oha_Code : PySem.W.findIn K (.ref C_Code) "__class__" = some (some (.builtin "object.__class__")))
    (Ohn_Code : PySem.W.specialIn K (.builtin "object.__class__") "__get__" = some (some (.builtin "getset_descriptor.__get__")))
    (Oht_Code : PySem.W.takesIn K (.builtin "object.__class__") = some true)
    (Omr_Code : PySem.W.mroIn K C_Code (.type "object") = some true)
    (Ome_Code : PySem.W.kitOne K (.ref C_Code) (.ref C_Code) = some true)
    (Omk_Code : PySem.W.makesIn K C_Code = true)
    (Oin_Code : PySem.W.findIn K (.ref C_Code) "__init__" = some (some (.ref fN_Code)))
    (Ofn_Code : PySem.W.isFn K (.ref fN_Code) = true)
    (Okp_Code : PySem.W.keepIn K (.ref C_Code) = true)
    (Okf_Code : PySem.W.keepIn K (.ref fN_Code) = true)
    (Olk_Code : K.lookup fN_Code = some ⟨ocN_Code, odN_Code, .func (PySem.W.fnOf "__init__" "Code.__init__" (defArgs s_initO_Code) (defBody s_initO_Code) (defScope s_initO_Code) .none kVN_Code dcN_Code pmN_Code anN_Code cdN_Code ctN_Code), slN_Code⟩)
    (Oco_Code : PySem.W.codeIn K cdN_Code "Code.__init__" = true)
    (na_Code_width : PySem.W.findIn K (.ref C_Code) "width" = some none)
    (na_Code_inputs : PySem.W.findIn K (.ref C_Code) "inputs" = some none)
    (na_Code_registers : PySem.W.findIn K (.ref C_Code) "registers" = some none)
    (na_Code_instructions : PySem.W.findIn K (.ref C_Code) "instructions" = some none)
    : ∃ fd : FuncData, (∀ (s : Shared) (u : Value), BindsTo s fd ⟨[u], []⟩ [("script", u)]) ∧ ∀ base : Heap, K.In base → base.Ns mainGlobals mg → FnOk P w K mg base (L2.CX P w) 21 fa fd ["script"] (@spLaw ⟨[]⟩ K) := by
  letI tbs : Tbs := ⟨[]⟩
  have e := hfa.symm.trans (PySem.W.mg_of X G a_law)
  cases e
  have U_is_integer := fun_mk (st := s_is_integer) l_is_integer c_is_integer k_is_integer
  have b_is_integer := U_is_integer.binds (ps := ["value"]) fun _ _ _ _ _ _ us hl => match us, hl with | [_], _ => rfl
  have U_is_width := fun_mk (st := s_is_width) l_is_width c_is_width k_is_width
  have b_is_width := U_is_width.binds (ps := ["value"]) fun _ _ _ _ _ _ us hl => match us, hl with | [_], _ => rfl
  have U_is_number := fun_mk (st := s_is_number) l_is_number c_is_number k_is_number
  have b_is_number := U_is_number.binds (ps := ["value"]) fun _ _ _ _ _ _ us hl => match us, hl with | [_], _ => rfl
  have U_least_fitting := fun_mk (st := s_least_fitting) l_least_fitting c_least_fitting k_least_fitting
  have b_least_fitting := U_least_fitting.binds (ps := ["width"]) fun _ _ _ _ _ _ us hl => match us, hl with | [_], _ => rfl
  have U_most_fitting := fun_mk (st := s_most_fitting) l_most_fitting c_most_fitting k_most_fitting
  have b_most_fitting := U_most_fitting.binds (ps := ["width"]) fun _ _ _ _ _ _ us hl => match us, hl with | [_], _ => rfl
  have U_fits := fun_mk (st := s_fits) l_fits c_fits k_fits
  have b_fits := U_fits.binds (ps := ["integer", "width"]) fun _ _ _ _ _ _ us hl => match us, hl with | [_, _], _ => rfl
  have U_is_part := fun_mk (st := s_is_part) l_is_part c_is_part k_is_part
  have b_is_part := U_is_part.binds (ps := ["code", "letter", "value"]) fun _ _ _ _ _ _ us hl => match us, hl with | [_, _, _], _ => rfl
  have U_is_instruction := fun_mk (st := s_is_instruction) l_is_instruction c_is_instruction k_is_instruction
  have b_is_instruction := U_is_instruction.binds (ps := ["code", "value"]) fun _ _ _ _ _ _ us hl => match us, hl with | [_, _], _ => rfl
  have U_check_code := fun_mk (st := s_check_code) l_check_code c_check_code k_check_code
  have b_check_code := U_check_code.binds (ps := ["code"]) fun _ _ _ _ _ _ us hl => match us, hl with | [_], _ => rfl
  have U_becomes := fun_mk (st := s_becomes) l_becomes c_becomes k_becomes
  have b_becomes := U_becomes.binds (ps := ["instruction", "held", "inputs"]) fun _ _ _ _ _ _ us hl => match us, hl with | [_, _, _], _ => rfl
  have U_run_code := fun_mk (st := s_run_code) l_run_code c_run_code k_run_code
  have b_run_code := U_run_code.binds (ps := ["code", "inputs"]) fun _ _ _ _ _ _ us hl => match us, hl with | [_, _], _ => rfl
  have U__law_cell := fun_mk (st := s__law_cell) l__law_cell c__law_cell k__law_cell
  have b__law_cell := U__law_cell.binds (ps := ["script", "k"]) fun _ _ _ _ _ _ us hl => match us, hl with | [_, _], _ => rfl
  have U__law_stream := fun_mk (st := s__law_stream) l__law_stream c__law_stream k__law_stream
  have b__law_stream := U__law_stream.binds (ps := ["cell"]) fun _ _ _ _ _ _ us hl => match us, hl with | [_], _ => rfl
  have U__law_take := fun_mk (st := s__law_take) l__law_take c__law_take k__law_take
  have b__law_take := U__law_take.binds (ps := ["stream", "many"]) fun _ _ _ _ _ _ us hl => match us, hl with | [_, _], _ => rfl
  have U__law_same := fun_mk (st := s__law_same) l__law_same c__law_same k__law_same
  have b__law_same := U__law_same.binds (ps := ["actual", "expected"]) fun _ _ _ _ _ _ us hl => match us, hl with | [_, _], _ => rfl
  have U__law_machine := fun_mk (st := s__law_machine) l__law_machine c__law_machine k__law_machine
  have b__law_machine := U__law_machine.binds (ps := ["width", "registers", "rows", "inputs"]) fun _ _ _ _ _ _ us hl => match us, hl with | [_, _, _, _], _ => rfl
  have U__law_width := fun_mk (st := s__law_width) l__law_width c__law_width k__law_width
  have b__law_width := U__law_width.binds (ps := ["stream"]) fun _ _ _ _ _ _ us hl => match us, hl with | [_], _ => rfl
  have U__law_integer := fun_mk (st := s__law_integer) l__law_integer c__law_integer k__law_integer
  have b__law_integer := U__law_integer.binds (ps := ["stream", "width"]) fun _ _ _ _ _ _ us hl => match us, hl with | [_, _], _ => rfl
  have U__law_row := fun_mk (st := s__law_row) l__law_row c__law_row k__law_row
  have b__law_row := U__law_row.binds (ps := ["stream", "width", "inputs", "registers"]) fun _ _ _ _ _ _ us hl => match us, hl with | [_, _, _, _], _ => rfl
  have U__law_inputs := fun_mk (st := s__law_inputs) l__law_inputs c__law_inputs k__law_inputs
  have b__law_inputs := U__law_inputs.binds (ps := ["stream", "width", "count"]) fun _ _ _ _ _ _ us hl => match us, hl with | [_, _, _], _ => rfl
  have U_law := fun_mk (st := s_law) l_law c_law k_law
  have m_all := PySem.W.mg_none_of X G n_all
  have m_bool := PySem.W.mg_none_of X G n_bool
  have m_enumerate := PySem.W.mg_none_of X G n_enumerate
  have m_int := PySem.W.mg_none_of X G n_int
  have m_isinstance := PySem.W.mg_none_of X G n_isinstance
  have m_len := PySem.W.mg_none_of X G n_len
  have m_list := PySem.W.mg_none_of X G n_list
  have m_max := PySem.W.mg_none_of X G n_max
  have m_min := PySem.W.mg_none_of X G n_min
  have m_range := PySem.W.mg_none_of X G n_range
  have m_str := PySem.W.mg_none_of X G n_str
  have m_tuple := PySem.W.mg_none_of X G n_tuple
  have m_zip := PySem.W.mg_none_of X G n_zip
  have c_LEAST_WIDTH : GInt mg "LEAST_WIDTH" 2 := ⟨_, PySem.W.mg_of X G g_LEAST_WIDTH⟩
  have c_MOST_PLACES : GInt mg "MOST_PLACES" 10000 := ⟨_, PySem.W.mg_of X G g_MOST_PLACES⟩
  have c_MOST_WIDTH : GInt mg "MOST_WIDTH" 200 := ⟨_, PySem.W.mg_of X G g_MOST_WIDTH⟩
  have c_PARTS : GCon K mg "PARTS" (.tuple [(.tuple [(.str "load"), (.str "ri")]), (.tuple [(.str "set"), (.str "rn")]), (.tuple [(.str "times"), (.str "rrn")]), (.tuple [(.str "add"), (.str "rr")]), (.tuple [(.str "bend"), (.str "r")]), (.tuple [(.str "give"), (.str "r")])]) := gcon_of (PySem.W.mg_of X G g_PARTS) (kd_tup h_PARTS rfl rfl (by show 6 ≤ sizeLine; decide) (.cons (kd_tup h_PARTS_0 rfl rfl (by show 2 ≤ sizeLine; decide) (.cons kd_str (.cons kd_str .nil))) (.cons (kd_tup h_PARTS_1 rfl rfl (by show 2 ≤ sizeLine; decide) (.cons kd_str (.cons kd_str .nil))) (.cons (kd_tup h_PARTS_2 rfl rfl (by show 2 ≤ sizeLine; decide) (.cons kd_str (.cons kd_str .nil))) (.cons (kd_tup h_PARTS_3 rfl rfl (by show 2 ≤ sizeLine; decide) (.cons kd_str (.cons kd_str .nil))) (.cons (kd_tup h_PARTS_4 rfl rfl (by show 2 ≤ sizeLine; decide) (.cons kd_str (.cons kd_str .nil))) (.cons (kd_tup h_PARTS_5 rfl rfl (by show 2 ≤ sizeLine; decide) (.cons kd_str (.cons kd_str .nil))) .nil)))))))
  refine ⟨PySem.W.fnOf "law" "law" (defArgs s_law) (defBody s_law) (defScope s_law) .none kV_law dc_law pm_law an_law cd_law ct_law, fun s v => .of_eq rfl, fun base _ _ => ?_⟩
  have o_Code : ObC K "Code" C_Code := ⟨Ons_Code, ⟨Opg_Code, Ohd_Code, Opo_Code, Osa_Code⟩⟩
  have ic_Code : C8.InsC K C_Code := ⟨o_Code.cl, Oha_Code, Ohn_Code, Oht_Code, Omr_Code, Ome_Code⟩
  have mC_Code := PySem.W.mg_of X G Ons_Code
  have Mk_Code : Mk K C_Code fN_Code := ⟨Omk_Code, Oin_Code, Ofn_Code, Okp_Code⟩
  have FI_Code := fnI_Code (P := P) (w := w) (mg := mg) (base := base) Olk_Code Oco_Code o_Code.cl na_Code_width na_Code_inputs na_Code_registers na_Code_instructions
  have bI_Code := (fun_mk (st := s_initO_Code) Olk_Code Oco_Code Okf_Code).binds (ps := ["self", "width", "inputs", "registers", "instructions"]) fun _ _ _ _ _ _ us hl => match us, hl with | [_, _, _, _, _], _ => rfl
  have D_is_integer := ok_is_integer (P := P) (w := w) (base := base) U_is_integer b_is_integer (PySem.W.mg_of X G a_is_integer) m_bool m_int m_isinstance
  have D_is_width := ok_is_width (P := P) (w := w) (base := base) U_is_width b_is_width (PySem.W.mg_of X G a_is_width) D_is_integer c_LEAST_WIDTH c_MOST_WIDTH
  have D_is_number := ok_is_number (P := P) (w := w) (base := base) U_is_number b_is_number (PySem.W.mg_of X G a_is_number) D_is_integer c_MOST_PLACES
  have D_least_fitting := ok_least_fitting (P := P) (w := w) (base := base) U_least_fitting b_least_fitting (PySem.W.mg_of X G a_least_fitting) 
  have D_most_fitting := ok_most_fitting (P := P) (w := w) (base := base) U_most_fitting b_most_fitting (PySem.W.mg_of X G a_most_fitting) 
  have D_fits := ok_fits (P := P) (w := w) (base := base) U_fits b_fits (PySem.W.mg_of X G a_fits) D_least_fitting D_most_fitting
  have D_is_part := ok_is_part (P := P) (w := w) (base := base) U_is_part b_is_part (PySem.W.mg_of X G a_is_part) D_fits D_is_integer o_Code na_Code_inputs na_Code_registers na_Code_width
  have D_is_instruction := ok_is_instruction (P := P) (w := w) (base := base) U_is_instruction b_is_instruction (PySem.W.mg_of X G a_is_instruction) D_is_part m_all m_isinstance m_len m_tuple m_zip c_PARTS
  have D_check_code := ok_check_code (P := P) (w := w) (base := base) U_check_code b_check_code (PySem.W.mg_of X G a_check_code) D_is_instruction D_is_number D_is_width m_enumerate m_isinstance m_tuple o_Code na_Code_inputs na_Code_instructions na_Code_registers na_Code_width ic_Code mC_Code
  have D_becomes := ok_becomes (P := P) (w := w) (base := base) U_becomes b_becomes (PySem.W.mg_of X G a_becomes) m_max
  have D_run_code := ok_run_code (P := P) (w := w) (base := base) U_run_code b_run_code (PySem.W.mg_of X G a_run_code) D_becomes D_fits m_enumerate m_tuple o_Code na_Code_instructions na_Code_registers na_Code_width
  have D__law_cell := ok__law_cell (P := P) (w := w) (base := base) U__law_cell b__law_cell (PySem.W.mg_of X G a__law_cell) m_len
  have D__law_stream := ok__law_stream (P := P) (w := w) (base := base) U__law_stream b__law_stream (PySem.W.mg_of X G a__law_stream) 
  have D__law_take := ok__law_take (P := P) (w := w) (base := base) U__law_take b__law_take (PySem.W.mg_of X G a__law_take) m_int
  have D__law_same := ok__law_same (P := P) (w := w) (base := base) U__law_same b__law_same (PySem.W.mg_of X G a__law_same) m_bool m_int m_isinstance m_len m_range m_str m_tuple RD
  have D__law_machine := ok__law_machine (P := P) (w := w) (base := base) U__law_machine b__law_machine (PySem.W.mg_of X G a__law_machine) m_len m_max m_range m_tuple
  have D__law_width := ok__law_width (P := P) (w := w) (base := base) U__law_width b__law_width (PySem.W.mg_of X G a__law_width) D__law_take
  have D__law_integer := ok__law_integer (P := P) (w := w) (base := base) U__law_integer b__law_integer (PySem.W.mg_of X G a__law_integer) D__law_take m_max m_min
  have D__law_row := ok__law_row (P := P) (w := w) (base := base) U__law_row b__law_row (PySem.W.mg_of X G a__law_row) D__law_integer D__law_take
  have D__law_inputs := ok__law_inputs (P := P) (w := w) (base := base) U__law_inputs b__law_inputs (PySem.W.mg_of X G a__law_inputs) D__law_integer D__law_take m_range
  exact law_of (ok_law U_law D__law_cell D__law_inputs D__law_machine D__law_row D__law_same D__law_stream D__law_take D__law_width D_check_code D_run_code m_list m_range m_tuple o_Code na_Code_inputs na_Code_instructions na_Code_registers na_Code_width mC_Code Mk_Code FI_Code bI_Code) law_true
end KM
open PySem PySem.W PyProof.Rows
set_option maxHeartbeats 0 in
theorem PySem.Challenge.cw_kinkmeasure_k65_runs_of_code_holds : PySem.Challenge.rw_kinkmeasure_k65_runs_of_code.Holds := by
  w_on; o_law; k_head; (case hw => w_witness2)
  k_fill
  refine L2.walk_ofB (l := PySem.Challenge.rw_kinkmeasure_k65_runs_of_code) (n := 63) (k := 21) (x := "script") (CX := fun w => L2.CX PySem.Challenge.rw_kinkmeasure_k65_runs_of_code.prog w) (sp := fun w => @PD.spLaw ⟨[]⟩ _) rfl (by decide) rfl ⟨rfl, by decide, by decide⟩ (fun w h Y => PySem.W.kIn_of Y) ?F (fun w H a ns hl hb _ hS => ⟨a, ns, rfl, (fun _ z => nomatch z), hS, hl, hb, fun _ => rfl⟩) (fun w H s e s' h => by obtain ⟨_, _, _, _, _, _, z⟩ := h; exact z.2.2.2.2.2.2)
  case F =>
    intro w mg fa h KX G hmg
    refine' KM.all_mk KX G hmg ?a_is_integer ?l_is_integer ?c_is_integer ?k_is_integer ?a_is_width ?l_is_width ?c_is_width ?k_is_width ?a_is_number ?l_is_number ?c_is_number ?k_is_number ?a_least_fitting ?l_least_fitting ?c_least_fitting ?k_least_fitting ?a_most_fitting ?l_most_fitting ?c_most_fitting ?k_most_fitting ?a_fits ?l_fits ?c_fits ?k_fits ?a_is_part ?l_is_part ?c_is_part ?k_is_part ?a_is_instruction ?l_is_instruction ?c_is_instruction ?k_is_instruction ?a_check_code ?l_check_code ?c_check_code ?k_check_code ?a_becomes ?l_becomes ?c_becomes ?k_becomes ?a_run_code ?l_run_code ?c_run_code ?k_run_code ?a__law_cell ?l__law_cell ?c__law_cell ?k__law_cell ?a__law_stream ?l__law_stream ?c__law_stream ?k__law_stream ?a__law_take ?l__law_take ?c__law_take ?k__law_take ?a__law_same ?l__law_same ?c__law_same ?k__law_same ?a__law_machine ?l__law_machine ?c__law_machine ?k__law_machine ?a__law_width ?l__law_width ?c__law_width ?k__law_width ?a__law_integer ?l__law_integer ?c__law_integer ?k__law_integer ?a__law_row ?l__law_row ?c__law_row ?k__law_row ?a__law_inputs ?l__law_inputs ?c__law_inputs ?k__law_inputs ?a_law ?l_law ?c_law ?k_law ?n_all ?n_bool ?n_enumerate ?n_int ?n_isinstance ?n_len ?n_list ?n_max ?n_min ?n_range ?n_str ?n_tuple ?n_zip ?g_LEAST_WIDTH ?g_MOST_PLACES ?g_MOST_WIDTH ?g_PARTS ?h_PARTS ?h_PARTS_0 ?h_PARTS_1 ?h_PARTS_2 ?h_PARTS_3 ?h_PARTS_4 ?h_PARTS_5 ?Ons_Code ?Opg_Code ?Ohd_Code ?Opo_Code ?Osa_Code ?Oha_Code ?Ohn_Code ?Oht_Code ?Omr_Code ?Ome_Code ?Omk_Code ?Oin_Code ?Ofn_Code ?Okp_Code ?Okf_Code ?Olk_Code ?Oco_Code ?na_Code_width ?na_Code_inputs ?na_Code_registers ?na_Code_instructions
    case a_is_integer => k_is
    case l_is_integer => k_is
    case c_is_integer => k_is
    case k_is_integer => k_is
    case a_is_width => k_is
    case l_is_width => k_is
    case c_is_width => k_is
    case k_is_width => k_is
    case a_is_number => k_is
    case l_is_number => k_is
    case c_is_number => k_is
    case k_is_number => k_is
    case a_least_fitting => k_is
    case l_least_fitting => k_is
    case c_least_fitting => k_is
    case k_least_fitting => k_is
    case a_most_fitting => k_is
    case l_most_fitting => k_is
    case c_most_fitting => k_is
    case k_most_fitting => k_is
    case a_fits => k_is
    case l_fits => k_is
    case c_fits => k_is
    case k_fits => k_is
    case a_is_part => k_is
    case l_is_part => k_is
    case c_is_part => k_is
    case k_is_part => k_is
    case a_is_instruction => k_is
    case l_is_instruction => k_is
    case c_is_instruction => k_is
    case k_is_instruction => k_is
    case a_check_code => k_is
    case l_check_code => k_is
    case c_check_code => k_is
    case k_check_code => k_is
    case a_becomes => k_is
    case l_becomes => k_is
    case c_becomes => k_is
    case k_becomes => k_is
    case a_run_code => k_is
    case l_run_code => k_is
    case c_run_code => k_is
    case k_run_code => k_is
    case a__law_cell => k_is
    case l__law_cell => k_is
    case c__law_cell => k_is
    case k__law_cell => k_is
    case a__law_stream => k_is
    case l__law_stream => k_is
    case c__law_stream => k_is
    case k__law_stream => k_is
    case a__law_take => k_is
    case l__law_take => k_is
    case c__law_take => k_is
    case k__law_take => k_is
    case a__law_same => k_is
    case l__law_same => k_is
    case c__law_same => k_is
    case k__law_same => k_is
    case a__law_machine => k_is
    case l__law_machine => k_is
    case c__law_machine => k_is
    case k__law_machine => k_is
    case a__law_width => k_is
    case l__law_width => k_is
    case c__law_width => k_is
    case k__law_width => k_is
    case a__law_integer => k_is
    case l__law_integer => k_is
    case c__law_integer => k_is
    case k__law_integer => k_is
    case a__law_row => k_is
    case l__law_row => k_is
    case c__law_row => k_is
    case k__law_row => k_is
    case a__law_inputs => k_is
    case l__law_inputs => k_is
    case c__law_inputs => k_is
    case k__law_inputs => k_is
    case a_law => k_is
    case l_law => k_is
    case c_law => k_is
    case k_law => k_is
    case n_all => k_is
    case n_bool => k_is
    case n_enumerate => k_is
    case n_int => k_is
    case n_isinstance => k_is
    case n_len => k_is
    case n_list => k_is
    case n_max => k_is
    case n_min => k_is
    case n_range => k_is
    case n_str => k_is
    case n_tuple => k_is
    case n_zip => k_is
    case g_LEAST_WIDTH => k_is
    case g_MOST_PLACES => k_is
    case g_MOST_WIDTH => k_is
    case g_PARTS => k_is
    case h_PARTS => k_is
    case h_PARTS_0 => k_is
    case h_PARTS_1 => k_is
    case h_PARTS_2 => k_is
    case h_PARTS_3 => k_is
    case h_PARTS_4 => k_is
    case h_PARTS_5 => k_is
    case Ons_Code => first | k_is | rfl | kernel_rfl | decide +kernel
    case Opg_Code => first | k_is | rfl | kernel_rfl | decide +kernel
    case Ohd_Code => first | k_is | rfl | kernel_rfl | decide +kernel
    case Opo_Code => first | k_is | rfl | kernel_rfl | decide +kernel
    case Osa_Code => first | k_is | rfl | kernel_rfl | decide +kernel
    case Oha_Code => first | k_is | rfl | kernel_rfl | decide +kernel
    case Ohn_Code => first | k_is | rfl | kernel_rfl | decide +kernel
    case Oht_Code => first | k_is | rfl | kernel_rfl | decide +kernel
    case Omr_Code => first | k_is | rfl | kernel_rfl | decide +kernel
    case Ome_Code => first | k_is | rfl | kernel_rfl | decide +kernel
    case Omk_Code => first | k_is | rfl | kernel_rfl | decide +kernel
    case Oin_Code => first | k_is | rfl | kernel_rfl | decide +kernel
    case Ofn_Code => first | k_is | rfl | kernel_rfl | decide +kernel
    case Okp_Code => first | k_is | rfl | kernel_rfl | decide +kernel
    case Okf_Code => first | k_is | rfl | kernel_rfl | decide +kernel
    case Olk_Code => first | k_is | rfl | kernel_rfl | decide +kernel
    case Oco_Code => first | k_is | rfl | kernel_rfl | decide +kernel
    case na_Code_width => first | k_is | rfl | kernel_rfl | decide +kernel
    case na_Code_inputs => first | k_is | rfl | kernel_rfl | decide +kernel
    case na_Code_registers => first | k_is | rfl | kernel_rfl | decide +kernel
    case na_Code_instructions => first | k_is | rfl | kernel_rfl | decide +kernel

