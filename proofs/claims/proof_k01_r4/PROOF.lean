import PyProof.Rows.All
import Wide.All
import OpenK.AllK
import Wide.FinOn
import HandS.ForMost
import HandS.ForExc
import HandS.Gcd
import HandS.Wide
import HandS.TupAny
import HandS.TupMul
import HandS.IsInst
import HandS.Defaults
import HandS.AnyAll
import HandS.Style
import HandS.Zip
import HandS.EndBits
import HandS.Small
import HandS.ExcIs
import HandS.ExcField
import PySem.Challenge.RW_kinkmeasure_k01_arithmetic_is_exact
set_option Elab.async false
set_option linter.all false
set_option maxRecDepth 100000
set_option maxHeartbeats 4000000
/-! A layer of values without a heap: what an expression is worth, what a statement does, as plain functions. -/
namespace PD
open PySem PySem.Spec PyProof.Rows L2

/-! ### outcomes -/
abbrev Flds := List (Str × PyData)
inductive RO (α : Type) where
  | ok (a : α)
  | er (c : Str) (fl : Flds)
  | no
def RO.bind {α β : Type} (r : RO α) (f : α → RO β) : RO β := match r with
  | .ok a => f a
  | .er c fl => .er c fl
  | .no => .no
instance : Monad RO where
  pure := .ok
  bind := RO.bind
theorem RO.bind_ok {α β : Type} (a : α) (f : α → RO β) : ((RO.ok a) >>= f) = f a := rfl
theorem RO.bind_er {α β : Type} (c : Str) (fl : Flds) (f : α → RO β) : ((RO.er c fl : RO α) >>= f) = .er c fl := rfl
theorem RO.bind_no {α β : Type} (f : α → RO β) : ((RO.no : RO α) >>= f) = .no := rfl
theorem RO.pure_ok {α : Type} (a : α) : (pure a : RO α) = .ok a := rfl

/-- a slot: a value that nobody changes, or a list that this frame alone holds -/
inductive SV where
  | fz (d : PyData)
  | own (ds : List PyData)
abbrev Env := List (Option SV)
abbrev Sg := L2.St
abbrev E := Env → RO PyData
abbrev T := Env → RO Bool
inductive SO where
  | nx (e : Env)
  | rt (d : PyData)
  | bk (e : Env)
  | ct (e : Env)
  | er (e : Env) (c : Str) (fl : Flds)
  | no
abbrev S := Env → SO

/-! ### heaps that grow -/
def Ext (H H' : Hp) : Prop := ∀ a o, H a = some o → H' a = some o ∨ ∃ ps more, o = .tbl ps ∧ H' a = some (.tbl (ps ++ more)) ∧ (TriplesOk ps.toList → TriplesOk (ps ++ more).toList)
theorem Ext.refl (H : Hp) : Ext H H := fun _ _ h => .inl h
theorem Ext.trans {H H1 H2 : Hp} (a : Ext H H1) (b : Ext H1 H2) : Ext H H2 := fun x o h => by
  rcases a x o h with h1 | ⟨ps, more, rfl, h1, t1⟩
  · exact b x o h1
  · rcases b x _ h1 with h2 | ⟨ps2, more2, e, h2, t2⟩
    · exact .inr ⟨ps, more, rfl, h2, t1⟩
    · injection e with e
      subst e
      exact .inr ⟨ps, more ++ more2, rfl, by rw [h2, Array.append_assoc], fun t => by rw [← Array.append_assoc]; exact t2 (t1 t)⟩
theorem Ext.new {H : Hp} {p : Addr} {o : HO} (h : H p = none) : Ext H (upd H p o) := fun a u e => .inl (by
  rw [upd_ne (ne_of_none e h)]
  exact e)
theorem Ext.of_same {H H' : Hp} (h : Same H H') : Ext H H' := fun a o e => .inl (h a o e)
theorem Ext.fresh {H H' : Hp} {p : Addr} (e : Ext H H') (h : H' p = none) : H p = none := by
  cases h1 : H p with
  | none => rfl
  | some o =>
    rcases e p o h1 with h2 | ⟨_, _, _, h2, _⟩ <;> rw [h] at h2 <;> cases h2
theorem Ext.lst {H H' : Hp} (e : Ext H H') {a : Addr} {xs : List V} (h : H a = some (.lst xs)) : H' a = some (.lst xs) := by
  rcases e a _ h with h | ⟨_, _, q, _⟩
  · exact h
  · cases q
theorem Ext.at {H H' : Hp} (e : Ext H H') {a : Addr} {o : HO} (h : H a = some o) (n : ∀ ps, o ≠ .tbl ps) : H' a = some o := by
  rcases e a _ h with h | ⟨ps, _, q, _⟩
  · exact h
  · exact absurd q (n ps)
/-- without the addresses in O -/
def hid (O : List Addr) (H : Hp) : Hp := fun a => if a ∈ O then none else H a
theorem hid_in {O : List Addr} {H : Hp} {a : Addr} (h : a ∈ O) : hid O H a = none := if_pos h
theorem hid_out {O : List Addr} {H : Hp} {a : Addr} (h : a ∉ O) : hid O H a = H a := if_neg h
theorem hid_some {O : List Addr} {H : Hp} {a : Addr} {o : HO} (h : hid O H a = some o) : a ∉ O ∧ H a = some o := by
  unfold hid at h
  split at h
  · cases h
  · exact ⟨by assumption, h⟩
theorem hid_nil {H : Hp} : hid [] H = H := by
  funext a
  exact hid_out (by simp)
theorem Ext.hid {H H' : Hp} (e : Ext H H') (O : List Addr) : Ext (hid O H) (hid O H') := fun a o h => by
  obtain ⟨n, h⟩ := hid_some h
  rw [hid_out n]
  exact e a o h
theorem Ext.unhid {O : List Addr} {H : Hp} : Ext (PD.hid O H) H := fun a o h => .inl (hid_some h).2
theorem Ext.hid_sub {O O' : List Addr} {H : Hp} (h : ∀ a ∈ O', a ∈ O) : Ext (PD.hid O H) (PD.hid O' H) := fun a o e => by
  obtain ⟨n, e⟩ := hid_some e
  exact .inl (by rw [hid_out fun z => n (h a z)]; exact e)
/-- a new address may be hidden -/
theorem Ext.hid_new {O : List Addr} {H : Hp} {p : Addr} {o : HO} (h : H p = none) : Ext (PD.hid O H) (PD.hid (p :: O) (upd H p o)) := fun a u e => by
  obtain ⟨n, e⟩ := hid_some e
  have np : a ≠ p := ne_of_none e h
  refine .inl ?_
  rw [hid_out (by simp [np, n]), upd_ne np]
  exact e
/-- an object that is hidden may change -/
theorem Ext.hid_upd {O : List Addr} {H : Hp} {p : Addr} {o : HO} (h : p ∈ O) : Ext (PD.hid O H) (PD.hid O (upd H p o)) := fun a u e => by
  obtain ⟨n, e⟩ := hid_some e
  have np : a ≠ p := fun z => n (z ▸ h)
  refine .inl ?_
  rw [hid_out n, upd_ne np]
  exact e

section
variable {K : PySem.W.Frag} {H H' : Hp}
theorem Ext.rd (e : Ext H H') {a : Addr} {u : HO} (n : ∀ ps, u ≠ .tbl ps) (h : Rd H a u) : Rd H' a u := by
  rcases h with h | ⟨o, h⟩
  · exact .inl (e.at h n)
  · exact .inr ⟨o, e.at h fun _ => by intro z; cases z⟩
theorem Ext.sl (e : Ext H H') {a : Addr} {xs : List V} (h : SqL K H a xs) : SqL K H' a xs := by
  rcases h with h | h
  · exact .inl (e.rd (fun _ => by intro z; cases z) h)
  · exact .inr h
theorem Ext.st (e : Ext H H') {a : Addr} {xs : List V} (h : SqT K H a xs) : SqT K H' a xs := by
  rcases h with h | h
  · exact .inl (e.rd (fun _ => by intro z; cases z) h)
  · exact .inr h
mutual
theorem Ext.dp (e : Ext H H') : ∀ {d : PyData} {v : V}, Dp K H v d → Dp K H' v d
  | _, _, .non => .non
  | _, _, .bl b => .bl b
  | _, _, .int i => .int i
  | _, _, .str x => .str x
  | _, _, .lst h a => .lst (e.sl h) (Ext.dpa e a)
  | _, _, .tup h a => .tup (e.st h) (Ext.dpa e a)
theorem Ext.dpa (e : Ext H H') : ∀ {ds : List PyData} {vs : List V}, DpAll K H vs ds → DpAll K H' vs ds
  | _, _, .nil => .nil
  | _, _, .cons h t => .cons (Ext.dp e h) (Ext.dpa e t)
end
theorem dpa_len : ∀ {vs : List V} {ds : List PyData}, DpAll K H vs ds → vs.length = ds.length
  | _, _, .nil => rfl
  | _, _, .cons _ t => congrArg Nat.succ (dpa_len t)
theorem dpa_get : ∀ {vs : List V} {ds : List PyData} {i : Nat} {d : PyData}, DpAll K H vs ds → ds[i]? = some d → ∃ v, vs[i]? = some v ∧ Dp K H v d
  | _, _, _, _, .nil, e => by simp at e
  | _, _, 0, _, .cons h _, e => by simp at e; subst e; exact ⟨_, rfl, h⟩
  | _, _, i + 1, _, .cons _ t, e => by
    obtain ⟨v, h1, h2⟩ := dpa_get (i := i) t (by simpa using e)
    exact ⟨v, by simpa using h1, h2⟩
theorem dpa_getV : ∀ {vs : List V} {ds : List PyData} {i : Nat} {v : V}, DpAll K H vs ds → vs[i]? = some v → ∃ d, ds[i]? = some d ∧ Dp K H v d
  | _, _, _, _, .nil, e => by simp at e
  | _, _, 0, _, .cons h _, e => by simp at e; subst e; exact ⟨_, rfl, h⟩
  | _, _, i + 1, _, .cons _ t, e => by
    obtain ⟨v, h1, h2⟩ := dpa_getV (i := i) t (by simpa using e)
    exact ⟨v, by simpa using h1, h2⟩
theorem dpa_app : ∀ {vs ws : List V} {ds es : List PyData}, DpAll K H vs ds → DpAll K H ws es → DpAll K H (vs ++ ws) (ds ++ es)
  | _, _, _, _, .nil, h => h
  | _, _, _, _, .cons h t, k => .cons h (dpa_app t k)
theorem dpa_take : ∀ {vs : List V} {ds : List PyData} (n : Nat), DpAll K H vs ds → DpAll K H (vs.take n) (ds.take n)
  | _, _, 0, _ => .nil
  | _, _, _ + 1, .nil => .nil
  | _, _, n + 1, .cons h t => .cons h (dpa_take n t)
theorem dpa_drop : ∀ {vs : List V} {ds : List PyData} (n : Nat), DpAll K H vs ds → DpAll K H (vs.drop n) (ds.drop n)
  | _, _, 0, h => h
  | _, _, _ + 1, .nil => .nil
  | _, _, n + 1, .cons _ t => dpa_drop n t
theorem dpa_set {v : V} {d : PyData} (h : Dp K H v d) : ∀ {vs : List V} {ds : List PyData} (n : Nat), DpAll K H vs ds → DpAll K H (vs.set n v) (ds.set n d)
  | _, _, _, .nil => .nil
  | _, _, 0, .cons _ t => .cons h t
  | _, _, n + 1, .cons h' t => .cons h' (dpa_set h n t)
theorem dpa_rep {v : V} {d : PyData} (h : Dp K H v d) : ∀ n : Nat, DpAll K H (List.replicate n v) (List.replicate n d)
  | 0 => .nil
  | n + 1 => .cons h (dpa_rep h n)
theorem dp_int {i : Int} {v : V} (h : Dp K H v (.int i)) : v = .int i := by cases h; rfl
theorem dp_str {i : Str} {v : V} (h : Dp K H v (.str i)) : v = .str i := by cases h; rfl
theorem dp_bool {i : Bool} {v : V} (h : Dp K H v (.bool i)) : v = .bl i := by cases h; rfl
theorem dp_none {v : V} (h : Dp K H v .none) : v = .non := by cases h; rfl
theorem dp_tup {ds : List PyData} {v : V} (h : Dp K H v (.tuple ds)) : ∃ a xs, v = .ref a ∧ SqT K H a xs ∧ DpAll K H xs ds := by cases h with | tup a b => exact ⟨_, _, rfl, a, b⟩
theorem dp_lst {ds : List PyData} {v : V} (h : Dp K H v (.list ds)) : ∃ a xs, v = .ref a ∧ SqL K H a xs ∧ DpAll K H xs ds := by cases h with | lst a b => exact ⟨_, _, rfl, a, b⟩
end

/-! ### frames -/
/-- the entry: the heap, what the caller hides -/
structure Zn where
  H0 : Hp
  Oc : List Addr
def SRep (K : PySem.W.Frag) (Oc : List Addr) (H : Hp) (O : List Addr) (v : V) : SV → Prop
  | .fz d => Dp K (hid O H) v d
  | .own ds => ∃ a vs, v = .ref a ∧ a ∈ O ∧ a ∉ Oc ∧ H a = some (.lst vs) ∧ DpAll K (hid O H) vs ds
structure Rep (K : PySem.W.Frag) (Z : Zn) (env : Env) (σ : Sg) (H : Hp) (O : List Addr) : Prop where
  ex : Ext (hid Z.Oc Z.H0) (hid O H)
  sub : ∀ a ∈ Z.Oc, a ∈ O
  kp : ∀ a ∈ Z.Oc, H a = Z.H0 a
  len : env.length = σ.length
  sl : ∀ (i : Nat) (s : SV), env[i]? = some (some s) → ∃ v, σ[i]? = some (some v) ∧ SRep K Z.Oc H O v s
  nd : ∀ (i j : Nat) (a : Addr) (di dj : List PyData), env[i]? = some (some (.own di)) → env[j]? = some (some (.own dj)) → σ[i]? = some (some (.ref a)) → σ[j]? = some (some (.ref a)) → i = j
  lv : ∀ a ∈ O, ∃ vs, H a = some (.lst vs)
section
variable {K : PySem.W.Frag} {Z : Zn} {H H' : Hp} {env : Env} {σ : Sg} {O : List Addr}
theorem SRep.mono {Oc : List Addr} (e : Ext H H') {v : V} : ∀ {s : SV}, SRep K Oc H O v s → SRep K Oc H' O v s
  | .fz _, h => (e.hid O).dp h
  | .own _, ⟨a, vs, h1, h2, h2', h3, h4⟩ => ⟨a, vs, h1, h2, h2', e.lst h3, (e.hid O).dpa h4⟩
theorem Rep.mono (e : Ext H H') (r : Rep K Z env σ H O) : Rep K Z env σ H' O :=
  ⟨r.ex.trans (e.hid O), r.sub, fun a ha => by
    obtain ⟨vs, h⟩ := r.lv a (r.sub a ha)
    rw [e.lst h, ← r.kp a ha, h], r.len, fun i s h => let ⟨v, h1, h2⟩ := r.sl i s h; ⟨v, h1, h2.mono e⟩, r.nd, fun a ha => let ⟨vs, h⟩ := r.lv a ha; ⟨vs, e.lst h⟩⟩
theorem Rep.notin (r : Rep K Z env σ H O) {p : Addr} (h : H p = none) : p ∉ O := fun z => by
  obtain ⟨vs, q⟩ := r.lv p z
  rw [h] at q; cases q
/-- what stood at the entry stands -/
theorem Rep.whole (r : Rep K Z env σ H O) : Ext Z.H0 H := fun a o h => by
  by_cases ha : a ∈ Z.Oc
  · exact .inl (by rw [r.kp a ha]; exact h)
  · have h1 : hid Z.Oc Z.H0 a = some o := by rw [hid_out ha]; exact h
    exact (r.ex.trans Ext.unhid) a o h1
theorem set_some {α : Type} {l : List (Option α)} {i j : Nat} {x : Option α} {s : α} (e : (l.set i x)[j]? = some (some s)) : (j = i ∧ j < l.length ∧ x = some s) ∨ (j ≠ i ∧ l[j]? = some (some s)) := by
  by_cases hj : j = i
  · subst hj
    by_cases z : j < l.length
    · rw [List.getElem?_set_self z] at e
      exact .inl ⟨rfl, z, Option.some.inj e⟩
    · rw [List.getElem?_eq_none (by simpa using z)] at e; cases e
  · rw [List.getElem?_set_ne (Ne.symm hj)] at e
    exact .inr ⟨hj, e⟩
/-- a name is stored -/
theorem Rep.setFz (r : Rep K Z env σ H O) (i : Nat) {v : V} {d : PyData} (h : Dp K (hid O H) v d) : Rep K Z (env.set i (some (.fz d))) (σ.set i (some v)) H O := by
  refine ⟨r.ex, r.sub, r.kp, by simp [r.len], fun j s e => ?_, fun j k a dj dk e1 e2 s1 s2 => ?_, r.lv⟩
  · rcases set_some e with ⟨rfl, hl, e⟩ | ⟨hj, e⟩
    · cases e
      exact ⟨v, List.getElem?_set_self (by rw [← r.len]; exact hl), h⟩
    · obtain ⟨w, h1, h2⟩ := r.sl j s e
      exact ⟨w, by rw [List.getElem?_set_ne (Ne.symm hj)]; exact h1, h2⟩
  · rcases set_some e1 with ⟨_, _, e⟩ | ⟨n1, e1⟩
    · cases e
    rcases set_some e2 with ⟨_, _, e⟩ | ⟨n2, e2⟩
    · cases e
    rw [List.getElem?_set_ne (Ne.symm n1)] at s1
    rw [List.getElem?_set_ne (Ne.symm n2)] at s2
    exact r.nd j k a dj dk e1 e2 s1 s2
theorem Rep.setNone (r : Rep K Z env σ H O) (i : Nat) (x : Option V) : Rep K Z (env.set i none) (σ.set i x) H O := by
  refine ⟨r.ex, r.sub, r.kp, by simp [r.len], fun j s e => ?_, fun j k a dj dk e1 e2 s1 s2 => ?_, r.lv⟩
  · rcases set_some e with ⟨_, _, e⟩ | ⟨hj, e⟩
    · cases e
    obtain ⟨w, h1, h2⟩ := r.sl j s e
    exact ⟨w, by rw [List.getElem?_set_ne (Ne.symm hj)]; exact h1, h2⟩
  · rcases set_some e1 with ⟨_, _, e⟩ | ⟨n1, e1⟩
    · cases e
    rcases set_some e2 with ⟨_, _, e⟩ | ⟨n2, e2⟩
    · cases e
    rw [List.getElem?_set_ne (Ne.symm n1)] at s1
    rw [List.getElem?_set_ne (Ne.symm n2)] at s2
    exact r.nd j k a dj dk e1 e2 s1 s2
/-- a new list of this frame's own is stored -/
theorem Rep.setOwn (r : Rep K Z env σ H O) (i : Nat) {p : Addr} {vs : List V} {ds : List PyData} (hp : H p = none) (h : DpAll K (hid O H) vs ds) : Rep K Z (env.set i (some (.own ds))) (σ.set i (some (.ref p))) (upd H p (.lst vs)) (p :: O) := by
  have np := r.notin hp
  have ex1 : Ext (hid O H) (hid (p :: O) (upd H p (.lst vs))) := Ext.hid_new hp
  have old : ∀ {j : Nat} {a : Addr} {dj : List PyData}, env[j]? = some (some (.own dj)) → σ[j]? = some (some (.ref a)) → a ≠ p := fun {j a dj} e s z => by
    obtain ⟨v, h1, b, ws, rfl, hb, _, h3, _⟩ := r.sl j _ e
    rw [s] at h1
    have e1 : a = b := by injection h1 with h1; injection h1 with h1; injection h1
    rw [← e1, z] at h3
    rw [hp] at h3; cases h3
  refine ⟨r.ex.trans ex1, fun a ha => List.mem_cons_of_mem _ (r.sub a ha), fun a ha => ?_, by simp [r.len], fun j s e => ?_, fun j k a dj dk e1 e2 s1 s2 => ?_, fun a ha => ?_⟩
  · obtain ⟨ws, h3⟩ := r.lv a (r.sub a ha)
    rw [upd_ne (ne_of_none h3 hp)]
    exact r.kp a ha
  · rcases set_some e with ⟨rfl, hl, e⟩ | ⟨hj, e⟩
    · cases e
      exact ⟨.ref p, List.getElem?_set_self (by rw [← r.len]; exact hl), p, vs, rfl, List.mem_cons_self, fun z => np (r.sub p z), upd_same, ex1.dpa h⟩
    · obtain ⟨w, h1, h2⟩ := r.sl j s e
      refine ⟨w, by rw [List.getElem?_set_ne (Ne.symm hj)]; exact h1, ?_⟩
      cases s with
      | fz d => exact ex1.dp h2
      | own dj =>
        obtain ⟨b, ws, e1, hb, hc, h3, h4⟩ := h2
        exact ⟨b, ws, e1, List.mem_cons_of_mem _ hb, hc, by rw [upd_ne (ne_of_none h3 hp)]; exact h3, ex1.dpa h4⟩
  · have own_p : ∀ {j : Nat} {a : Addr}, j < env.length → (σ.set j (some (V.ref p)))[j]? = some (some (V.ref a)) → a = p := fun {j a} hl s => by
      rw [List.getElem?_set_self (by rw [← r.len]; exact hl)] at s
      injection s with s; injection s with s; injection s with s; exact s.symm
    rcases set_some e1 with ⟨rfl, l1, _⟩ | ⟨n1, f1⟩
    · rcases set_some e2 with ⟨rfl, l2, _⟩ | ⟨n2, f2⟩
      · rfl
      · rw [List.getElem?_set_ne (Ne.symm n2)] at s2
        exact absurd (own_p l1 s1) (old f2 s2)
    · rcases set_some e2 with ⟨rfl, l2, _⟩ | ⟨n2, f2⟩
      · rw [List.getElem?_set_ne (Ne.symm n1)] at s1
        exact absurd (own_p l2 s2) (old f1 s1)
      · rw [List.getElem?_set_ne (Ne.symm n1)] at s1
        rw [List.getElem?_set_ne (Ne.symm n2)] at s2
        exact r.nd j k a dj dk f1 f2 s1 s2
  · rcases List.mem_cons.mp ha with e | ha
    · exact ⟨vs, by rw [e, upd_same]⟩
    · obtain ⟨ws, h3⟩ := r.lv a ha
      exact ⟨ws, by rw [upd_ne (ne_of_none h3 hp)]; exact h3⟩
/-- the own list of slot i becomes another -/
theorem Rep.mutOwn (r : Rep K Z env σ H O) {i : Nat} {p : Addr} {vs : List V} {ds0 ds : List PyData} (he : env[i]? = some (some (.own ds0))) (hs : σ[i]? = some (some (.ref p))) (h : DpAll K (hid O H) vs ds) :
    Rep K Z (env.set i (some (.own ds))) σ (upd H p (.lst vs)) O := by
  obtain ⟨v, h1, a, ws, rfl, ha, hc, h3, _⟩ := r.sl i _ he
  rw [hs] at h1
  have e1 : p = a := by injection h1 with h1; injection h1 with h1; injection h1
  subst e1
  have ex1 : Ext (hid O H) (hid O (upd H p (.lst vs))) := Ext.hid_upd ha
  have back : ∀ {j : Nat} {dj : List PyData}, (env.set i (some (.own ds)))[j]? = some (some (.own dj)) → ∃ dj', env[j]? = some (some (.own dj')) := fun {j dj} e => by
    rcases set_some e with ⟨rfl, _, _⟩ | ⟨_, e⟩
    · exact ⟨_, he⟩
    · exact ⟨_, e⟩
  refine ⟨r.ex.trans ex1, r.sub, fun a ha' => ?_, by simp [r.len], fun j s e => ?_, fun j k a dj dk e1 e2 s1 s2 => ?_, fun a ha' => ?_⟩
  · rw [upd_ne (show a ≠ p from fun z => hc (z ▸ ha'))]
    exact r.kp a ha'
  · rcases set_some e with ⟨rfl, _, e⟩ | ⟨hj, e⟩
    · cases e
      exact ⟨.ref p, hs, p, vs, rfl, ha, hc, upd_same, ex1.dpa h⟩
    · obtain ⟨w, h1, h2⟩ := r.sl j s e
      refine ⟨w, h1, ?_⟩
      cases s with
      | fz d => exact ex1.dp h2
      | own dj =>
        obtain ⟨b, ws, e1, hb, hcb, h3', h4⟩ := h2
        refine ⟨b, ws, e1, hb, hcb, ?_, ex1.dpa h4⟩
        have nb : b ≠ p := fun z => hj (r.nd j i p dj ds0 e he (by rw [h1, e1, z]) hs)
        rw [upd_ne nb]
        exact h3'
  · obtain ⟨x1, y1⟩ := back e1
    obtain ⟨x2, y2⟩ := back e2
    exact r.nd j k a x1 x2 y1 y2 s1 s2
  · by_cases z : a = p
    · exact ⟨vs, by rw [z, upd_same]⟩
    · obtain ⟨ws, h3⟩ := r.lv a ha'
      exact ⟨ws, by rw [upd_ne z]; exact h3⟩
/-- the own list of slot i is changed no more -/
theorem Rep.freeze (r : Rep K Z env σ H O) {i : Nat} {ds : List PyData} (he : env[i]? = some (some (.own ds))) : ∃ O', Rep K Z (env.set i (some (.fz (.list ds)))) σ H O' ∧ (∀ a ∈ O', a ∈ O) := by
  obtain ⟨v, h1, p, ws, rfl, ha, hc, h3, h4⟩ := r.sl i _ he
  have sub' : ∀ a ∈ O.filter (fun b => decide (b ≠ p)), a ∈ O := fun a ha => (List.mem_filter.mp ha).1
  have np : p ∉ O.filter (fun b => decide (b ≠ p)) := fun z => by
    have := (List.mem_filter.mp z).2
    simp at this
  have ex1 : Ext (hid O H) (hid (O.filter (fun b => decide (b ≠ p))) H) := Ext.hid_sub sub'
  refine ⟨O.filter (fun b => decide (b ≠ p)), ⟨r.ex.trans ex1, fun a ha' => List.mem_filter.mpr ⟨r.sub a ha', decide_eq_true fun (z : a = p) => hc (z ▸ ha')⟩, r.kp, by simp [r.len], fun j s e => ?_, fun j k a dj dk e1 e2 s1 s2 => ?_, fun a ha' => r.lv a (sub' a ha')⟩, sub'⟩
  · rcases set_some e with ⟨rfl, _, e⟩ | ⟨hj, e⟩
    · cases e
      refine ⟨.ref p, h1, .lst (SqL.of ?_) (ex1.dpa h4)⟩
      rw [hid_out np]
      exact h3
    · obtain ⟨w, h1', h2⟩ := r.sl j s e
      refine ⟨w, h1', ?_⟩
      cases s with
      | fz d => exact ex1.dp h2
      | own dj =>
        obtain ⟨b, ws', e1, hb, hcb, h3', h4'⟩ := h2
        have nb : b ≠ p := fun z => hj (r.nd j i p dj ds e he (by rw [h1', e1, z]) h1)
        exact ⟨b, ws', e1, List.mem_filter.mpr ⟨hb, by simpa using nb⟩, hcb, h3', ex1.dpa h4'⟩
  · rcases set_some e1 with ⟨_, _, e⟩ | ⟨n1, e1⟩
    · cases e
    rcases set_some e2 with ⟨_, _, e⟩ | ⟨n2, e2⟩
    · cases e
    exact r.nd j k a dj dk e1 e2 s1 s2
end
end PD
set_option Elab.async false
set_option linter.all false
set_option maxRecDepth 100000
set_option maxHeartbeats 4000000
namespace PD
open PySem PySem.Spec PyProof.Rows L2

/-! ### the machine's own readings -/
section
variable (X : Cx)
def wpE (e : Expr) : TE := fun σ H Q => ∀ pins s, Inv X pins σ H s → wpAny (model X.prog X.w) X.A (eval e X.env) (EP X pins σ Q) X.xe s
def wpT (e : Expr) : TT := fun σ H Q => ∀ pins s, Inv X pins σ H s → wpAny (model X.prog X.w) X.A (isTrue e X.env (eval e X.env)) (TP X pins σ Q) X.xe s
def wpW (e : Expr) : TT := fun σ H Q => ∀ whole pins s, Inv X pins σ H s → wpAny (model X.prog X.w) X.A (isTrue e X.env whole) (TP X pins σ Q) X.xe s
def wpA (es : List Expr) : TA := fun σ H Q => ∀ pos pins s, Inv X pins σ H s → wpAny (model X.prog X.w) X.A (spliced (backTo pos (starEach es X.env))) (AP X pins σ Q) X.xe s
def wpS (st : Stmt) : TS := fun D σ H => ∀ pins s, Inv X pins σ H s → wpAny (model X.prog X.w) X.A (exec st X.env) (SP X pins D) X.xe s
def wpSs (st : List Stmt) : TS := fun D σ H => ∀ pins s, Inv X pins σ H s → wpAny (model X.prog X.w) X.A (execs st X.env) (SP X pins D) X.xe s
def wpG (tg : Expr) : TG := fun v σ H Q => ∀ pins s u, Inv X pins σ H s → RelV v u → wpAny (model X.prog X.w) X.A (assign tg X.env u) (fun _ s' => ∃ σ' H', Inv X pins σ' H' s' ∧ Q σ' H') X.xe s
def wpI (tg iter : Expr) : TI := fun σ H R => ∀ pins s, Inv X pins σ H s → wpAny (model X.prog X.w) X.A (eval iter X.env) (fun v s1 => wpAny (model X.prog X.w) X.A (pyIter v) (PIE X pins σ tg R) X.xe s1) X.xe s
end
section
variable {X : Cx} {e : Expr} {es : List Expr} {st : Stmt} {sts : List Stmt} {tg iter : Expr}
theorem pe_wp : PE X e (wpE X e) := ⟨fun pins s _ _ _ I h => h pins s I⟩
theorem pt_wp : PT X e (wpT X e) := ⟨fun pins s _ _ _ I h => h pins s I⟩
theorem pw_wp : PW X e (wpW X e) := ⟨fun wh pins s _ _ _ I h => h wh pins s I⟩
theorem pa_wp : PA X es (wpA X es) := ⟨fun pos pins s _ _ _ I h => h pos pins s I⟩
theorem ps_wp : PS X st (wpS X st) := ⟨fun pins s _ _ _ I h => h pins s I⟩
theorem pss_wp : PSs X sts (wpSs X sts) := ⟨fun pins s _ _ _ I h => h pins s I⟩
theorem pg_wp : PG X tg (wpG X tg) := ⟨fun pins s _ _ _ u _ I r h => h pins s u I r⟩
theorem pi_wp : PI X tg iter (wpI X tg iter) := ⟨fun pins s _ _ _ I h => h pins s I⟩
variable {σ : Sg} {H : Hp}
theorem wp_e {t : TE} (p : PE X e t) {Q : VK} (h : t σ H Q) : wpE X e σ H Q := fun pins s I => p.run pins s σ H Q I h
theorem wp_t {t : TT} (p : PT X e t) {Q : Bool → Hp → Prop} (h : t σ H Q) : wpT X e σ H Q := fun pins s I => p.run pins s σ H Q I h
theorem wp_w {t : TT} (p : PW X e t) {Q : Bool → Hp → Prop} (h : t σ H Q) : wpW X e σ H Q := fun wh pins s I => p.run wh pins s σ H Q I h
theorem wp_a {t : TA} (p : PA X es t) {Q : List V → Hp → Prop} (h : t σ H Q) : wpA X es σ H Q := fun pos pins s I => p.run pos pins s σ H Q I h
theorem wp_s {t : TS} (p : PS X st t) {D : Ends} (h : t D σ H) : wpS X st D σ H := fun pins s I => p.run pins s σ H D I h
theorem wp_ss {t : TS} (p : PSs X sts t) {D : Ends} (h : t D σ H) : wpSs X sts D σ H := fun pins s I => p.run pins s σ H D I h
theorem wp_g {t : TG} (p : PG X tg t) {v : V} {Q : L2.St → Hp → Prop} (h : t v σ H Q) : wpG X tg v σ H Q := fun pins s u I r => p.run pins s σ H v u Q I r h
theorem wp_i {t : TI} (p : PI X tg iter t) {R : It → Hp → Prop} (h : t σ H R) : wpI X tg iter σ H R := fun pins s I => p.run pins s σ H R I h
end

/-! ### an exception by its class's name and its fields -/
def ExR (mg : Str → Option Value) (K : PySem.W.Frag) (H : Hp) (c : Str) (fl : Flds) (C : Value) (od : Option Addr) : Prop :=
  mg c = some C ∧ ((fl = [] ∧ od = none) ∨ (fl ≠ [] ∧ ∃ d fs, od = some d ∧ H d = some (.xd fs) ∧ fs.map (·.1) = fl.map (·.1) ∧ DpAll K H (fs.map (·.2)) (fl.map (·.2))))
theorem ExR.mono {mg : Str → Option Value} {K : PySem.W.Frag} {H H' : Hp} {c : Str} {fl : Flds} {C : Value} {od : Option Addr} (e : Ext H H') (h : ExR mg K H c fl C od) : ExR mg K H' c fl C od := by
  refine ⟨h.1, ?_⟩
  rcases h.2 with h | ⟨n, d, fs, e1, e2, e3, e4⟩
  · exact .inl h
  · exact .inr ⟨n, d, fs, e1, e.at e2 (by intro ps z; cases z), e3, e.dpa e4⟩

/-- what an outcome asks -/
def ROk {α : Type} (X : Cx) (W : WX) (σ : Sg) (O : List Addr) (P : α → Hp → Prop) (H : Hp) : RO α → Prop
  | .ok a => ∀ H', Ext H H' → P a H'
  | .er c fl => ∀ C od H', Ext H H' → ExR X.mg X.K (hid O H') c fl C od → W C od σ H'
  | .no => False
theorem ROk.mono {α : Type} {X : Cx} {W : WX} {σ : Sg} {O : List Addr} {P : α → Hp → Prop} {H H' : Hp} (e : Ext H H') : ∀ {r : RO α}, ROk X W σ O P H r → ROk X W σ O P H' r
  | .ok _, h => fun H2 e2 => h H2 (e.trans e2)
  | .er _ _, h => fun C od H2 e2 => h C od H2 (e.trans e2)
  | .no, h => h
/-- a value, its data frozen; a value, its data as they stand -/
def VQ (K : PySem.W.Frag) (O : List Addr) (Q : VK) (d : PyData) (H : Hp) : Prop := ∀ v, Dp K (hid O H) v d → Q v H

def AQ (K : PySem.W.Frag) (O : List Addr) (Q : List V → Hp → Prop) (ds : List PyData) (H : Hp) : Prop := ∀ vs, DpAll K (hid O H) vs ds → Q vs H

def CE (X : Cx) (W : WX) (e : Expr) (f : E) : Prop := ∀ Z env σ H O Q, Rep X.K Z env σ H O → ROk X W σ O (VQ X.K O Q) H (f env) → wpE X e σ H Q
def CB (X : Cx) (W : WX) (e : Expr) (f : E) : Prop := ∀ Z env σ H O Q, Rep X.K Z env σ H O → ROk X W σ O (VQ X.K Z.Oc Q) H (f env) → wpE X e σ H Q
def CT (X : Cx) (W : WX) (e : Expr) (f : T) : Prop := ∀ Z env σ H O Q, Rep X.K Z env σ H O → ROk X W σ O Q H (f env) → wpT X e σ H Q
def CW (X : Cx) (W : WX) (e : Expr) (f : T) : Prop := ∀ Z env σ H O Q, Rep X.K Z env σ H O → ROk X W σ O Q H (f env) → wpW X e σ H Q
def CA (X : Cx) (W : WX) (es : List Expr) (f : Env → RO (List PyData)) : Prop := ∀ Z env σ H O Q, Rep X.K Z env σ H O → ROk X W σ O (AQ X.K O Q) H (f env) → wpA X es σ H Q
/-- a new list that nobody else holds -/
def LQ (K : PySem.W.Frag) (O : List Addr) (Q : VK) (ds : List PyData) (H : Hp) : Prop := ∀ p vs, H p = none → DpAll K (hid O H) vs ds → Q (.ref p) (upd H p (.lst vs))
def CL (X : Cx) (W : WX) (e : Expr) (f : Env → RO (List PyData)) : Prop := ∀ Z env σ H O Q, Rep X.K Z env σ H O → ROk X W σ O (LQ X.K O Q) H (f env) → wpE X e σ H Q

section
variable {X : Cx} {W : WX} {e a b : Expr} {es : List Expr} {f fa fb : E} {Z : Zn} {env : Env} {σ : Sg} {H : Hp} {O : List Addr}
/-- what follows a part -/
theorem ROk.then {α β : Type} {r : RO α} {g : α → RO β} {P : β → Hp → Prop} {P' : α → Hp → Prop} (q : ROk X W σ O P H (r >>= g)) (h : ∀ d H1, r = .ok d → Ext H H1 → ROk X W σ O P H1 (g d) → P' d H1) : ROk X W σ O P' H r := by
  cases r with
  | ok d => exact fun H1 e1 => h d H1 rfl e1 (ROk.mono e1 q)
  | er c fl => exact q
  | no => exact q
theorem CE.go {β : Type} {g : PyData → RO β} {P : β → Hp → Prop} {Q : VK} (h : CE X W e f) (r : Rep X.K Z env σ H O) (q : ROk X W σ O P H (f env >>= g))
    (k : ∀ d v H1, Ext H H1 → Dp X.K (hid O H1) v d → Rep X.K Z env σ H1 O → ROk X W σ O P H1 (g d) → Q v H1) : wpE X e σ H Q :=
  h Z env σ H O Q r (q.then fun d H1 _ e1 q1 v hv => k d v H1 e1 hv (r.mono e1) q1)
theorem CB.go {β : Type} {g : PyData → RO β} {P : β → Hp → Prop} {Q : VK} (h : CB X W e f) (r : Rep X.K Z env σ H O) (q : ROk X W σ O P H (f env >>= g))
    (k : ∀ d v H1, Ext H H1 → Dp X.K (hid Z.Oc H1) v d → Rep X.K Z env σ H1 O → ROk X W σ O P H1 (g d) → Q v H1) : wpE X e σ H Q :=
  h Z env σ H O Q r (q.then fun d H1 _ e1 q1 v hv => k d v H1 e1 hv (r.mono e1) q1)
theorem CT.go {β : Type} {ft : T} {g : Bool → RO β} {P : β → Hp → Prop} {Q : Bool → Hp → Prop} (h : CT X W e ft) (r : Rep X.K Z env σ H O) (q : ROk X W σ O P H (ft env >>= g))
    (k : ∀ d H1, Ext H H1 → Rep X.K Z env σ H1 O → ROk X W σ O P H1 (g d) → Q d H1) : wpT X e σ H Q :=
  h Z env σ H O Q r (q.then fun d H1 _ e1 q1 => k d H1 e1 (r.mono e1) q1)
theorem CW.go {β : Type} {ft : T} {g : Bool → RO β} {P : β → Hp → Prop} {Q : Bool → Hp → Prop} (h : CW X W e ft) (r : Rep X.K Z env σ H O) (q : ROk X W σ O P H (ft env >>= g))
    (k : ∀ d H1, Ext H H1 → Rep X.K Z env σ H1 O → ROk X W σ O P H1 (g d) → Q d H1) : wpW X e σ H Q :=
  h Z env σ H O Q r (q.then fun d H1 _ e1 q1 => k d H1 e1 (r.mono e1) q1)
theorem CA.go {β : Type} {ft : Env → RO (List PyData)} {g : List PyData → RO β} {P : β → Hp → Prop} {Q : List V → Hp → Prop} (h : CA X W es ft) (r : Rep X.K Z env σ H O) (q : ROk X W σ O P H (ft env >>= g))
    (k : ∀ d v H1, Ext H H1 → DpAll X.K (hid O H1) v d → Rep X.K Z env σ H1 O → ROk X W σ O P H1 (g d) → Q v H1) : wpA X es σ H Q :=
  h Z env σ H O Q r (q.then fun d H1 _ e1 q1 v hv => k d v H1 e1 hv (r.mono e1) q1)
/-- the outcome as it stands -/
theorem ROk.self {α : Type} {r : RO α} {P : α → Hp → Prop} (q : ROk X W σ O P H r) : ROk X W σ O P H (r >>= fun x => .ok x) := by
  cases r <;> exact q
theorem ROk.here {α : Type} {x : α} {P : α → Hp → Prop} (q : ROk X W σ O P H (.ok x)) : P x H := q H (Ext.refl H)
theorem CE.cb (h : CE X W e f) : CB X W e f := fun Z env σ H O Q r q => h Z env σ H O Q r (by
  cases hf : f env with
  | ok d => rw [hf] at q; exact fun H1 e1 v hv => q H1 e1 v ((Ext.hid_sub r.sub).dp hv)
  | er c fl => rw [hf] at q; exact q
  | no => rw [hf] at q; exact q)
theorem CE.of_eq (h : CE X W e f) {g : E} (hg : g = f) : CE X W e g := hg ▸ h

/-! ### names, constants -/
def gv (env : Env) (i : Nat) : RO PyData := match env[i]? with
  | some (some (.fz d)) => .ok d
  | _ => .no
def gvo (env : Env) (i : Nat) : RO (List PyData) := match env[i]? with
  | some (some (.own d)) => .ok d
  | _ => .no
def eVar (i : Nat) : E := fun env => gv env i
def eC (d : PyData) : E := fun _ => .ok d
theorem gv_ok {i : Nat} {d : PyData} (h : gv env i = .ok d) : env[i]? = some (some (.fz d)) := by
  unfold gv at h
  split at h
  · cases h; assumption
  · cases h
theorem gvo_ok {i : Nat} {d : List PyData} (h : gvo env i = .ok d) : env[i]? = some (some (.own d)) := by
  unfold gvo at h
  split at h
  · cases h; assumption
  · cases h
theorem gv_cases (env : Env) (i : Nat) : (∃ d, gv env i = .ok d) ∨ gv env i = .no := by
  unfold gv
  split
  · exact .inl ⟨_, rfl⟩
  · exact .inr rfl
theorem gvo_cases (env : Env) (i : Nat) : (∃ d, gvo env i = .ok d) ∨ gvo env i = .no := by
  unfold gvo
  split
  · exact .inl ⟨_, rfl⟩
  · exact .inr rfl
theorem ce_var (i : Nat) {x : Str} {pos : Pos} (hN : X.N[i]? = some x := by rfl) (hv : Vis X.env.scope x := by first | exact Or.inl rfl | exact Or.inr (Or.inl rfl) | exact Or.inr (Or.inr rfl)) (hd : (x == ("__debug__" : Str)) = false := by decide)
    (hcd : (x == ("__classdict__" : Str)) = false := by decide) : CE X W (.Name x pos) (eVar i) := fun Z env σ H O Q r q => by
  refine wp_e (pe_var hN hv hd hcd) ?_
  rcases gv_cases env i with ⟨d, e⟩ | e
  · obtain ⟨v, h1, h2⟩ := r.sl i _ (gv_ok e)
    have q' : ROk X W σ O (VQ X.K O Q) H (.ok d) := by rw [← e]; exact q
    exact ⟨v, h1, q'.here v h2⟩
  · have q' : ROk X W σ O (VQ X.K O Q) H (.no) := by rw [← e]; exact q
    exact q'.elim
theorem ce_int {i : Int} {j pos} : CE X W (.Constant (.int i) j pos) (eC (.int i)) := fun Z env σ H O Q r q => wp_e pe_int (ROk.here q _ (.int i))
theorem ce_str {i : Str} {j pos} : CE X W (.Constant (.str i) j pos) (eC (.str i)) := fun Z env σ H O Q r q => wp_e pe_str (ROk.here q _ (.str i))
theorem ce_bl {i : Bool} {j pos} : CE X W (.Constant (.bool i) j pos) (eC (.bool i)) := fun Z env σ H O Q r q => wp_e pe_bl (ROk.here q _ (.bl i))
theorem ce_non {j pos} : CE X W (.Constant .none j pos) (eC .none) := fun Z env σ H O Q r q => wp_e pe_non (ROk.here q _ .non)

/-! ### operators -/
def ofO {α : Type} : Option α → RO α
  | some a => .ok a
  | none => .no
/-- all that is hidden stands -/
abbrev Lv (O : List Addr) (H : Hp) : Prop := ∀ a ∈ O, ∃ vs, H a = some (.lst vs)
theorem Lv.out {O : List Addr} {H : Hp} (l : Lv O H) {p : Addr} (h : H p = none) : p ∉ O := fun z => by
  obtain ⟨vs, q⟩ := l p z
  rw [h] at q; cases q
/-- a new tuple, a new list, seen behind what is hidden -/
theorem dp_newT {K : PySem.W.Frag} (l : Lv O H) {p : Addr} (hp : H p = none) {vs : List V} {ds : List PyData} (h : DpAll K (hid O H) vs ds) : Dp K (hid O (upd H p (.tup vs))) (.ref p) (.tuple ds) := by
  have np := l.out hp
  refine .tup (SqT.of ?_) (((Ext.new hp).hid O).dpa h)
  rw [hid_out np, upd_same]
theorem dp_newL {K : PySem.W.Frag} (l : Lv O H) {p : Addr} (hp : H p = none) {vs : List V} {ds : List PyData} (h : DpAll K (hid O H) vs ds) : Dp K (hid O (upd H p (.lst vs))) (.ref p) (.list ds) := by
  have np := l.out hp
  refine .lst (SqL.of ?_) (((Ext.new hp).hid O).dpa h)
  rw [hid_out np, upd_same]
theorem CL.ce {fl : Env → RO (List PyData)} (h : CL X W e fl) : CE X W e (fun env => fl env >>= fun ds => .ok (.list ds)) := fun Z env σ H O Q r q =>
  h Z env σ H O Q r (q.then fun ds H1 _ e1 q1 p vs hp hd => q1 _ (Ext.new hp) _ (dp_newL (r.mono e1).lv hp hd))

/-- an operation on values, by their data -/
def BinR (X : Cx) (f : Value → Value → Sem Value) (b : PyData → PyData → Option PyData) : Prop := ∀ dx dy d, b dx dy = some d → ∃ r : R2, OpR X f r ∧
  ∀ O H vx vy Q, Lv O H → Dp X.K (hid O H) vx dx → Dp X.K (hid O H) vy dy → (∀ v H', Ext H H' → Dp X.K (hid O H') v d → Q v H') → r vx vy H Q
/-- the same where the data may be a list of the frame's own, and the answer is none -/
def BinB (X : Cx) (f : Value → Value → Sem Value) (b : PyData → PyData → Option PyData) : Prop := ∀ dx dy d, b dx dy = some d → ∃ r : R2, OpR X f r ∧
  ∀ H vx vy Q, Dp X.K H vx dx → Dp X.K H vy dy → (∀ v, (∀ H', Dp X.K H' v d) → Q v H) → r vx vy H Q
theorem ce_op {op : Operator} {bi : PyData → PyData → Option PyData} {pos : Pos} (ho : BinR X (binaryOp op) bi) (ha : CE X W a fa) (hb : CE X W b fb) :
    CE X W (.BinOp a op b pos) (fun env => fa env >>= fun x => fb env >>= fun y => ofO (bi x y)) := fun Z env σ H O Q r q => by
  have key : ∀ dx dy, (∃ d, bi dx dy = some d) ∨ bi dx dy = none := fun dx dy => by
    cases bi dx dy with
    | some d => exact .inl ⟨d, rfl⟩
    | none => exact .inr rfl
  -- the operation's reading is one for all values
  let R : R2 := fun vx vy H Q => ∃ (r : R2), OpR X (binaryOp op) r ∧ r vx vy H Q
  have hR : OpR X (binaryOp op) R := fun pins s σ H x y v u Q I rx ry ⟨r, h1, h2⟩ => h1 pins s σ H x y v u Q I rx ry h2
  refine wp_e (pe_op hR pe_wp pe_wp) ?_
  refine ha.go r q fun dx vx H1 e1 d1 r1 q1 => ?_
  refine hb.go r1 q1 fun dy vy H2 e2 d2 r2 q2 => ?_
  rcases key dx dy with ⟨d, e⟩ | e
  · rw [e] at q2
    obtain ⟨rr, h1, h2⟩ := ho dx dy d e
    exact ⟨rr, h1, h2 O H2 vx vy Q r2.lv ((e2.hid O).dp d1) d2 fun v H' e' hv => q2 H' e' v hv⟩
  · rw [e] at q2
    exact q2.elim
theorem ce_cmp {op : CmpOp} {bi : PyData → PyData → Option PyData} {pos : Pos} (ho : BinB X (compareOp op) bi) (ha : CB X W a fa) (hb : CB X W b fb) (hm : behindInMarks op b = false := by first | exact nobehind _ (by decide) (by decide) | rfl) :
    CE X W (.Compare a [op] [b] pos) (fun env => fa env >>= fun x => fb env >>= fun y => ofO (bi x y)) := fun Z env σ H O Q r q => by
  let R : R2 := fun vx vy H Q => ∃ (r : R2), OpR X (compareOp op) r ∧ r vx vy H Q
  have hR : OpR X (compareOp op) R := fun pins s σ H x y v u Q I rx ry ⟨r, h1, h2⟩ => h1 pins s σ H x y v u Q I rx ry h2
  refine wp_e (pe_cmpR hR pe_wp pe_wp hm) ?_
  refine ha.go r q fun dx vx H1 e1 d1 r1 q1 => ?_
  refine hb.go r1 q1 fun dy vy H2 e2 d2 r2 q2 => ?_
  cases e : bi dx dy with
  | some d =>
    rw [e] at q2
    obtain ⟨rr, h1, h2⟩ := ho dx dy d e
    exact ⟨rr, h1, h2 H2 vx vy Q (e2.dp (Ext.unhid.dp d1)) (Ext.unhid.dp d2) fun v hv => q2.here v (hv _)⟩
  | none =>
    rw [e] at q2
    exact q2.elim
def tb (d : PyData) : RO Bool := match d with
  | .bool b => .ok b
  | _ => .no
theorem ct_cmp {op : CmpOp} {bi : PyData → PyData → Option PyData} {pos : Pos} (ho : BinB X (compareOp op) bi) (ha : CB X W a fa) (hb : CB X W b fb) (hm : behindInMarks op b = false := by first | exact nobehind _ (by decide) (by decide) | rfl) :
    CT X W (.Compare a [op] [b] pos) (fun env => fa env >>= fun x => fb env >>= fun y => ofO (bi x y) >>= tb) := fun Z env σ H O Q r q => by
  let R : R2 := fun vx vy H Q => ∃ (r : R2), OpR X (compareOp op) r ∧ r vx vy H Q
  have hR : OpR X (compareOp op) R := fun pins s σ H x y v u Q I rx ry ⟨r, h1, h2⟩ => h1 pins s σ H x y v u Q I rx ry h2
  refine wp_t (pt_cmpR hR pe_wp pe_wp hm) ?_
  refine ha.go r q fun dx vx H1 e1 d1 r1 q1 => ?_
  refine hb.go r1 q1 fun dy vy H2 e2 d2 r2 q2 => ?_
  cases e : bi dx dy with
  | some d =>
    rw [e] at q2
    obtain ⟨rr, h1, h2⟩ := ho dx dy d e
    refine ⟨rr, h1, h2 H2 vx vy _ (e2.dp (Ext.unhid.dp d1)) (Ext.unhid.dp d2) fun v hv => ?_⟩
    cases d with
    | bool k =>
      have := dp_bool (hv H2)
      subst this
      exact ⟨k, rfl, q2.here⟩
    | _ => exact q2.elim
  | none =>
    rw [e] at q2
    exact q2.elim
/-- -a and the like -/
def UnD (X : Cx) (f : Value → Sem Value) (b : PyData → Option PyData) : Prop := ∀ dx d, b dx = some d → ∃ r : V → Hp → VK → Prop, UnR X f r ∧
  ∀ H vx Q, Dp X.K H vx dx → (∀ v, (∀ H', Dp X.K H' v d) → Q v H) → r vx H Q
theorem ce_un {op : UnaryOp} {bi : PyData → Option PyData} {pos : Pos} (ho : UnD X (unaryOp op) bi) (ha : CE X W a fa) : CE X W (.UnaryOp op a pos) (fun env => fa env >>= fun x => ofO (bi x)) := fun Z env σ H O Q r q => by
  let R : V → Hp → VK → Prop := fun vx H Q => ∃ (r : V → Hp → VK → Prop), UnR X (unaryOp op) r ∧ r vx H Q
  have hR : UnR X (unaryOp op) R := fun pins s σ H x v Q I rx ⟨r, h1, h2⟩ => h1 pins s σ H x v Q I rx h2
  refine wp_e (pe_un hR pe_wp) ?_
  refine ha.go r q fun dx vx H1 e1 d1 r1 q1 => ?_
  cases e : bi dx with
  | some d =>
    rw [e] at q1
    obtain ⟨rr, h1, h2⟩ := ho dx d e
    exact ⟨rr, h1, h2 H1 vx Q (Ext.unhid.dp d1) fun v hv => q1.here v (hv _)⟩
  | none =>
    rw [e] at q1
    exact q1.elim

/-! ### tests -/
variable {ft fu : T} {rest : List Expr} {pos : Pos}
/-- an expression whose value is a bool -/
theorem ct_val (h : CE X W e f) (he : ∀ whole, isTrue e X.env whole = (do let v ← whole; standAt e.pos; holding [v] (truthy v)) := by intro _; rfl) : CT X W e (fun env => f env >>= tb) := fun Z env σ H O Q r q => by
  refine wp_t (pt_val pe_wp he) ?_
  refine h.go r q fun d v H1 e1 d1 r1 q1 => ?_
  cases d with
  | bool k =>
    have := dp_bool d1
    subst this
    exact ⟨k, rfl, q1.here⟩
  | _ => exact q1.elim
/-- a value's truth -/
def tru (d : PyData) : RO Bool := match d with
  | .none => .ok false
  | .bool b => .ok b
  | .int i => .ok (i != 0)
  | .str y => if y.length ≤ sizeLine then .ok ((y.length : Int) != 0) else .no
  | .list xs => .ok (!xs.isEmpty)
  | .tuple xs => .ok (!xs.isEmpty)
  | _ => .no
theorem ct_tru (h : CB X W e f) (he : ∀ whole, isTrue e X.env whole = (do let v ← whole; standAt e.pos; holding [v] (truthy v)) := by intro _; rfl) : CT X W e (fun env => f env >>= tru) := fun Z env σ H O Q r q => by
  refine wp_t (pt_truth pe_wp he) ?_
  refine h.go r q fun d v H1 e1 d1 r1 q1 => ?_
  have em : ∀ {vs : List V} {ds : List PyData}, DpAll X.K (hid Z.Oc H1) vs ds → (!ds.isEmpty) = !vs.isEmpty := fun h => by cases h <;> rfl
  cases d with
  | none => cases dp_none d1; exact ⟨false, rfl, q1.here⟩
  | bool k => cases dp_bool d1; exact ⟨k, rfl, q1.here⟩
  | int k => cases dp_int d1; exact ⟨_, rfl, q1.here⟩
  | str k =>
    cases dp_str d1
    by_cases z : k.length ≤ sizeLine
    · have q2 : ROk X W σ O Q H1 (if k.length ≤ sizeLine then .ok ((k.length : Int) != 0) else .no) := q1
      rw [if_pos z] at q2
      exact ⟨_, ⟨z, rfl⟩, q2.here⟩
    · have q2 : ROk X W σ O Q H1 (if k.length ≤ sizeLine then .ok ((k.length : Int) != 0) else .no) := q1
      rw [if_neg z] at q2
      exact q2.elim
  | list xs =>
    obtain ⟨p, vs, rfl, h1, h2⟩ := dp_lst d1
    exact ⟨_, .inl ⟨vs, Ext.unhid.sl h1, em h2⟩, q1.here⟩
  | tuple xs =>
    obtain ⟨p, vs, rfl, h1, h2⟩ := dp_tup d1
    exact ⟨_, .inr (.inl ⟨vs, Ext.unhid.st h1, em h2⟩), q1.here⟩
  | dict _ => exact q1.elim
theorem CW.ct (h : CW X W e ft) : CT X W e ft := fun Z env σ H O Q r q => wp_t pw_wp.pt (h Z env σ H O Q r q)
def tNt (t : T) : T := fun env => t env >>= fun b => .ok (!b)
def tAn (t u : T) : T := fun env => t env >>= fun b => if b = true then u env else .ok false
def tOr (t u : T) : T := fun env => t env >>= fun b => if b = true then .ok true else u env
theorem ct_not (h : CT X W a ft) : CT X W (.UnaryOp .Not a pos) (tNt ft) := fun Z env σ H O Q r q => by
  refine wp_t (pt_not pt_wp) ?_
  exact h.go r q fun d H1 e1 r1 q1 => q1.here
theorem cw_and1 (h : CT X W a ft) : CW X W (.BoolOp .And [a] pos) ft := fun Z env σ H O Q r q => wp_w (pw_and1 pt_wp) (h Z env σ H O Q r q)
theorem cw_or1 (h : CT X W a ft) : CW X W (.BoolOp .Or [a] pos) ft := fun Z env σ H O Q r q => wp_w (pw_or1 pt_wp) (h Z env σ H O Q r q)
theorem cw_and (h : CT X W a ft) (k : CW X W (.BoolOp .And (b :: rest) pos) fu) : CW X W (.BoolOp .And (a :: b :: rest) pos) (tAn ft fu) := fun Z env σ H O Q r q => by
  refine wp_w (pw_and pt_wp pw_wp) ?_
  refine h.go r q fun d H1 e1 r1 q1 => ?_
  cases d with
  | true => exact k Z env σ H1 O Q r1 q1
  | false => exact q1.here
theorem cw_or (h : CT X W a ft) (k : CW X W (.BoolOp .Or (b :: rest) pos) fu) : CW X W (.BoolOp .Or (a :: b :: rest) pos) (tOr ft fu) := fun Z env σ H O Q r q => by
  refine wp_w (pw_or pt_wp pw_wp) ?_
  refine h.go r q fun d H1 e1 r1 q1 => ?_
  cases d with
  | true => exact q1.here
  | false => exact k Z env σ H1 O Q r1 q1
/-- .. as values (bools) -/
def eNt (f : E) : E := fun env => f env >>= tb >>= fun b => .ok (.bool !b)
def eAn (f g : E) : E := fun env => f env >>= tb >>= fun b => if b = true then g env else .ok (.bool false)
def eOr (f g : E) : E := fun env => f env >>= tb >>= fun b => if b = true then .ok (.bool true) else g env
theorem RO.assoc {α β γ : Type} (r : RO α) (g : α → RO β) (k : β → RO γ) : (r >>= g >>= k) = (r >>= fun x => g x >>= k) := by cases r <;> rfl
theorem ce_not (h : CE X W a fa) : CE X W (.UnaryOp .Not a pos) (eNt fa) := fun Z env σ H O Q r q => by
  refine wp_e (pe_not pe_wp) ?_
  unfold eNt at q
  rw [RO.assoc] at q
  refine h.go r q fun d v H1 e1 d1 r1 q1 => ?_
  cases d with
  | bool k =>
    have := dp_bool d1
    subst this
    exact ⟨k, rfl, q1.here _ (.bl _)⟩
  | _ => exact q1.elim
theorem ce_one {op} (h : CE X W a fa) : CE X W (.BoolOp op [a] pos) fa := fun Z env σ H O Q r q => wp_e (pe_one pe_wp) (h Z env σ H O Q r q)
theorem ce_and (h : CE X W a fa) (k : CE X W (.BoolOp .And (b :: rest) pos) fb) : CE X W (.BoolOp .And (a :: b :: rest) pos) (eAn fa fb) := fun Z env σ H O Q r q => by
  refine wp_e (pe_and pe_wp pe_wp) ?_
  unfold eAn at q
  rw [RO.assoc] at q
  refine h.go r q fun d v H1 e1 d1 r1 q1 => ?_
  cases d with
  | bool c =>
    have := dp_bool d1
    subst this
    refine ⟨c, rfl, ?_⟩
    cases c with
    | true => exact k Z env σ H1 O Q r1 q1
    | false => exact q1.here _ (.bl _)
  | _ => exact q1.elim
theorem ce_or (h : CE X W a fa) (k : CE X W (.BoolOp .Or (b :: rest) pos) fb) : CE X W (.BoolOp .Or (a :: b :: rest) pos) (eOr fa fb) := fun Z env σ H O Q r q => by
  refine wp_e (pe_or pe_wp pe_wp) ?_
  unfold eOr at q
  rw [RO.assoc] at q
  refine h.go r q fun d v H1 e1 d1 r1 q1 => ?_
  cases d with
  | bool c =>
    have := dp_bool d1
    subst this
    refine ⟨c, rfl, ?_⟩
    cases c with
    | true => exact q1.here _ (.bl _)
    | false => exact k Z env σ H1 O Q r1 q1
  | _ => exact q1.elim
/-- a if t else b -/
def eIf (t : T) (f g : E) : E := fun env => t env >>= fun b => if b = true then f env else g env
theorem ce_if {c : Expr} (h : CT X W c ft) (h1 : CE X W a fa) (h2 : CE X W b fb) : CE X W (.IfExp c a b pos) (eIf ft fa fb) := fun Z env σ H O Q r q => by
  refine wp_e (pe_ifExp pt_wp pe_wp pe_wp) ?_
  refine h.go r q fun d H1 e1 r1 q1 => ?_
  cases d with
  | true => exact h1 Z env σ H1 O Q r1 q1
  | false => exact h2 Z env σ H1 O Q r1 q1

/-! ### argument lists, tuples, lists -/
def aNil : Env → RO (List PyData) := fun _ => .ok []
def aCons (f : E) (g : Env → RO (List PyData)) : Env → RO (List PyData) := fun env => f env >>= fun x => g env >>= fun xs => .ok (x :: xs)
variable {g : Env → RO (List PyData)}
theorem ca_nil : CA X W [] aNil := fun Z env σ H O Q r q => wp_a pa_nil (ROk.here q _ .nil)
theorem ca_cons (h : CE X W e f) (k : CA X W es g) (hs : starEach (e :: es) X.env = (false, eval e X.env) :: starEach es X.env := by rfl) : CA X W (e :: es) (aCons f g) := fun Z env σ H O Q r q => by
  refine wp_a (pa_cons pe_wp pa_wp hs) ?_
  refine h.go r q fun d v H1 e1 d1 r1 q1 => ?_
  refine k.go r1 q1 fun ds vs H2 e2 d2 r2 q2 => ?_
  exact q2.here _ (.cons ((e2.hid O).dp d1) d2)
def eTup (g : Env → RO (List PyData)) : E := fun env => g env >>= fun xs => if xs.length ≤ sizeLine then .ok (.tuple xs) else .no
def lLst (g : Env → RO (List PyData)) : Env → RO (List PyData) := fun env => g env >>= fun xs => if xs.length ≤ sizeLine then .ok xs else .no
theorem ce_tup {x1} (h : CA X W es g) : CE X W (.Tuple es x1 pos) (eTup g) := fun Z env σ H O Q r q => by
  refine wp_e (pe_tup pa_wp) ?_
  refine h.go r q fun ds vs H1 e1 d1 r1 q1 => ?_
  by_cases z : ds.length ≤ sizeLine
  · rw [if_pos z] at q1
    exact ⟨by rw [dpa_len d1]; exact z, fun p hp => q1 _ (Ext.new hp) _ (dp_newT r1.lv hp d1)⟩
  · rw [if_neg z] at q1
    exact q1.elim
theorem cl_lst (h : CA X W es g) : CL X W (.List es pos) (lLst g) := fun Z env σ H O Q r q => by
  refine wp_e (pe_lst pa_wp) ?_
  refine h.go r q fun ds vs H1 e1 d1 r1 q1 => ?_
  by_cases z : ds.length ≤ sizeLine
  · rw [if_pos z] at q1
    exact ⟨by rw [dpa_len d1]; exact z, fun p hp => q1.here p vs hp d1⟩
  · rw [if_neg z] at q1
    exact q1.elim

/-! ### calls of built-ins, by values -/
/-- a call whose answer is told by the data -/
def CalR (X : Cx) (f : Value) (b : List PyData → Option PyData) : Prop := ∀ ds d, b ds = some d → ∃ r : List V → Hp → VK → Prop, CallR X f r ∧
  ∀ O H vs Q, Lv O H → DpAll X.K (hid O H) vs ds → (∀ v H', Ext H H' → Dp X.K (hid O H') v d → Q v H') → r vs H Q
/-- the same over data as they stand (a list of the frame's own) -/
def CalB (X : Cx) (f : Value) (b : List PyData → Option PyData) : Prop := ∀ ds d, b ds = some d → ∃ r : List V → Hp → VK → Prop, CallR X f r ∧
  ∀ H vs Q, DpAll X.K H vs ds → (∀ v, (∀ H', Dp X.K H' v d) → Q v H) → r vs H Q
theorem CalB.cal {f : Value} {bi : List PyData → Option PyData} (h : CalB X f bi) : CalR X f bi := fun ds d e => by
  obtain ⟨r, h1, h2⟩ := h ds d e
  exact ⟨r, h1, fun O H vs Q _ hv k => h2 H vs Q (Ext.unhid.dpa hv) fun v hd => k v H (Ext.refl H) (hd _)⟩
section
variable {x : Str} {p : Pos} {id T : String} {bi : List PyData → Option PyData}
theorem any_call {fv : Value} : CallR X fv (fun vs H Q => ∃ r : List V → Hp → VK → Prop, CallR X fv r ∧ r vs H Q) := fun pins s σ H xs us Q I rv ⟨r, h1, h2⟩ => h1 pins s σ H xs us Q I rv h2
theorem go_call {fv : Value} {t : TE} (hc : CalR X fv bi) (k : CA X W (e :: es) g) (r : Rep X.K Z env σ H O) {Q : VK} (q : ROk X W σ O (VQ X.K O Q) H (g env >>= fun ds => ofO (bi ds))) :
    tCB (fun vs H Q => ∃ r : List V → Hp → VK → Prop, CallR X fv r ∧ r vs H Q) (wpA X (e :: es)) σ H Q := by
  refine k.go r q fun ds vs H1 e1 d1 r1 q1 => ?_
  cases eb : bi ds with
  | some d =>
    rw [eb] at q1
    obtain ⟨rr, h1, h2⟩ := hc ds d eb
    exact ⟨rr, h1, h2 O H1 vs Q r1.lv d1 fun v H' e' hv => q1 H' e' v hv⟩
  | none =>
    rw [eb] at q1
    exact q1.elim
/-- f(e, ..), f a built-in function -/
theorem ce_bf (hc : CalR X (.builtin id) bi) (hg : Gl X x) (hm : X.mg x = none) (hv : bootBuiltins x = some (.builtin id)) (ha : CA X W (e :: es) g) (hn : x ≠ "__name__" := by decide) (hdb : (x == ("__debug__" : Str)) = false := by decide)
    (he : starEach (e :: es) X.env = (false, eval e X.env) :: starEach es X.env := by rfl) (hpl : (backTo pos (starEach es X.env)).any (·.1) = false := by rfl) : CE X W (.Call (.Name x p) (e :: es) [] pos) (fun env => g env >>= fun ds => ofO (bi ds)) :=
  fun Z env σ H O Q r q => wp_e (pe_callB any_call hg hm hv pa_wp hn hdb he hpl) (go_call (t := wpE X e) hc ha r q)
/-- f a built-in function that the module imported -/
theorem ce_bi (hc : CalR X (.builtin id) bi) (hg : Gl X x) (hm : X.mg x = some (.builtin id)) (ha : CA X W (e :: es) g) (hdb : (x == ("__debug__" : Str)) = false := by decide)
    (he : starEach (e :: es) X.env = (false, eval e X.env) :: starEach es X.env := by rfl) (hpl : (backTo pos (starEach es X.env)).any (·.1) = false := by rfl) : CE X W (.Call (.Name x p) (e :: es) [] pos) (fun env => g env >>= fun ds => ofO (bi ds)) :=
  fun Z env σ H O Q r q => wp_e (pe_callBfun any_call hg hm pa_wp hdb he hpl) (go_call (t := wpE X e) hc ha r q)
/-- T(e, ..), T a built-in type -/
theorem ce_ty (hc : CalR X (.type T) bi) (hg : Gl X x) (hm : X.mg x = none) (hv : bootBuiltins x = some (.type T)) (ha : CA X W (e :: es) g) (hn : x ≠ "__name__" := by decide) (hdb : (x == ("__debug__" : Str)) = false := by decide)
    (he : starEach (e :: es) X.env = (false, eval e X.env) :: starEach es X.env := by rfl) (hpl : (backTo pos (starEach es X.env)).any (·.1) = false := by rfl) : CE X W (.Call (.Name x p) (e :: es) [] pos) (fun env => g env >>= fun ds => ofO (bi ds)) :=
  fun Z env σ H O Q r q => wp_e (pe_callTy any_call hg hm hv pa_wp hn hdb he hpl) (go_call (t := wpE X e) hc ha r q)
end
end
end PD
set_option Elab.async false
set_option linter.all false
set_option maxRecDepth 100000
set_option maxHeartbeats 4000000
namespace PD
open PySem PySem.Spec PyProof.Rows L2

/-! ### ints -/
def mulOk (i j : Int) : Bool := decide (i.natAbs.log2 + j.natAbs.log2 < 100000000)
theorem mulOk_ok {i j : Int} (h : mulOk i j = true) : IntMulOk i j := by
  have b : ∀ x : Int, Builtin.Int.intBits x ≤ x.natAbs.log2 + 1 := fun x => by
    unfold Builtin.Int.intBits
    split <;> omega
  have h1 := b i
  have h2 := b j
  have h3 : i.natAbs.log2 + j.natAbs.log2 < 100000000 := of_decide_eq_true h
  have e : bitsLine = 134217728 := by decide
  unfold IntMulOk
  intro z
  rw [Bool.and_eq_true] at z
  have z2 := z.2
  unfold Builtin.Int.intTooBig at z2
  have z3 := of_decide_eq_true z2
  rw [e] at z3
  omega
def divOk (j : Int) : Bool := decide (j ≠ 0) && decide (j.natAbs.log2 < 9000)
section
variable {X : Cx}
theorem op_mulG : OpR X (binaryOp .Mult) (rI (fun i j => mulOk i j = true) fun i j => .int (i * j)) := opI fun _ _ _ _ _ _ _ hc q => mul_int q (mulOk_ok hc)
theorem op_fdivG : OpR X (binaryOp .FloorDiv) (rI (fun _ j => divOk j = true) fun i j => .int (i.fdiv j)) := opI fun i j _ _ _ _ _ hc q => by
  unfold divOk at hc
  simp only [Bool.and_eq_true, decide_eq_true_eq] at hc
  exact floordiv_int hc.1 q (.inl (PyProof.noPylong_of_log2 hc.2))
def powOk (i j : Int) : Bool := decide (0 ≤ j) && decide ((Builtin.Int.intBits i : Int) * j ≤ 2 ^ 27)
theorem op_powG : OpR X (binaryOp .Pow) (rI (fun i j => powOk i j = true) fun i j => .int (i ^ j.toNat)) := opI fun i j _ _ _ _ _ hc q => by
  unfold powOk at hc
  simp only [Bool.and_eq_true, decide_eq_true_eq] at hc
  exact pow_int hc.1 hc.2 q

def dAdd : PyData → PyData → Option PyData
  | .int i, .int j => some (.int (i + j))
  | .str i, .str j => if i.length + j.length ≤ sizeLine then some (.str (i ++ j)) else none
  | .tuple a, .tuple b => if a.length + b.length ≤ sizeLine then some (.tuple (a ++ b)) else none
  | _, _ => none
theorem bin_add : BinR X (binaryOp .Add) dAdd := fun dx dy d e => by
  cases dx <;> cases dy <;> first | (simp only [dAdd] at e; cases e; done) | skip
  · rename_i i j
    simp only [dAdd, Option.some.injEq] at e
    subst e
    refine ⟨_, op_add, fun O H vx vy Q l hx hy k => ?_⟩
    cases dp_int hx
    cases dp_int hy
    exact ⟨i, j, rfl, rfl, k _ H (Ext.refl H) (.int _)⟩
  · rename_i i j
    simp only [dAdd] at e
    split at e
    · rename_i hz
      cases e
      refine ⟨_, op_add_str, fun O H vx vy Q l hx hy k => ?_⟩
      cases dp_str hx
      cases dp_str hy
      exact ⟨i, j, rfl, rfl, hz, k _ H (Ext.refl H) (.str _)⟩
    · cases e
  · rename_i i j
    simp only [dAdd] at e
    split at e
    · rename_i hz
      cases e
      refine ⟨_, op_catA, fun O H vx vy Q l hx hy k => ?_⟩
      obtain ⟨p, xs, rfl, p1, p2⟩ := dp_tup hx
      obtain ⟨p', ys, rfl, p1', p2'⟩ := dp_tup hy
      refine ⟨p, p', xs, ys, rfl, rfl, Ext.unhid.st p1, Ext.unhid.st p1', by rw [dpa_len p2, dpa_len p2']; exact hz, fun e0 => ?_, fun _ e0 => ?_, fun _ _ q hq => ?_⟩
      · subst e0
        cases p2
        exact k _ H (Ext.refl H) hy
      · subst e0
        cases p2'
        rw [List.append_nil] at k
        exact k _ H (Ext.refl H) hx
      · exact k _ _ (Ext.new hq) (dp_newT l hq (dpa_app p2 p2'))
    · cases e
def dSub : PyData → PyData → Option PyData
  | .int i, .int j => some (.int (i - j))
  | _, _ => none
theorem bin_sub : BinR X (binaryOp .Sub) dSub := fun dx dy d e => by
  cases dx <;> cases dy <;> first | (simp only [dSub] at e; cases e; done) | skip
  rename_i i j
  simp only [dSub, Option.some.injEq] at e
  subst e
  refine ⟨_, op_sub, fun O H vx vy Q l hx hy k => ?_⟩
  cases dp_int hx
  cases dp_int hy
  exact ⟨i, j, rfl, rfl, k _ H (Ext.refl H) (.int _)⟩
def dMul : PyData → PyData → Option PyData
  | .int i, .int j => if mulOk i j = true then some (.int (i * j)) else none
  | .tuple a, .int k => if a ≠ [] ∧ 2 ≤ k ∧ k ≤ 1000 ∧ a.length ≤ 1000 then some (.tuple (List.replicate k.toNat a).flatten) else none
  | _, _ => none
theorem dpa_repl {K : PySem.W.Frag} {H : Hp} {vs : List V} {ds : List PyData} (h : DpAll K H vs ds) : ∀ n : Nat, DpAll K H (List.replicate n vs).flatten (List.replicate n ds).flatten
  | 0 => .nil
  | n + 1 => by
    rw [List.replicate_succ, List.replicate_succ, List.flatten_cons, List.flatten_cons]
    exact dpa_app h (dpa_repl h n)
theorem bin_mul : BinR X (binaryOp .Mult) dMul := fun dx dy d e => by
  cases dx <;> cases dy <;> first | (simp only [dMul] at e; cases e; done) | skip
  · rename_i i j
    simp only [dMul] at e
    split at e
    · rename_i hz
      cases e
      refine ⟨_, op_mulG, fun O H vx vy Q l hx hy k => ?_⟩
      cases dp_int hx
      cases dp_int hy
      exact ⟨i, j, rfl, rfl, hz, k _ H (Ext.refl H) (.int _)⟩
    · cases e
  · rename_i a j
    simp only [dMul] at e
    split at e
    · rename_i hz
      obtain ⟨h0, h1, h2, h3⟩ := hz
      cases e
      refine ⟨_, op_repT, fun O H vx vy Q l hx hy k => ?_⟩
      obtain ⟨p, xs, rfl, p1, p2⟩ := dp_tup hx
      cases dp_int hy
      have hl := dpa_len p2
      refine ⟨p, j, xs, rfl, rfl, Ext.unhid.st p1, fun z => h0 (by subst z; cases p2; rfl), h1, h2, by omega, fun q hq => ?_⟩
      exact k _ _ (Ext.new hq) (dp_newT l hq (dpa_repl p2 _))
    · cases e
def dDiv : PyData → PyData → Option PyData
  | .int i, .int j => if divOk j = true then some (.int (i.fdiv j)) else none
  | _, _ => none
theorem bin_div : BinR X (binaryOp .FloorDiv) dDiv := fun dx dy d e => by
  cases dx <;> cases dy <;> first | (simp only [dDiv] at e; cases e; done) | skip
  rename_i i j
  simp only [dDiv] at e
  split at e
  · rename_i hz
    cases e
    refine ⟨_, op_fdivG, fun O H vx vy Q l hx hy k => ?_⟩
    cases dp_int hx
    cases dp_int hy
    exact ⟨i, j, rfl, rfl, hz, k _ H (Ext.refl H) (.int _)⟩
  · cases e
def dMod : PyData → PyData → Option PyData
  | .int i, .int j => if 0 < j then some (.int (i % j)) else none
  | _, _ => none
theorem bin_mod : BinR X (binaryOp .Mod) dMod := fun dx dy d e => by
  cases dx <;> cases dy <;> first | (simp only [dMod] at e; cases e; done) | skip
  rename_i i j
  simp only [dMod] at e
  split at e
  · rename_i hz
    cases e
    refine ⟨_, op_mod, fun O H vx vy Q l hx hy k => ?_⟩
    cases dp_int hx
    cases dp_int hy
    exact ⟨i, j, rfl, rfl, hz, k _ H (Ext.refl H) (.int _)⟩
  · cases e
def dPow : PyData → PyData → Option PyData
  | .int i, .int j => if powOk i j = true then some (.int (i ^ j.toNat)) else none
  | _, _ => none
theorem bin_pow : BinR X (binaryOp .Pow) dPow := fun dx dy d e => by
  cases dx <;> cases dy <;> first | (simp only [dPow] at e; cases e; done) | skip
  rename_i i j
  simp only [dPow] at e
  split at e
  · rename_i hz
    cases e
    refine ⟨_, op_powG, fun O H vx vy Q l hx hy k => ?_⟩
    cases dp_int hx
    cases dp_int hy
    exact ⟨i, j, rfl, rfl, hz, k _ H (Ext.refl H) (.int _)⟩
  · cases e
def dNeg : PyData → Option PyData
  | .int i => some (.int (-i))
  | _ => none
theorem un_negD : UnD X (unaryOp .USub) dNeg := fun dx d e => by
  cases dx <;> first | (simp only [dNeg] at e; cases e; done) | skip
  rename_i i
  simp only [dNeg, Option.some.injEq] at e
  subst e
  refine ⟨_, un_neg, fun H vx Q hx k => ?_⟩
  cases dp_int hx
  exact ⟨i, rfl, k _ fun H' => .int _⟩

/-! ### comparisons -/
def dCmp (p : Int → Int → Bool) : PyData → PyData → Option PyData
  | .int i, .int j => some (.bool (p i j))
  | _, _ => none
theorem bin_cmp {op : CmpOp} {p : Int → Int → Bool} (ho : OpR X (compareOp op) (rI0 fun i j => .bl (p i j))) : BinB X (compareOp op) (dCmp p) := fun dx dy d e => by
  cases dx <;> cases dy <;> first | (simp only [dCmp] at e; cases e; done) | skip
  rename_i i j
  simp only [dCmp, Option.some.injEq] at e
  subst e
  refine ⟨_, ho, fun H vx vy Q hx hy k => ?_⟩
  cases dp_int hx
  cases dp_int hy
  exact ⟨i, j, rfl, rfl, k _ fun H' => .bl _⟩
abbrev dLt := dCmp fun i j => decide (i < j)
abbrev dLe := dCmp fun i j => decide (i ≤ j)
abbrev dGt := dCmp fun i j => decide (j < i)
abbrev dGe := dCmp fun i j => decide (j ≤ i)
theorem bin_lt : BinB X (compareOp .Lt) dLt := bin_cmp op_lt
theorem bin_le : BinB X (compareOp .LtE) dLe := bin_cmp op_le
theorem bin_gt : BinB X (compareOp .Gt) dGt := bin_cmp op_gt
theorem bin_ge : BinB X (compareOp .GtE) dGe := bin_cmp op_ge
def scD : PyData → Bool
  | .int _ => true
  | .str _ => true
  | .bool _ => true
  | .none => true
  | _ => false
def dEq : PyData → PyData → Option PyData
  | .int i, .int j => some (.bool (decide (i = j)))
  | .str i, .str j => some (.bool (decide (i = j)))
  | .bool i, .bool j => some (.bool (decide (i = j)))
  | x, y => if SeqAt.shaped x = true ∧ SeqAt.shaped y = true then some (.bool (PyData.eqv x y)) else none
def dNe (x y : PyData) : Option PyData := match dEq x y with
  | some (.bool b) => some (.bool !b)
  | _ => none
theorem dEq_deep (hu : X.A.units + 64 < cLine) {dx dy : PyData} (h1 : SeqAt.shaped dx = true) (h2 : SeqAt.shaped dy = true) : ∃ r : R2, OpR X (compareOp .Eq) r ∧
    ∀ H vx vy Q, Dp X.K H vx dx → Dp X.K H vy dy → (∀ v, (∀ H', Dp X.K H' v (.bool (PyData.eqv dx dy))) → Q v H) → r vx vy H Q :=
  ⟨_, op_eqD hu, fun H vx vy Q hx hy k => ⟨dx, dy, hx, hy, h1, h2, k _ fun H' => .bl _⟩⟩
theorem dNe_deep (hu : X.A.units + 64 < cLine) {dx dy : PyData} (h1 : SeqAt.shaped dx = true) (h2 : SeqAt.shaped dy = true) : ∃ r : R2, OpR X (compareOp .NotEq) r ∧
    ∀ H vx vy Q, Dp X.K H vx dx → Dp X.K H vy dy → (∀ v, (∀ H', Dp X.K H' v (.bool (!PyData.eqv dx dy))) → Q v H) → r vx vy H Q :=
  ⟨_, op_neD hu, fun H vx vy Q hx hy k => ⟨dx, dy, hx, hy, h1, h2, k _ fun H' => .bl _⟩⟩
theorem bin_eq (hu : X.A.units + 64 < cLine) : BinB X (compareOp .Eq) dEq := fun dx dy d e => by
  cases dx <;> cases dy
  all_goals try (
    simp only [dEq] at e
    split at e
    · rename_i hz
      cases e
      exact dEq_deep hu hz.1 hz.2
    · cases e
    done)
  all_goals (
    simp only [dEq, Option.some.injEq] at e
    subst e
    refine ⟨_, op_eq, fun H vx vy Q hx hy k => ?_⟩
    cases hx
    cases hy
    refine ⟨rfl, ?_⟩
    simp only [V.int.injEq, V.str.injEq, V.bl.injEq]
    exact k _ fun H' => .bl _)
theorem bin_ne (hu : X.A.units + 64 < cLine) : BinB X (compareOp .NotEq) dNe := fun dx dy d e => by
  cases dx <;> cases dy
  all_goals try (
    simp only [dNe, dEq] at e
    split at e
    · rename_i b hz
      cases e
      split at hz
      · rename_i hz2
        cases hz
        exact dNe_deep hu hz2.1 hz2.2
      · cases hz
    · cases e
    done)
  all_goals (
    simp only [dNe, dEq, Option.some.injEq] at e
    subst e
    refine ⟨_, op_ne, fun H vx vy Q hx hy k => ?_⟩
    cases hx
    cases hy
    refine ⟨rfl, ?_⟩
    simp only [V.int.injEq, V.str.injEq, V.bl.injEq]
    exact k _ fun H' => .bl _)
def isNon : PyData → Bool
  | .none => true
  | _ => false
/-- is None, is True -/
def dIs : PyData → PyData → Option PyData
  | .bool a, .bool b => some (.bool (decide (a = b)))
  | x, .none => some (.bool (isNon x))
  | _, _ => none
def dIsN (x y : PyData) : Option PyData := match dIs x y with
  | some (.bool b) => some (.bool !b)
  | _ => none
theorem dp_isnon {K : PySem.W.Frag} {H : Hp} {v : V} {d : PyData} (h : Dp K H v d) : decide (v = .non) = isNon d := by
  cases h <;> rfl
theorem bin_is : BinB X (compareOp .Is) dIs := fun dx dy d e => by
  cases dy with
  | none =>
    have e' : some (PyData.bool (isNon dx)) = some d := by cases dx <;> exact e
    cases e'
    refine ⟨_, op_isN, fun H vx vy Q hx hy k => ?_⟩
    cases dp_none hy
    refine ⟨rfl, ?_⟩
    rw [dp_isnon hx]
    exact k _ fun H' => .bl _
  | bool b =>
    cases dx with
    | bool a =>
      simp only [dIs, Option.some.injEq] at e
      subst e
      refine ⟨_, op_isBl, fun H vx vy Q hx hy k => ?_⟩
      cases dp_bool hx
      cases dp_bool hy
      exact ⟨a, b, rfl, rfl, k _ fun H' => .bl _⟩
    | _ => cases e
  | _ => cases dx <;> cases e
theorem bin_isn : BinB X (compareOp .IsNot) dIsN := fun dx dy d e => by
  cases dy with
  | none =>
    have e' : some (PyData.bool (!(isNon dx))) = some d := by cases dx <;> exact e
    cases e'
    refine ⟨_, op_notN, fun H vx vy Q hx hy k => ?_⟩
    cases dp_none hy
    refine ⟨rfl, ?_⟩
    rw [dp_isnon hx]
    exact k _ fun H' => .bl _
  | bool b =>
    cases dx with
    | bool a =>
      simp only [dIsN, dIs, Option.some.injEq] at e
      subst e
      refine ⟨_, op_notBl, fun H vx vy Q hx hy k => ?_⟩
      cases dp_bool hx
      cases dp_bool hy
      exact ⟨a, b, rfl, rfl, k _ fun H' => .bl _⟩
    | _ => cases e
  | _ => cases dx <;> cases e

/-! ### calls -/
def cLen : List PyData → Option PyData
  | [.list xs] => some (.int xs.length)
  | [.tuple xs] => some (.int xs.length)
  | [.str x] => if x.length ≤ sizeLine then some (.int x.length) else none
  | _ => none
theorem dpa1 {K : PySem.W.Frag} {H : Hp} {vs : List V} {d : PyData} (h : DpAll K H vs [d]) : ∃ v, vs = [v] ∧ Dp K H v d := by
  cases h with
  | cons a b => cases b; exact ⟨_, rfl, a⟩
theorem dpa2 {K : PySem.W.Frag} {H : Hp} {vs : List V} {d e : PyData} (h : DpAll K H vs [d, e]) : ∃ v u, vs = [v, u] ∧ Dp K H v d ∧ Dp K H u e := by
  cases h with
  | cons a b =>
    obtain ⟨u, rfl, c⟩ := dpa1 b
    exact ⟨_, u, rfl, a, c⟩
theorem cal_len : CalB X (.builtin "len") cLen := fun ds d e => by
  refine ⟨_, call_len, fun H vs Q hv k => ?_⟩
  rcases ds with _ | ⟨x, _ | ⟨y, r⟩⟩
  · cases e
  · obtain ⟨v, rfl, hx⟩ := dpa1 hv
    cases x with
    | list xs =>
      obtain ⟨p, ys, rfl, p1, p2⟩ := dp_lst hx
      simp only [cLen, Option.some.injEq] at e
      subst e
      refine ⟨_, ys.length, rfl, .inl ⟨ys, p1, rfl⟩, ?_⟩
      rw [dpa_len p2]
      exact k _ fun H' => .int _
    | tuple xs =>
      obtain ⟨p, ys, rfl, p1, p2⟩ := dp_tup hx
      simp only [cLen, Option.some.injEq] at e
      subst e
      refine ⟨_, ys.length, rfl, .inr ⟨ys, p1, rfl⟩, ?_⟩
      rw [dpa_len p2]
      exact k _ fun H' => .int _
    | str z =>
      cases dp_str hx
      simp only [cLen] at e
      split at e
      · rename_i hz
        cases e
        exact ⟨_, z.length, rfl, ⟨hz, rfl⟩, k _ fun H' => .int _⟩
      · cases e
    | _ => cases e
  · cases x <;> cases e
def cAbs : List PyData → Option PyData
  | [.int i] => some (.int (if i < 0 then -i else i))
  | _ => none
theorem cal_abs : CalB X (.builtin "abs") cAbs := fun ds d e => by
  refine ⟨_, call_abs, fun H vs Q hv k => ?_⟩
  rcases ds with _ | ⟨x, _ | ⟨y, r⟩⟩
  · cases e
  · obtain ⟨v, rfl, hx⟩ := dpa1 hv
    cases x with
    | int i =>
      cases dp_int hx
      simp only [cAbs, Option.some.injEq] at e
      subst e
      exact ⟨i, rfl, k _ fun H' => .int _⟩
    | _ => cases e
  · cases x <;> cases e
def cInt : List PyData → Option PyData
  | [.int i] => some (.int i)
  | [.bool b] => some (.int (if b then 1 else 0))
  | _ => none
theorem cal_int : CalB X (.type "int") cInt := fun ds d e => by
  refine ⟨_, call_int1, fun H vs Q hv k => ?_⟩
  rcases ds with _ | ⟨x, _ | ⟨y, r⟩⟩
  · cases e
  · obtain ⟨v, rfl, hx⟩ := dpa1 hv
    cases x with
    | int i =>
      cases dp_int hx
      simp only [cInt, Option.some.injEq] at e
      subst e
      exact .inl ⟨i, rfl, k _ fun H' => .int _⟩
    | bool i =>
      cases dp_bool hx
      simp only [cInt, Option.some.injEq] at e
      subst e
      exact .inr ⟨i, rfl, k _ fun H' => .int _⟩
    | _ => cases e
  · cases x <;> cases e
def cGcd : List PyData → Option PyData
  | [.int i, .int j] => some (.int (Nat.gcd i.natAbs j.natAbs : Nat))
  | _ => none
theorem cal_gcd : CalB X (.builtin "math.gcd") cGcd := fun ds d e => by
  refine ⟨_, cr_gcd, fun H vs Q hv k => ?_⟩
  rcases ds with _ | ⟨x, _ | ⟨y, _ | ⟨z, r⟩⟩⟩
  · cases e
  · cases x <;> cases e
  · obtain ⟨v, u, rfl, hx, hy⟩ := dpa2 hv
    cases x <;> first | (cases e; done) | skip
    cases y <;> first | (cases e; done) | skip
    cases dp_int hx
    cases dp_int hy
    simp only [cGcd, Option.some.injEq] at e
    subst e
    exact ⟨_, _, rfl, k _ fun H' => .int _⟩
  · cases x <;> cases y <;> cases e
def cMax : List PyData → Option PyData
  | [.int i, .int j] => some (.int (if j > i then j else i))
  | _ => none
def cMin : List PyData → Option PyData
  | [.int i, .int j] => some (.int (if j < i then j else i))
  | _ => none
theorem cal_max (hc : X.calm = true) : CalB X (.builtin "max") cMax := fun ds d e => by
  refine ⟨_, call_max2 hc, fun H vs Q hv k => ?_⟩
  rcases ds with _ | ⟨x, _ | ⟨y, _ | ⟨z, r⟩⟩⟩
  · cases e
  · cases x <;> cases e
  · obtain ⟨v, u, rfl, hx, hy⟩ := dpa2 hv
    cases x <;> first | (cases e; done) | skip
    cases y <;> first | (cases e; done) | skip
    cases dp_int hx
    cases dp_int hy
    simp only [cMax, Option.some.injEq] at e
    subst e
    exact ⟨_, _, rfl, k _ fun H' => .int _⟩
  · cases x <;> cases y <;> cases e
theorem cal_min (hc : X.calm = true) : CalB X (.builtin "min") cMin := fun ds d e => by
  refine ⟨_, call_min2 hc, fun H vs Q hv k => ?_⟩
  rcases ds with _ | ⟨x, _ | ⟨y, _ | ⟨z, r⟩⟩⟩
  · cases e
  · cases x <;> cases e
  · obtain ⟨v, u, rfl, hx, hy⟩ := dpa2 hv
    cases x <;> first | (cases e; done) | skip
    cases y <;> first | (cases e; done) | skip
    cases dp_int hx
    cases dp_int hy
    simp only [cMin, Option.some.injEq] at e
    subst e
    exact ⟨_, _, rfl, k _ fun H' => .int _⟩
  · cases x <;> cases y <;> cases e
/-- any, all of a list of bools -/
def bools : List PyData → Option (List Bool)
  | [] => some []
  | .bool b :: r => (bools r).map (b :: ·)
  | _ => none
theorem dpa_bools {K : PySem.W.Frag} {H : Hp} : ∀ {ds : List PyData} {vs : List V} {bs : List Bool}, DpAll K H vs ds → bools ds = some bs → vs = bs.map V.bl
  | [], _, _, .nil, e => by cases e; rfl
  | d :: ds, _, bs, .cons h t, e => by
    cases d with
    | bool b =>
      cases dp_bool h
      simp only [bools] at e
      cases hb : bools ds with
      | none => rw [hb] at e; cases e
      | some bs' =>
        rw [hb] at e
        cases e
        rw [dpa_bools t hb]
        rfl
    | _ => cases e
def cAll : List PyData → Option PyData
  | [.list xs] => (bools xs).map fun bs => .bool (bs.all id)
  | _ => none
def cAny : List PyData → Option PyData
  | [.list xs] => (bools xs).map fun bs => .bool (bs.any id)
  | _ => none
theorem cal_all (hc : X.calm = true) : CalB X (.builtin "all") cAll := fun ds d e => by
  refine ⟨_, cr_all hc, fun H vs Q hv k => ?_⟩
  rcases ds with _ | ⟨x, _ | ⟨y, r⟩⟩
  · cases e
  · obtain ⟨v, rfl, hx⟩ := dpa1 hv
    cases x with
    | list xs =>
      obtain ⟨p, ys, rfl, p1, p2⟩ := dp_lst hx
      simp only [cAll] at e
      cases hb : bools xs with
      | none => rw [hb] at e; cases e
      | some bs =>
        rw [hb] at e
        cases e
        have e2 := dpa_bools p2 hb
        subst e2
        exact ⟨p, bs, rfl, p1, k _ fun H' => .bl _⟩
    | _ => cases e
  · cases x <;> cases e
theorem cal_any (hc : X.calm = true) : CalB X (.builtin "any") cAny := fun ds d e => by
  refine ⟨_, cr_any hc, fun H vs Q hv k => ?_⟩
  rcases ds with _ | ⟨x, _ | ⟨y, r⟩⟩
  · cases e
  · obtain ⟨v, rfl, hx⟩ := dpa1 hv
    cases x with
    | list xs =>
      obtain ⟨p, ys, rfl, p1, p2⟩ := dp_lst hx
      simp only [cAny] at e
      cases hb : bools xs with
      | none => rw [hb] at e; cases e
      | some bs =>
        rw [hb] at e
        cases e
        have e2 := dpa_bools p2 hb
        subst e2
        exact ⟨p, bs, rfl, p1, k _ fun H' => .bl _⟩
    | _ => cases e
  · cases x <;> cases e
end

/-! ### kinds of values -/
def tyName : PyData → String
  | .none => "NoneType"
  | .bool _ => "bool"
  | .int _ => "int"
  | .str _ => "str"
  | .list _ => "list"
  | .tuple _ => "tuple"
  | .dict _ => "dict"
theorem dp_ty {K : PySem.W.Frag} {H : Hp} {v : V} {d : PyData} (h : Dp K H v d) : TyX K H v (.type (tyName d)) := by
  cases h with
  | non => exact .base .non
  | bl b => exact .base (.bl b)
  | int b => exact .base (.int b)
  | str b => exact .base (.str b)
  | lst h _ =>
    rcases h with (h | ⟨o, h⟩) | ⟨o, its, n, h1, h2, _⟩
    · exact .base (.lst h)
    · exact .base (.frz h)
    · exact .kList h1 h2
  | tup h _ =>
    rcases h with (h | ⟨o, h⟩) | ⟨o, its, n, h1, h2, _⟩
    · exact .base (.tup h)
    · exact .fTuple h
    · exact .kTuple h1 h2
def isiD (T : String) (d : PyData) : Bool := match T, d with
  | "int", .int _ => true
  | "int", .bool _ => true
  | "bool", .bool _ => true
  | "str", .str _ => true
  | "list", .list _ => true
  | "tuple", .tuple _ => true
  | _, _ => false
/-- the types that isiD knows -/
def isiT (T : String) : Bool := T == "int" || T == "bool" || T == "str" || T == "list" || T == "tuple"
theorem isiD_ok {T : String} (h : isiT T = true) (d : PyData) (hd : ∀ kv, d ≠ .dict kv) : kitB (tyName d) T = some (isiD T d) := by
  unfold isiT at h
  simp only [Bool.or_eq_true, beq_iff_eq] at h
  rcases h with (((h | h) | h) | h) | h <;> subst h <;> cases d <;> first | exact absurd rfl (hd _) | rfl | decide +kernel
def isiO (T : String) : PyData → Option PyData
  | .dict _ => none
  | d => some (.bool (isiD T d))
section
variable {X : Cx} {W : WX} {e : Expr} {f : E} {pos p p2 p3 : Pos} {T : String}
theorem ce_isi {x : Str} (hT : isiT T = true) (hg : Gl X "isinstance") (hm : X.mg "isinstance" = none) (hg2 : Gl X x) (hm2 : X.mg x = none) (hv2 : bootBuiltins x = some (.type T)) (hn2 : x ≠ "__name__") (hd2 : (x == ("__debug__" : Str)) = false)
    (h : CB X W e f) (he : starEach [e, .Name x p2] X.env = (false, eval e X.env) :: starEach [.Name x p2] X.env := by rfl) (he2 : starEach [.Name x p2] X.env = (false, eval (.Name x p2) X.env) :: starEach [] X.env := by rfl)
    (hpl : (backTo pos (starEach [.Name x p2] X.env)).any (·.1) = false := by rfl) :
    CE X W (.Call (.Name "isinstance" p) [e, .Name x p2] [] pos) (fun env => f env >>= fun d => ofO (isiO T d)) := fun Z env σ H O Q r q => by
  have hb : PE X (.Name x p2) (tC (.ty T)) := pe_bltn hg2 hm2 hv2 rfl hn2 hd2
  refine wp_e (pe_callB call_isi hg hm (by decide +kernel) (pa_cons pe_wp (pa_cons hb pa_nil he2) he) (by decide) (by decide) he hpl) ?_
  refine h.go r q fun d v H1 e1 d1 r1 q1 => ?_
  cases d with
  | dict _ => exact q1.elim
  | _ => exact ⟨v, .ty T, _, .type T, _, rfl, .ty T, dp_ty (Ext.unhid.dp d1), kit_ty (isiD_ok hT _ (by intro _ z; cases z)), q1.here _ (.bl _)⟩
end
end PD
set_option Elab.async false
set_option linter.all false
set_option maxRecDepth 100000
set_option maxHeartbeats 4000000
namespace PD
open PySem PySem.Spec PyProof.Rows L2

section
variable {X : Cx} {W : WX} {e a b : Expr} {es : List Expr} {f fa fb : E} {Z : Zn} {env : Env} {σ : Sg} {H : Hp} {O : List Addr} {pos : Pos}

/-! ### a list of the frame's own, read -/
theorem own_read {i : Nat} {x : Str} {pos : Pos} {ds : List PyData} {Q : VK} (r : Rep X.K Z env σ H O) (he : env[i]? = some (some (.own ds))) (hN : X.N[i]? = some x) (hv : Vis X.env.scope x) (hd : (x == ("__debug__" : Str)) = false) (hcd : (x == ("__classdict__" : Str)) = false)
    (k : ∀ p vs, σ[i]? = some (some (.ref p)) → p ∈ O → p ∉ Z.Oc → H p = some (.lst vs) → DpAll X.K (hid O H) vs ds → Q (.ref p) H) : wpE X (.Name x pos) σ H Q := by
  obtain ⟨v, h1, p, vs, rfl, h2, h3, h4, h5⟩ := r.sl i _ he
  exact wp_e (pe_var hN hv hd hcd) ⟨_, h1, k p vs h1 h2 h3 h4 h5⟩
/-- a name, whatever it holds, for a reader that keeps nothing of it -/
def gb (env : Env) (i : Nat) : RO PyData := match env[i]? with
  | some (some (.fz d)) => .ok d
  | some (some (.own ds)) => .ok (.list ds)
  | _ => .no
theorem cb_var (i : Nat) {x : Str} {pos : Pos} (hN : X.N[i]? = some x := by rfl) (hv : Vis X.env.scope x := by first | exact Or.inl rfl | exact Or.inr (Or.inl rfl) | exact Or.inr (Or.inr rfl)) (hd : (x == ("__debug__" : Str)) = false := by decide)
    (hcd : (x == ("__classdict__" : Str)) = false := by decide) : CB X W (.Name x pos) (fun env => gb env i) := fun Z env σ H O Q r q => by
  have q : ROk X W σ O (VQ X.K Z.Oc Q) H (gb env i) := q
  unfold gb at q
  cases he : env[i]? with
  | none => rw [he] at q; exact q.elim
  | some s =>
    cases s with
    | none => rw [he] at q; exact q.elim
    | some s =>
      cases s with
      | fz d =>
        rw [he] at q
        obtain ⟨v, h1, h2⟩ := r.sl i _ he
        exact wp_e (pe_var hN hv hd hcd) ⟨v, h1, q.here v ((Ext.hid_sub r.sub).dp h2)⟩
      | own ds =>
        rw [he] at q
        refine own_read r he hN hv hd hcd fun p vs h1 h2 h3 h4 h5 => q.here _ (.lst (SqL.of ?_) ((Ext.hid_sub r.sub).dpa h5))
        rw [hid_out h3]
        exact h4

/-! ### a[b] -/
def dIx : PyData → PyData → Option PyData
  | .list xs, .int i => atI xs i
  | .tuple xs, .int i => atI xs i
  | .str z, .int i => if z.length ≤ sizeLine then (atI z.cps.toList i).map fun c => .str ⟨#[c]⟩ else none
  | _, _ => none
theorem at_dpa {K : PySem.W.Frag} {vs : List V} {ds : List PyData} {i : Int} {d : PyData} (h : DpAll K H vs ds) (e : atI ds i = some d) : ∃ v, atI vs i = some v ∧ Dp K H v d := by
  unfold atI at e ⊢
  rw [dpa_len h]
  cases hj : ixN ds.length i with
  | none => rw [hj] at e; cases e
  | some j =>
    rw [hj] at e
    obtain ⟨v, h1, h2⟩ := dpa_get h e
    exact ⟨v, h1, h2⟩
theorem ix_ok {K : PySem.W.Frag} {vx : V} {dx d : PyData} {i : Int} {Q : VK} (hx : Dp K (hid O H) vx dx) (e : dIx dx (.int i) = some d) (k : ∀ v, Dp K (hid O H) v d → Q v H) : rIx K vx (.int i) H Q := by
  cases dx with
  | list xs =>
    obtain ⟨p, vs, rfl, h1, h2⟩ := dp_lst hx
    obtain ⟨v, e1, e2⟩ := at_dpa h2 e
    exact .inl ⟨p, vs, i, v, rfl, rfl, Ext.unhid.sl h1, e1, k v e2⟩
  | tuple xs =>
    obtain ⟨p, vs, rfl, h1, h2⟩ := dp_tup hx
    obtain ⟨v, e1, e2⟩ := at_dpa h2 e
    exact .inr (.inl ⟨p, vs, i, v, rfl, rfl, Ext.unhid.st h1, e1, k v e2⟩)
  | str z =>
    cases dp_str hx
    simp only [dIx] at e
    split at e
    · rename_i hz
      cases hc : atI z.cps.toList i with
      | none => rw [hc] at e; cases e
      | some c =>
        rw [hc] at e
        cases e
        exact .inr (.inr ⟨z, i, c, rfl, rfl, hz, hc, k _ (.str _)⟩)
    · cases e
  | _ => cases e
theorem ce_ix (ha : CE X W a fa) (hb : CE X W b fb) (hs : PlainIx b := by exact fun _ _ => rfl) : CE X W (.Subscript a b pos) (fun env => fa env >>= fun x => fb env >>= fun y => ofO (dIx x y)) := fun Z env σ H O Q r q => by
  refine wp_e (pe_ix ix_seq pe_wp pe_wp hs) ?_
  refine ha.go r q fun dx vx H1 e1 d1 r1 q1 => ?_
  refine hb.go r1 q1 fun dy vy H2 e2 d2 r2 q2 => ?_
  cases e : dIx dx dy with
  | none => rw [e] at q2; exact q2.elim
  | some d =>
    rw [e] at q2
    cases dy with
    | int i =>
      cases dp_int d2
      exact ix_ok ((e2.hid O).dp d1) e fun v hv => q2.here v hv
    | _ => cases dx <;> cases e
/-- the same of a list of the frame's own -/
theorem ce_ixO (i : Nat) {x : Str} {p : Pos} (hb : CE X W b fb) (hN : X.N[i]? = some x := by rfl) (hv : Vis X.env.scope x := by first | exact Or.inl rfl | exact Or.inr (Or.inl rfl) | exact Or.inr (Or.inr rfl)) (hd : (x == ("__debug__" : Str)) = false := by decide)
    (hcd : (x == ("__classdict__" : Str)) = false := by decide) (hs : PlainIx b := by exact fun _ _ => rfl) : CE X W (.Subscript (.Name x p) b pos) (fun env => gvo env i >>= fun xs => fb env >>= fun y => ofO (dIx (.list xs) y)) := fun Z env σ H O Q r q => by
  refine wp_e (pe_ix ix_seq pe_wp pe_wp hs) ?_
  rcases gvo_cases env i with ⟨ds, he⟩ | he
  · dsimp only at q
    rw [he] at q
    have q' : ROk X W σ O (VQ X.K O Q) H (fb env >>= fun y => ofO (dIx (.list ds) y)) := q
    refine own_read r (gvo_ok he) hN hv hd hcd fun p vs h1 h2 h3 h4 h5 => ?_
    refine hb.go r q' fun dy vy H2 e2 d2 r2 q2 => ?_
    cases e : dIx (.list ds) dy with
    | none => rw [e] at q2; exact q2.elim
    | some d =>
      rw [e] at q2
      cases dy with
      | int i =>
        cases dp_int d2
        obtain ⟨v, e3, e4⟩ := at_dpa ((e2.hid O).dpa h5) e
        exact .inl ⟨p, vs, i, v, rfl, rfl, SqL.of (e2.lst h4), e3, q2.here v e4⟩
      | _ => cases e
  · dsimp only at q
    rw [he] at q
    exact q.elim

/-! ### slices -/
def cutD {α : Type} (xs : List α) (lo hi : Option Int) : List α := (xs.drop (HT.sIx xs.length 0 lo)).take (HT.sIx xs.length xs.length hi - HT.sIx xs.length 0 lo)
theorem cut_dpa {K : PySem.W.Frag} {vs : List V} {ds : List PyData} (h : DpAll K H vs ds) (lo hi : Option Int) : DpAll K H (cutV vs lo hi) (cutD ds lo hi) := by
  unfold cutV cutD
  rw [dpa_len h]
  exact dpa_take _ (dpa_drop _ h)
/-- a part of a slice -/
def CO (X : Cx) (W : WX) (e : Option Expr) (f : Env → RO (Option Int)) : Prop := ∀ Z env σ H O Q, Rep X.K Z env σ H O → ROk X W σ O Q H (f env) → ∃ t, PO X e t ∧ t σ H Q
def tI (d : PyData) : RO Int := match d with
  | .int i => .ok i
  | _ => .no
theorem co_none : CO X W none (fun _ => .ok none) := fun Z env σ H O Q r q => ⟨_, po_none, q.here⟩
theorem co_some (h : CE X W e f) : CO X W (some e) (fun env => f env >>= tI >>= fun i => .ok (some i)) := fun Z env σ H O Q r q => by
  refine ⟨_, po_some pe_wp, ?_⟩
  dsimp only at q
  rw [RO.assoc] at q
  refine h.go r q fun d v H1 e1 d1 r1 q1 => ?_
  cases d with
  | int i =>
    cases dp_int d1
    exact ⟨i, rfl, q1.here⟩
  | _ => exact q1.elim
def wpO (X : Cx) (e : Option Expr) : TO := fun σ H Q => ∀ pins s, Inv X pins σ H s → wpAny (model X.prog X.w) X.A (evalPart e X.env) (fun u s' => ∃ o H', Inv X pins σ H' s' ∧ IsPart u o ∧ Q o H') X.xe s
theorem po_wp {e : Option Expr} : PO X e (wpO X e) := ⟨fun pins s _ _ _ I h => h pins s I⟩
theorem CO.go {β : Type} {eo : Option Expr} {fo : Env → RO (Option Int)} {g : Option Int → RO β} {P : β → Hp → Prop} {Q : Option Int → Hp → Prop} (h : CO X W eo fo) (r : Rep X.K Z env σ H O) (q : ROk X W σ O P H (fo env >>= g))
    (k : ∀ d H1, Ext H H1 → Rep X.K Z env σ H1 O → ROk X W σ O P H1 (g d) → Q d H1) : wpO X eo σ H Q := by
  obtain ⟨t, h1, h2⟩ := h Z env σ H O Q r (q.then fun d H1 _ e1 q1 => k d H1 e1 (r.mono e1) q1)
  exact fun pins s I => h1.run pins s σ H Q I h2
def dCut (x : PyData) (lo hi : Option Int) : RO PyData := match x with
  | .list xs => .ok (.list (cutD xs lo hi))
  | .tuple xs => .ok (.tuple (cutD xs lo hi))
  | .str z => if z.length ≤ sizeLine then .ok (.str (cutS z lo hi)) else .no
  | _ => .no
variable {lo hi : Option Expr} {fl fh : Env → RO (Option Int)} {p2 : Pos}
abbrev rSl3 (K : PySem.W.Frag) : V → Option Int → Option Int → Hp → VK → Prop := fun x l h H Q => rSlL K x l h H Q ∨ (rSlA K x l h H Q ∨ rSlS x l h H Q)
theorem cut_whole {xs : List PyData} {l h : Option Int} (e : HT.sIx xs.length 0 l = 0 ∧ HT.sIx xs.length xs.length h = xs.length) : cutD xs l h = xs := by
  unfold cutD
  rw [e.1, e.2, Nat.sub_zero, List.drop_zero, List.take_length]
theorem ce_slice (ha : CE X W a fa) (h1 : CO X W lo fl) (h2 : CO X W hi fh) : CE X W (.Subscript a (.Slice lo hi none p2) pos) (fun env => fa env >>= fun x => fl env >>= fun l => fh env >>= fun u => dCut x l u) := fun Z env σ H O Q r q => by
  refine wp_e (pe_slice (r := rSl3 X.K) (sl_list.or (sl_tupA.or sl_str)) pe_wp po_wp po_wp) ?_
  refine ha.go r q fun dx vx H1 e1 d1 r1 q1 => ?_
  refine h1.go r1 q1 fun l H2 e2 r2 q2 => ?_
  refine h2.go r2 q2 fun u H3 e3 r3 q3 => ?_
  have d3 := ((e2.trans e3).hid O).dp d1
  cases dx with
  | list xs =>
    obtain ⟨p, vs, rfl, p1, p2⟩ := dp_lst d3
    exact .inl ⟨p, vs, rfl, Ext.unhid.sl p1, fun t ht => q3 _ (Ext.new ht) _ (dp_newL r3.lv ht (cut_dpa p2 l u))⟩
  | tuple xs =>
    obtain ⟨p, vs, rfl, p1, p2⟩ := dp_tup d3
    refine .inr (.inl ⟨p, vs, rfl, Ext.unhid.st p1, fun hw => q3.here _ ?_, fun _ t ht => q3 _ (Ext.new ht) _ (dp_newT r3.lv ht (cut_dpa p2 l u))⟩)
    rw [dpa_len p2] at hw
    rw [cut_whole hw]
    exact d3
  | str z =>
    cases dp_str d3
    have q4 : ROk X W σ O (VQ X.K O Q) H3 (if z.length ≤ sizeLine then .ok (.str (cutS z l u)) else .no) := q3
    by_cases hz : z.length ≤ sizeLine
    · rw [if_pos hz] at q4
      exact .inr (.inr ⟨z, rfl, hz, q4.here _ (.str _)⟩)
    · rw [if_neg hz] at q4
      exact q4.elim
  | _ => exact q3.elim
/-- a slice of a list, as a new list -/
def lCut (x : PyData) (lo hi : Option Int) : RO (List PyData) := match x with
  | .list xs => .ok (cutD xs lo hi)
  | _ => .no
theorem cl_slice (ha : CE X W a fa) (h1 : CO X W lo fl) (h2 : CO X W hi fh) : CL X W (.Subscript a (.Slice lo hi none p2) pos) (fun env => fa env >>= fun x => fl env >>= fun l => fh env >>= fun u => lCut x l u) := fun Z env σ H O Q r q => by
  refine wp_e (pe_slice sl_list pe_wp po_wp po_wp) ?_
  refine ha.go r q fun dx vx H1 e1 d1 r1 q1 => ?_
  refine h1.go r1 q1 fun l H2 e2 r2 q2 => ?_
  refine h2.go r2 q2 fun u H3 e3 r3 q3 => ?_
  have d3 := ((e2.trans e3).hid O).dp d1
  cases dx with
  | list xs =>
    obtain ⟨p, vs, rfl, p1, p2⟩ := dp_lst d3
    exact ⟨p, vs, rfl, Ext.unhid.sl p1, fun t ht => q3.here t _ ht (cut_dpa p2 l u)⟩
  | _ => exact q3.elim
/-- a slice of a list of the frame's own -/
theorem cl_sliceO (i : Nat) {x : Str} {p : Pos} (h1 : CO X W lo fl) (h2 : CO X W hi fh) (hN : X.N[i]? = some x := by rfl) (hv : Vis X.env.scope x := by first | exact Or.inl rfl | exact Or.inr (Or.inl rfl) | exact Or.inr (Or.inr rfl)) (hd : (x == ("__debug__" : Str)) = false := by decide)
    (hcd : (x == ("__classdict__" : Str)) = false := by decide) : CL X W (.Subscript (.Name x p) (.Slice lo hi none p2) pos) (fun env => gvo env i >>= fun xs => fl env >>= fun l => fh env >>= fun u => .ok (cutD xs l u)) := fun Z env σ H O Q r q => by
  refine wp_e (pe_slice sl_list pe_wp po_wp po_wp) ?_
  rcases gvo_cases env i with ⟨ds, he⟩ | he
  · dsimp only at q
    rw [he] at q
    have q' : ROk X W σ O (LQ X.K O Q) H (fl env >>= fun l => fh env >>= fun u => .ok (cutD ds l u)) := q
    refine own_read r (gvo_ok he) hN hv hd hcd fun p vs s1 s2 s3 s4 s5 => ?_
    refine h1.go r q' fun l H2 e2 r2 q2 => ?_
    refine h2.go r2 q2 fun u H3 e3 r3 q3 => ?_
    exact ⟨p, vs, rfl, SqL.of ((e2.trans e3).lst s4), fun t ht => q3.here t _ ht (cut_dpa (((e2.trans e3).hid O).dpa s5) l u)⟩
  · dsimp only at q
    rw [he] at q
    exact q.elim

/-! ### tuple(x), list(x) -/
section
variable {x : Str} {p : Pos}
def dSeq (d : PyData) : RO (List PyData) := match d with
  | .list xs => .ok xs
  | .tuple xs => .ok xs
  | _ => .no
theorem cl_list (h : CE X W e f) (hg : Gl X "list") (hm : X.mg "list" = none) (he : starEach [e] X.env = (false, eval e X.env) :: starEach [] X.env := by rfl) (hpl : (backTo pos (starEach [] X.env)).any (·.1) = false := by rfl) :
    CL X W (.Call (.Name "list" p) [e] [] pos) (fun env => f env >>= dSeq) := fun Z env σ H O Q r q => by
  refine wp_e (pe_callTy call_list_of hg hm (by decide +kernel) (pa_cons pe_wp pa_nil he) (by decide) (by decide) he hpl) ?_
  refine h.go r q fun d v H1 e1 d1 r1 q1 => ?_
  cases d with
  | list xs =>
    obtain ⟨p, vs, rfl, p1, p2⟩ := dp_lst d1
    exact ⟨p, vs, rfl, .inl (Ext.unhid.sl p1), fun t ht => q1.here t _ ht p2⟩
  | tuple xs =>
    obtain ⟨p, vs, rfl, p1, p2⟩ := dp_tup d1
    exact ⟨p, vs, rfl, .inr (Ext.unhid.st p1), fun t ht => q1.here t _ ht p2⟩
  | _ => exact q1.elim
theorem ce_tuple (h : CE X W e f) (hg : Gl X "tuple") (hm : X.mg "tuple" = none) (he : starEach [e] X.env = (false, eval e X.env) :: starEach [] X.env := by rfl) (hpl : (backTo pos (starEach [] X.env)).any (·.1) = false := by rfl) :
    CE X W (.Call (.Name "tuple" p) [e] [] pos) (fun env => f env >>= dSeq >>= fun xs => .ok (.tuple xs)) := fun Z env σ H O Q r q => by
  dsimp only at q
  rw [RO.assoc] at q
  refine wp_e (pe_callTy call_tuple_of hg hm (by decide +kernel) (pa_cons pe_wp pa_nil he) (by decide) (by decide) he hpl) ?_
  refine h.go r q fun d v H1 e1 d1 r1 q1 => ?_
  cases d with
  | list xs =>
    obtain ⟨p, vs, rfl, p1, p2⟩ := dp_lst d1
    exact ⟨p, vs, rfl, .inl ⟨Ext.unhid.sl p1, fun t ht => q1 _ (Ext.new ht) _ (dp_newT r1.lv ht p2)⟩⟩
  | tuple xs =>
    obtain ⟨p, vs, rfl, p1, p2⟩ := dp_tup d1
    exact ⟨p, vs, rfl, .inr ⟨Ext.unhid.st p1, q1.here _ d1⟩⟩
  | _ => exact q1.elim
theorem ce_tupleO (i : Nat) {p2 : Pos} (hg : Gl X "tuple") (hm : X.mg "tuple" = none) (hN : X.N[i]? = some x := by rfl) (hv : Vis X.env.scope x := by first | exact Or.inl rfl | exact Or.inr (Or.inl rfl) | exact Or.inr (Or.inr rfl)) (hd : (x == ("__debug__" : Str)) = false := by decide)
    (hcd : (x == ("__classdict__" : Str)) = false := by decide) (he : starEach [.Name x p2] X.env = (false, eval (.Name x p2) X.env) :: starEach [] X.env := by rfl) (hpl : (backTo pos (starEach [] X.env)).any (·.1) = false := by rfl) :
    CE X W (.Call (.Name "tuple" p) [.Name x p2] [] pos) (fun env => gvo env i >>= fun xs => .ok (.tuple xs)) := fun Z env σ H O Q r q => by
  refine wp_e (pe_callTy call_tuple_of hg hm (by decide +kernel) (pa_cons pe_wp pa_nil he) (by decide) (by decide) he hpl) ?_
  rcases gvo_cases env i with ⟨ds, hi⟩ | hi
  · dsimp only at q
    rw [hi] at q
    exact own_read r (gvo_ok hi) hN hv hd hcd fun p vs s1 s2 s3 s4 s5 => ⟨p, vs, rfl, .inl ⟨SqL.of s4, fun t ht => q _ (Ext.new ht) _ (dp_newT r.lv ht s5)⟩⟩
  · dsimp only at q
    rw [hi] at q
    exact q.elim
/-- len(x) of a list of the frame's own -/
theorem ce_lenO (i : Nat) {p2 : Pos} (hg : Gl X "len") (hm : X.mg "len" = none) (hN : X.N[i]? = some x := by rfl) (hv : Vis X.env.scope x := by first | exact Or.inl rfl | exact Or.inr (Or.inl rfl) | exact Or.inr (Or.inr rfl)) (hd : (x == ("__debug__" : Str)) = false := by decide)
    (hcd : (x == ("__classdict__" : Str)) = false := by decide) (he : starEach [.Name x p2] X.env = (false, eval (.Name x p2) X.env) :: starEach [] X.env := by rfl) (hpl : (backTo pos (starEach [] X.env)).any (·.1) = false := by rfl) :
    CE X W (.Call (.Name "len" p) [.Name x p2] [] pos) (fun env => gvo env i >>= fun xs => .ok (.int xs.length)) := fun Z env σ H O Q r q => by
  refine wp_e (pe_callB call_len_seq hg hm PySem.boot_len (pa_cons pe_wp pa_nil he) (by decide) (by decide) he hpl) ?_
  rcases gvo_cases env i with ⟨ds, hi⟩ | hi
  · dsimp only at q
    rw [hi] at q
    refine own_read r (gvo_ok hi) hN hv hd hcd fun p vs s1 s2 s3 s4 s5 => ⟨p, vs, rfl, .inl (SqL.of s4), ?_⟩
    rw [dpa_len s5]
    exact ROk.here q _ (.int _)
  · dsimp only at q
    rw [hi] at q
    exact q.elim
end
end
end PD
set_option Elab.async false
set_option linter.all false
set_option maxRecDepth 100000
set_option maxHeartbeats 4000000
namespace PD
open PySem PySem.Spec PyProof.Rows L2

/-! ### targets -/
def GOk (r : RO Env) (P : Env → Prop) : Prop := match r with
  | .ok e => P e
  | _ => False
abbrev G := PyData → Env → RO Env
abbrev Gs := List PyData → Env → RO Env
def wpGs (X : Cx) (ts : List Expr) : TGs := fun vs σ H Q => ∀ pins s us, Inv X pins σ H s → Vals vs us → wpAny (model X.prog X.w) X.A (assignInOrder ((assignEach ts X.env).map (·.2)) us) (fun _ s' => ∃ σ' H', Inv X pins σ' H' s' ∧ Q σ' H') X.xe s
def CG (X : Cx) (tg : Expr) (is : List Nat) (g : G) : Prop := ∀ Z env σ H O v d (Q : L2.St → Hp → Prop), Rep X.K Z env σ H O → Dp X.K (hid O H) v d →
  GOk (g d env) (fun env' => ∀ σ' : Sg, Rep X.K Z env' σ' H O → σ'.length = σ.length → (∀ j, j ∉ is → σ'[j]? = σ[j]?) → Q σ' H) → wpG X tg v σ H Q
def CGs (X : Cx) (ts : List Expr) (is : List Nat) (g : Gs) : Prop := ∀ Z env σ H O vs ds (Q : L2.St → Hp → Prop), Rep X.K Z env σ H O → DpAll X.K (hid O H) vs ds →
  GOk (g ds env) (fun env' => ∀ σ' : Sg, Rep X.K Z env' σ' H O → σ'.length = σ.length → (∀ j, j ∉ is → σ'[j]? = σ[j]?) → Q σ' H) → wpGs X ts vs σ H Q
section
variable {X : Cx} {W : WX} {pos : Pos} {t : Expr} {ts : List Expr} {g : G} {gs : Gs} {is js : List Nat}
theorem pgs_wp : PGs X ts (wpGs X ts) := ⟨fun pins s _ _ _ us _ I r h => h pins s us I r⟩
def gN (i : Nat) : G := fun d env => .ok (env.set i (some (.fz d)))
def gsN : Gs := fun ds env => match ds with
  | [] => .ok env
  | _ => .no
def gsC (g : G) (gs : Gs) : Gs := fun ds env => match ds with
  | d :: r => g d env >>= fun e1 => gs r e1
  | [] => .no
def gT (n : Nat) (gs : Gs) : G := fun d env => match d with
  | .tuple ds => if ds.length = n then gs ds env else .no
  | .list ds => if ds.length = n then gs ds env else .no
  | _ => .no
theorem cg_name (i : Nat) {x : Str} (hN : X.N.Nodup) (hi : X.N[i]? = some x) (hx : Loc X.env.scope x) (hf : X.fn x = true ∨ X.env.scope.names.lookup x = some .local := by first | exact .inl rfl | exact .inr rfl | assumption) : CG X (.Name x pos) [i] (gN i) := fun Z env σ H O v d Q r h q =>
  wp_g (pg_name hN hi hx hf) (q _ (r.setFz i h) (by simp) fun j hj => List.getElem?_set_ne (fun z => hj (by simp [z])))
theorem cgs_nil : CGs X [] [] gsN := fun Z env σ H O vs ds Q r h q => by
  intro pins s us I rv
  cases ds with
  | nil =>
    cases h
    cases rv
    exact assignInOrder_nil ⟨σ, H, I, q σ r rfl fun _ _ => rfl⟩
  | cons _ _ => exact q.elim
theorem cgs_cons (h1 : CG X t is g) (h2 : CGs X ts js gs) (hs : (assignEach (t :: ts) X.env).map (·.2) = assign t X.env :: (assignEach ts X.env).map (·.2) := by rfl) : CGs X (t :: ts) (is ++ js) (gsC g gs) := fun Z env σ H O vs ds Q r h q => by
  intro pins s us I rv
  cases ds with
  | nil => exact q.elim
  | cons d ds =>
    cases h with
    | cons hv hr =>
      cases rv with
      | cons r1 r2 =>
        rw [hs]
        have q' : GOk (g d env >>= fun e1 => gs ds e1) _ := q
        cases hg : g d env with
        | ok e1 =>
          rw [hg] at q'
          refine assignInOrder_cons (thn (h1 Z env σ H O _ d (fun σ1 H1 => H1 = H ∧ Rep X.K Z e1 σ1 H O ∧ σ1.length = σ.length ∧ ∀ j, j ∉ is → σ1[j]? = σ[j]?) r hv (by rw [hg]; exact fun σ' a b c => ⟨rfl, a, b, c⟩) pins s _ I r1) fun _ s1 ⟨σ1, H1, I1, e, rp, l1, k1⟩ => ?_)
          subst e
          exact h2 Z e1 σ1 H1 O _ ds Q rp hr (by
            have q2 : GOk (gs ds e1) _ := q'
            cases hg2 : gs ds e1 with
            | ok e2 =>
              rw [hg2] at q2
              exact fun σ' a b c => q2 σ' a (b.trans l1) fun j hj => (c j fun z => hj (List.mem_append_right _ z)).trans (k1 j fun z => hj (List.mem_append_left _ z))
            | er _ _ => rw [hg2] at q2; exact q2.elim
            | no => rw [hg2] at q2; exact q2.elim) pins s1 _ I1 r2
        | er _ _ => rw [hg] at q'; exact q'.elim
        | no => rw [hg] at q'; exact q'.elim
theorem cg_tup {k : Nat} {n : Nat} (hc : X.calm = true) (h : CGs X ts is gs) (hn : (assignEach ts X.env).length = n := by rfl) (hst : (assignEach ts X.env).findIdx? (·.1) = none := by rfl) : CG X (.Tuple ts k pos) is (gT n gs) := fun Z env σ H O v d Q r hv q => by
  cases d with
  | tuple ds =>
    obtain ⟨p, vs, rfl, h1, h2⟩ := dp_tup hv
    have q' : GOk (if ds.length = n then gs ds env else .no) _ := q
    by_cases z : ds.length = n
    · rw [if_pos z] at q'
      exact wp_g (pg_tup hc pgs_wp hn hst) ⟨p, vs, rfl, Ext.unhid.st h1, by rw [dpa_len h2]; exact z, h Z env σ H O vs ds Q r h2 q'⟩
    · rw [if_neg z] at q'
      exact q'.elim
  | list ds =>
    obtain ⟨p, vs, rfl, h1, h2⟩ := dp_lst hv
    have q' : GOk (if ds.length = n then gs ds env else .no) _ := q
    by_cases z : ds.length = n
    · rw [if_pos z] at q'
      exact wp_g (pg_lst hc pgs_wp hn hst) ⟨p, vs, rfl, Ext.unhid.sl h1, by rw [dpa_len h2]; exact z, h Z env σ H O vs ds Q r h2 q'⟩
    · rw [if_neg z] at q'
      exact q'.elim
  | _ => exact q.elim
end

/-! ### what is walked -/
structure WalkD (K : PySem.W.Frag) (O : List Addr) (H : Hp) (J : It) (ds : List PyData) : Prop where
  go : ∀ i d O1 H1, ds[i]? = some d → Ext (hid O H) (hid O1 H1) → Lv O1 H1 → J.go i H1 ∧ ∀ x H2, J.yld i H1 x H2 → Ext H1 H2 ∧ Dp K (hid O1 H2) x d
  stop : ∀ i O1 H1, ds.length ≤ i → Ext (hid O H) (hid O1 H1) → J.stop i H1
def IQ (K : PySem.W.Frag) (O : List Addr) (R : It → Hp → Prop) (ds : List PyData) (H : Hp) : Prop := ∀ J, WalkD K O H J ds → R J H
/-- the items of the own list of slot i -/
def CIO (X : Cx) (tg it : Expr) (i : Nat) : Prop := ∀ Z env σ H O ds R, Rep X.K Z env σ H O → env[i]? = some (some (.own ds)) → (∀ p vs, p ∈ O → p ∉ Z.Oc → H p = some (.lst vs) → DpAll X.K (hid O H) vs ds → R (Itl X.K p) H) → wpI X tg it σ H R
def CI (X : Cx) (W : WX) (tg it : Expr) (f : Env → RO (List PyData)) : Prop := ∀ Z env σ H O R, Rep X.K Z env σ H O → ROk X W σ O (IQ X.K O R) H (f env) → wpI X tg it σ H R
section
variable {K : PySem.W.Frag} {O : List Addr} {H : Hp}
theorem walk_l {a : Addr} {vs : List V} {ds : List PyData} (h : SqL K (hid O H) a vs) (hd : DpAll K (hid O H) vs ds) : WalkD K O H (Itl K a) ds where
  go := fun i d O1 H1 e x l => by
    obtain ⟨v, h1, h2⟩ := dpa_get hd e
    have s1 : SqL K H1 a vs := Ext.unhid.sl (x.sl h)
    refine ⟨⟨vs, v, s1, h1⟩, fun y H2 ⟨e2, hy⟩ => ?_⟩
    subst e2
    have := hy vs s1
    rw [h1] at this
    cases this
    exact ⟨Ext.refl _, x.dp h2⟩
  stop := fun i O1 H1 hi x => ⟨vs, Ext.unhid.sl (x.sl h), by rw [dpa_len hd]; exact hi⟩
theorem walk_t {a : Addr} {vs : List V} {ds : List PyData} (h : SqT K (hid O H) a vs) (hd : DpAll K (hid O H) vs ds) : WalkD K O H (Itt K a) ds where
  go := fun i d O1 H1 e x l => by
    obtain ⟨v, h1, h2⟩ := dpa_get hd e
    have s1 : SqT K H1 a vs := Ext.unhid.st (x.st h)
    refine ⟨⟨vs, v, s1, h1⟩, fun y H2 ⟨e2, hy⟩ => ?_⟩
    subst e2
    have := hy vs s1
    rw [h1] at this
    cases this
    exact ⟨Ext.refl _, x.dp h2⟩
  stop := fun i O1 H1 hi x => ⟨vs, Ext.unhid.st (x.st h), by rw [dpa_len hd]; exact hi⟩
def strItems (x : Str) : List PyData := x.cps.toList.map fun c => .str ⟨#[c]⟩
theorem walk_s {x : Str} : WalkD K O H (Its x) (strItems x) where
  go := fun i d O1 H1 e xx l => by
    unfold strItems at e
    rw [List.getElem?_map] at e
    cases hc : x.cps.toList[i]? with
    | none => rw [hc] at e; cases e
    | some c =>
      rw [hc] at e
      cases e
      have hc' : x.cps[i]? = some c := by rw [← Array.getElem?_toList]; exact hc
      refine ⟨(Array.getElem?_eq_some_iff.mp hc').1, fun y H2 ⟨e2, c2, h2, e3⟩ => ?_⟩
      subst e2
      subst e3
      rw [hc'] at h2
      cases h2
      exact ⟨Ext.refl _, .str _⟩
  stop := fun i O1 H1 hi xx => by
    unfold strItems at hi
    rw [List.length_map, Array.length_toList] at hi
    exact hi
def rngItems (lo : Int) (n : Nat) : List PyData := (List.range n).map fun i => .int (lo + (i : Nat))
theorem walk_r {lo : Int} {n : Nat} : WalkD K O H (Itr lo n) (rngItems lo n) where
  go := fun i d O1 H1 e x l => by
    unfold rngItems at e
    rw [List.getElem?_map] at e
    by_cases hi : i < n
    · rw [List.getElem?_range hi] at e
      cases e
      refine ⟨hi, fun y H2 ⟨e2, e3⟩ => ?_⟩
      subst e2
      subst e3
      exact ⟨Ext.refl _, .int _⟩
    · rw [List.getElem?_eq_none (by simpa using hi)] at e
      cases e
  stop := fun i O1 H1 hi x => by
    unfold rngItems at hi
    rw [List.length_map, List.length_range] at hi
    exact hi
end
section
variable {X : Cx} {W : WX} {tg e a b c : Expr} {es : List Expr} {f fa fb : E} {pos p : Pos} {Z : Zn} {env : Env} {σ : Sg} {H : Hp} {O : List Addr}
/-- walking a value -/
def wpIt (X : Cx) (tg : Expr) (v : V) : L2.St → Hp → (It → Hp → Prop) → Prop := fun σ H R => ∀ pins s u, Inv X pins σ H s → RelV v u → wpAny (model X.prog X.w) X.A (pyIter u) (PIE X pins σ tg R) X.xe s
theorem pi_gen {t : TE} (h : PE X e t) : PI X tg e (fun σ H R => t σ H fun v H1 => wpIt X tg v σ H1 R) := ⟨fun pins s σ H R I hw => thn (h.run pins s σ H _ I hw) fun u s1 ⟨v, H1, I1, r1, q1⟩ => q1 pins s1 u I1 r1⟩
theorem it_list {a : Addr} {xs : List V} {R : It → Hp → Prop} (hq : SqL X.K H a xs) (q : R (Itl X.K a) H) : wpIt X tg (.ref a) σ H R := fun pins s1 u I1 r1 => by
  cases r1
  obtain ⟨its, rv, p, hz⟩ := I1.list hq
  refine wpAny_pyIter_list p.isList ?_
  refine ⟨s1.heap.objs.size, [s1.heap.objs.size], _, _, H, rfl, I1.kept (t' := s1.toks) fun b o e => Heap.get?_push_of_some _ e, turn_list a _, ⟨_, Heap.get?_push_size _ rfl, rfl, rfl⟩, fun b hb => ?_, q⟩
  have e : b = s1.heap.objs.size := by simpa using hb
  subst e
  exact I1.fpOk (Nat.le_refl _) (I1.hok.fresh (Nat.le_refl _))
theorem it_tup {a : Addr} {xs : List V} {R : It → Hp → Prop} (hq : SqT X.K H a xs) (q : R (Itt X.K a) H) : wpIt X tg (.ref a) σ H R := fun pins s1 u I1 r1 => by
  cases r1
  obtain ⟨its, rv, p, hz⟩ := I1.tuple hq
  refine wpAny_pyIter_tuple (show s1.heap.IsTuple a its.toArray from p) ?_
  refine ⟨s1.heap.objs.size, [s1.heap.objs.size], _, _, H, rfl, I1.kept (t' := s1.toks) fun b o e => Heap.get?_push_of_some _ e, turn_tuple a _, ⟨_, Heap.get?_push_size _ rfl, rfl, rfl⟩, fun b hb => ?_, q⟩
  have e : b = s1.heap.objs.size := by simpa using hb
  subst e
  exact I1.fpOk (Nat.le_refl _) (I1.hok.fresh (Nat.le_refl _))
theorem it_str {x : Str} {R : It → Hp → Prop} (q : R (Its x) H) : wpIt X tg (.str x) σ H R := fun pins s1 u I1 r1 => by
  obtain ⟨t, rfl⟩ := r1
  cases ha : x.cps.all (· < 128)
  · exact wpAny_pyIter_wide ha (pi_one (tk := s1.toks) I1 _ (turn_str _ x t "str_iterator" (.inr rfl)) ⟨_, Heap.get?_push_size _ rfl, rfl, rfl⟩ q)
  · exact wpAny_pyIter_ascii ha (pi_one (tk := s1.toks) I1 _ (turn_str _ x t "str_ascii_iterator" (.inl rfl)) ⟨_, Heap.get?_push_size _ rfl, rfl, rfl⟩ q)
def dIter (d : PyData) : RO (List PyData) := match d with
  | .list xs => .ok xs
  | .tuple xs => .ok xs
  | .str x => .ok (strItems x)
  | _ => .no
/-- for .. in a list, a tuple, a text -/
theorem ci_seq (h : CE X W e f) : CI X W tg e (fun env => f env >>= dIter) := fun Z env σ H O R r q => by
  refine wp_i (pi_gen pe_wp) ?_
  refine h.go r q fun d v H1 e1 d1 r1 q1 => ?_
  cases d with
  | list xs =>
    obtain ⟨p, vs, rfl, h1, h2⟩ := dp_lst d1
    exact it_list (Ext.unhid.sl h1) (q1.here _ (walk_l h1 h2))
  | tuple xs =>
    obtain ⟨p, vs, rfl, h1, h2⟩ := dp_tup d1
    exact it_tup (Ext.unhid.st h1) (q1.here _ (walk_t h1 h2))
  | str x =>
    cases dp_str d1
    exact it_str (q1.here _ walk_s)
  | _ => exact q1.elim
/-- for .. in a list of the frame's own, while nothing is changed -/
theorem ci_own (i : Nat) {x : Str} (hN : X.N[i]? = some x := by rfl) (hv : Vis X.env.scope x := by first | exact Or.inl rfl | exact Or.inr (Or.inl rfl) | exact Or.inr (Or.inr rfl)) (hd : (x == ("__debug__" : Str)) = false := by decide)
    (hcd : (x == ("__classdict__" : Str)) = false := by decide) : CIO X tg (.Name x pos) i := fun Z env σ H O ds R r he q => by
  refine wp_i (pi_gen pe_wp) ?_
  exact own_read r he hN hv hd hcd fun p vs h1 h2 h3 h4 h5 => it_list (SqL.of h4) (q p vs h2 h3 h4 h5)
def rng1 (d : PyData) : RO (List PyData) := match d with
  | .int j => if -(2 ^ 62) ≤ j ∧ j < 2 ^ 62 then .ok (rngItems 0 j.toNat) else .no
  | _ => .no
def rng2 (d e : PyData) : RO (List PyData) := match d, e with
  | .int i, .int j => if -(2 ^ 62) ≤ i ∧ i < 2 ^ 62 ∧ -(2 ^ 62) ≤ j ∧ j < 2 ^ 62 then .ok (rngItems i (j - i).toNat) else .no
  | _, _ => .no
theorem ci_range1 (h : CE X W a fa) (hg : Gl X "range") (hm : X.mg "range" = none) (hs : starEach [a] X.env = [(false, eval a X.env)] := by rfl) : CI X W tg (.Call (.Name "range" p) [a] [] pos) (fun env => fa env >>= rng1) := fun Z env σ H O R r q => by
  refine wp_i (pi_range1 hg hm (pa_cons pe_wp pa_nil (by rw [hs] <;> rfl)) hs) ?_
  refine h.go r q fun d v H1 e1 d1 r1 q1 => ?_
  cases d with
  | int j =>
    cases dp_int d1
    have q2 : ROk X W σ O (IQ X.K O R) H1 (if -(2 ^ 62) ≤ j ∧ j < 2 ^ 62 then .ok (rngItems 0 j.toNat) else .no) := q1
    by_cases z : -(2 ^ 62) ≤ j ∧ j < 2 ^ 62
    · rw [if_pos z] at q2
      exact ⟨j, rfl, z.1, z.2, q2.here _ walk_r⟩
    · rw [if_neg z] at q2
      exact q2.elim
  | _ => exact q1.elim
theorem ci_range2 (h : CE X W a fa) (k : CE X W b fb) (hg : Gl X "range") (hm : X.mg "range" = none) (hs : starEach [a, b] X.env = [(false, eval a X.env), (false, eval b X.env)] := by rfl) (hs2 : starEach [b] X.env = [(false, eval b X.env)] := by rfl) :
    CI X W tg (.Call (.Name "range" p) [a, b] [] pos) (fun env => fa env >>= fun x => fb env >>= fun y => rng2 x y) := fun Z env σ H O R r q => by
  refine wp_i (pi_range2 hg hm (pa_cons pe_wp (pa_cons pe_wp pa_nil (by rw [hs2] <;> rfl)) (by rw [hs, hs2] <;> rfl)) hs hs2) ?_
  refine h.go r q fun d v H1 e1 d1 r1 q1 => ?_
  refine k.go r1 q1 fun d' v' H2 e2 d2 r2 q2 => ?_
  cases d with
  | int i =>
    cases dp_int d1
    cases d' with
    | int j =>
      cases dp_int d2
      have q3 : ROk X W σ O (IQ X.K O R) H2 (if -(2 ^ 62) ≤ i ∧ i < 2 ^ 62 ∧ -(2 ^ 62) ≤ j ∧ j < 2 ^ 62 then .ok (rngItems i (j - i).toNat) else .no) := q2
      by_cases z : -(2 ^ 62) ≤ i ∧ i < 2 ^ 62 ∧ -(2 ^ 62) ≤ j ∧ j < 2 ^ 62
      · rw [if_pos z] at q3
        exact ⟨i, j, rfl, z, q3.here _ walk_r⟩
      · rw [if_neg z] at q3
        exact q3.elim
    | _ => exact q2.elim
  | _ => exact q2.elim
end
end PD
set_option Elab.async false
set_option linter.all false
set_option maxRecDepth 100000
set_option maxHeartbeats 4000000
namespace PD
open PySem PySem.Spec PyProof.Rows L2

/-! ### comprehensions -/
def quiet {α : Type} (r : RO α) : RO α := match r with
  | .er _ _ => .no
  | r => r
theorem quiet_ok {α : Type} {r : RO α} {a : α} (h : quiet r = .ok a) : r = .ok a := by
  cases r with
  | ok b => exact h
  | er _ _ => cases h
  | no => cases h
def compGo (g : G) (t : T) (f : E) (env : Env) : List PyData → RO (List PyData)
  | [] => .ok []
  | x :: xs => quiet (g x env) >>= fun e1 => quiet (t e1) >>= fun b => if b = true then quiet (f e1) >>= fun y => compGo g t f env xs >>= fun ys => .ok (y :: ys) else compGo g t f env xs
def compD (g : G) (t : T) (f : E) (env : Env) (items : List PyData) : RO (List PyData) := if items.length ≤ sizeLine then compGo g t f env items else .no
theorem bind_okE {α β : Type} {r : RO α} {k : α → RO β} {b : β} (h : (r >>= k) = .ok b) : ∃ a, r = .ok a ∧ k a = .ok b := by
  cases r with
  | ok a => exact ⟨a, rfl, h⟩
  | er _ _ => cases h
  | no => cases h
theorem comp_noEr (g : G) (t : T) (f : E) (env : Env) : ∀ items c fl, compGo g t f env items ≠ .er c fl
  | [], c, fl, h => by cases h
  | x :: xs, c, fl, h => by
    have ih := comp_noEr g t f env xs
    have qn : ∀ {α : Type} (r : RO α) c fl, quiet r ≠ .er c fl := fun r c fl z => by cases r <;> cases z
    have bn : ∀ {α β : Type} {r : RO α} {k : α → RO β}, (∀ c fl, r ≠ .er c fl) → (∀ a c fl, k a ≠ .er c fl) → ∀ c fl, (r >>= k) ≠ .er c fl := fun {α β r k} h1 h2 c fl z => by
      cases r with
      | ok a => exact h2 a c fl z
      | er c' fl' => exact h1 c' fl' rfl
      | no => cases z
    refine bn (qn _) (fun e1 => bn (qn _) fun b => ?_) c fl h
    intro c fl
    split
    · exact bn (qn _) (fun y => bn ih fun ys c fl z => by cases z) c fl
    · exact ih c fl
def wipeE (env : Env) : List Nat → Env
  | [] => env
  | v :: vs => (wipeE env vs).set v none
abbrev WN : WX := fun _ _ _ _ => False
section
variable {K : PySem.W.Frag} {Z : Zn} {env : Env} {σ : Sg} {H H1 H2 : Hp} {O : List Addr} {D : Addr} {acc : List V}
theorem Rep.wipe (r : Rep K Z env σ H O) : ∀ vs, Rep K Z (wipeE env vs) (L2.wipe σ vs) H O
  | [] => r
  | v :: vs => (Rep.wipe r vs).setNone v none
theorem hid_cons : hid O (hid [D] H) = hid (D :: O) H := by
  funext a
  unfold hid
  by_cases h1 : a ∈ O
  · rw [if_pos h1, if_pos (List.mem_cons_of_mem _ h1)]
  · rw [if_neg h1]
    by_cases h2 : a = D
    · rw [if_pos (by simp [h2]), if_pos (by simp [h2])]
    · rw [if_neg (by simp [h2]), if_neg (by simp [h1, h2])]
theorem Rep.grow (r : Rep K Z env σ H1 O) (e : Ext H1 (hid [D] H2)) (hl : H2 D = some (.lst acc)) : Rep K Z env σ H2 (D :: O) := by
  have e2 : Ext (hid O H1) (hid (D :: O) H2) := by
    rw [← hid_cons]
    exact e.hid O
  have e3 : Ext H1 H2 := e.trans Ext.unhid
  refine ⟨r.ex.trans e2, fun a h => List.mem_cons_of_mem _ (r.sub a h), fun a h => ?_, r.len, fun i s h => ?_, r.nd, fun a h => ?_⟩
  · obtain ⟨vs, q⟩ := r.lv a (r.sub a h)
    rw [e3.lst q, ← r.kp a h, q]
  · obtain ⟨v, h1, h2⟩ := r.sl i s h
    refine ⟨v, h1, ?_⟩
    cases s with
    | fz d => exact e2.dp h2
    | own ds =>
      obtain ⟨a, vs, p1, p2, p3, p4, p5⟩ := h2
      exact ⟨a, vs, p1, List.mem_cons_of_mem _ p2, p3, e3.lst p4, e2.dpa p5⟩
  · rcases List.mem_cons.mp h with z | h
    · exact ⟨acc, by rw [z]; exact hl⟩
    · obtain ⟨vs, q⟩ := r.lv a h
      exact ⟨vs, e3.lst q⟩
theorem wipe_get (σ : L2.St) : ∀ (vs : List Nat) (j : Nat), (L2.wipe σ vs)[j]? = if j ∈ vs then (if j < σ.length then some none else none) else σ[j]?
  | [], j => by simp [L2.wipe]
  | v :: vs, j => by
    unfold L2.wipe
    by_cases h : j = v
    · subst h
      rw [if_pos List.mem_cons_self]
      by_cases z : j < σ.length
      · rw [if_pos z, List.getElem?_set_self (by rw [wipe_length]; exact z)]
      · rw [if_neg z, List.getElem?_eq_none (by rw [List.length_set, wipe_length]; omega)]
    · rw [List.getElem?_set_ne (Ne.symm h), wipe_get σ vs j]
      by_cases m : j ∈ vs
      · rw [if_pos m, if_pos (List.mem_cons_of_mem _ m)]
      · rw [if_neg m, if_neg (by simp [h, m])]
theorem wipe_back {σ σ2 : L2.St} {vs : List Nat} (hl : σ2.length = (L2.wipe σ vs).length) (h : ∀ j, j ∉ vs → σ2[j]? = (L2.wipe σ vs)[j]?) : L2.wipe σ2 vs = L2.wipe σ vs := by
  apply List.ext_getElem?
  intro j
  rw [wipe_length] at hl
  rw [wipe_get, wipe_get]
  by_cases m : j ∈ vs
  · rw [if_pos m, if_pos m, hl]
  · rw [if_neg m, if_neg m, h j m, wipe_get, if_neg m]
end
def wpTs (X : Cx) (ifs : List Expr) : TT := fun σ H Q => ∀ pins s, Inv X pins σ H s → wpAny (model X.prog X.w) X.A (forIn ifs true fun c r => if r = true then do let ok ← isTrue c X.env (eval c X.env); pure (ForInStep.yield ok) else pure (ForInStep.yield r)) (TP X pins σ Q) X.xe s
theorem pts_wp {X : Cx} {ifs : List Expr} : PTs X ifs (wpTs X ifs) := ⟨fun pins s _ _ _ I h => h pins s I⟩
def CTs (X : Cx) (W : WX) (ifs : List Expr) (f : T) : Prop := ∀ Z env σ H O Q, Rep X.K Z env σ H O → ROk X W σ O Q H (f env) → wpTs X ifs σ H Q
section
variable {X : Cx} {W : WX} {tg iter elt c : Expr} {ifs : List Expr} {scope : Scope} {own : List (Str × Nat)} {pos : Pos} {fs : Env → RO (List PyData)} {g : G} {is : List Nat} {t : T} {f : E}
theorem cts_nil : CTs X W [] (fun _ => .ok true) := fun Z env σ H O Q r q => fun pins s I => pts_nil.run pins s σ H Q I q.here
theorem cts_one (h : CT X W c t) : CTs X W [c] t := fun Z env σ H O Q r q => fun pins s I => (pts_one pt_wp).run pins s σ H Q I (h Z env σ H O Q r q)
theorem ROk.unquiet {α : Type} {W' : WX} {σ : Sg} {O : List Addr} {H : Hp} {P : α → Hp → Prop} {r : RO α} {a : α} (h : r = .ok a) (q : ∀ H', Ext H H' → P a H') : ROk X W' σ O P H r := by
  rw [h]
  exact q
/-- the walk of a comprehension (the new list at D), over items that are known -/
theorem comp_core {J : It} {Z : Zn} {env : Env} {σ : Sg} {H1 : Hp} {O : List Addr} {Q : VK} {items zs : List PyData}
    (hg : ∀ (s : Shared) (H : Hp) (C : Addr) (cl : List (Str × Addr)) (fp : List Addr), CG (X.blk s H scope (compEnvC scope cl C X.env) fp) tg is g) (his : ∀ j ∈ is, j ∈ own.map (·.2))
    (ht : ∀ (s : Shared) (H : Hp) (C : Addr) (cl : List (Str × Addr)) (fp : List Addr), CTs (X.blk s H scope (compEnvC scope cl C X.env) fp) WN ifs t)
    (he : ∀ (s : Shared) (H : Hp) (C : Addr) (cl : List (Str × Addr)) (fp : List Addr), CE (X.blk s H scope (compEnvC scope cl C X.env) fp) WN elt f)
    (r1 : Rep X.K Z env σ H1 O) (wk : ∀ i d O1 H2, items[i]? = some d → Ext (hid O H1) (hid O1 H2) → (∀ a ∈ O, a ∈ O1) → Lv O1 H2 → Ext H1 H2 → J.go i H2 ∧ ∀ x H3, J.yld i H2 x H3 → Ext H2 H3 ∧ Dp X.K (hid O1 H3) x d)
    (ws : ∀ i O1 H2, items.length ≤ i → Ext (hid O H1) (hid O1 H2) → Ext H1 H2 → J.stop i H2) (hz : items.length ≤ sizeLine) (hv : compGo g t f (wipeE env (own.map (·.2))) items = .ok zs)
    (q : ∀ H', Ext H1 H' → LQ X.K O Q zs H') (D : Addr) (hD : H1 D = none) :
    ∃ W : Nat → Nat → Hp → Prop, (∃ m, W 0 m (upd H1 D (.lst []))) ∧ ∀ i m H, W i m H →
      (J.stop i H ∧ Q (.ref D) H) ∨ (J.go i H ∧ ∃ Nx : Hp → Prop, (∀ H', Nx H' → ∃ m', m' < m ∧ W (i + 1) m' H') ∧ ∀ x H', J.yld i H x H' →
        (fun (v : V) (σ' : L2.St) (H : Hp) (Q : L2.St → Hp → Prop) => ∀ s H0 C cl fp, wpG (X.blk s H0 scope (compEnvC scope cl C X.env) fp) tg v σ' H Q) x (L2.wipe σ (own.map (·.2))) H' fun σ2 H2 => L2.wipe σ2 (own.map (·.2)) = L2.wipe σ (own.map (·.2)) ∧
        (fun (σ' : L2.St) (H : Hp) (Q : Bool → Hp → Prop) => ∀ s H0 C cl fp, wpTs (X.blk s H0 scope (compEnvC scope cl C X.env) fp) ifs σ' H Q) σ2 H2 fun b H3 =>
        if b = true then (fun (σ' : L2.St) (H : Hp) (Q : VK) => ∀ s H0 C cl fp, wpE (X.blk s H0 scope (compEnvC scope cl C X.env) fp) elt σ' H Q) σ2 H3 fun y H4 => ∃ acc, H4 D = some (.lst acc) ∧ acc.length < sizeLine ∧ Nx (upd H4 D (.lst (acc ++ [y]))) else Nx H3) := by
  have updD : ∀ {H2 : Hp} {acc : List V}, hid [D] (upd H2 D (.lst acc)) = hid [D] H2 := fun {H2 acc} => by
    funext a
    unfold hid
    by_cases z : a = D
    · rw [if_pos (by simp [z]), if_pos (by simp [z])]
    · rw [if_neg (by simp [z]), if_neg (by simp [z]), upd_ne z]
  let Wv : Nat → Nat → Hp → Prop := fun i m H2 => m = items.length - i ∧ i ≤ items.length ∧ ∃ acc ad ys, H2 D = some (.lst acc) ∧ Ext H1 (hid [D] H2) ∧ DpAll X.K (hid (D :: O) H2) acc ad ∧ compGo g t f (wipeE env (own.map (·.2))) (items.drop i) = .ok ys ∧ zs = ad ++ ys ∧ ad.length ≤ i
  refine ⟨Wv, ⟨items.length, by simp, Nat.zero_le _, [], [], zs, upd_same, ?_, .nil, by simpa using hv, rfl, Nat.le_refl _⟩, ?_⟩
  · rw [updD]
    refine fun a o ha => .inl ?_
    rw [hid_out (by simpa using ne_of_none ha hD)]
    exact ha
  rintro i m H2 ⟨rfl, hi, acc, ad, ys, hl, ex, da, hc, hzs, hai⟩
  have eO : Ext (hid O H1) (hid (D :: O) H2) := by
    rw [← hid_cons]
    exact ex.hid O
  have rg := r1.grow ex hl
  have exU : Ext H1 H2 := ex.trans Ext.unhid
  by_cases hlt : i < items.length
  · -- a turn
    have hx : items[i]? = some items[i] := List.getElem?_eq_getElem hlt
    obtain ⟨hgo, hyld⟩ := wk i _ (D :: O) H2 hx eO (fun a h => List.mem_cons_of_mem _ h) rg.lv exU
    rw [List.drop_eq_getElem_cons hlt] at hc
    obtain ⟨e1, hq1, hc⟩ := bind_okE hc
    obtain ⟨bt, hq2, hc⟩ := bind_okE hc
    have hg1 := quiet_ok hq1
    have ht1 := quiet_ok hq2
    refine .inr ⟨hgo, fun H' => Wv (i + 1) (items.length - (i + 1)) H', fun H' h' => ⟨_, by omega, h'⟩, fun x H3 hy s H0 C cl fp => ?_⟩
    obtain ⟨e3, d3⟩ := hyld x H3 hy
    have rb := (rg.mono e3).wipe (own.map (·.2))
    refine hg s H0 C cl fp Z _ _ H3 (D :: O) x _ _ rb d3 ?_
    rw [hg1]
    refine fun σ2 r2 l2 k2 => ⟨wipe_back l2 fun j hj => k2 j fun z => hj (his j z), fun s H0 C cl fp => ?_⟩
    refine ht s H0 C cl fp Z e1 σ2 H3 (D :: O) _ r2 (ROk.unquiet ht1 fun H4 e4 => ?_)
    have l4 : H4 D = some (.lst acc) := (e3.trans e4).lst hl
    have ex4 : Ext H1 (hid [D] H4) := ex.trans ((e3.trans e4).hid [D])
    cases bt with
    | false =>
      rw [if_neg Bool.false_ne_true] at hc
      rw [if_neg Bool.false_ne_true]
      exact ⟨rfl, hlt, acc, ad, ys, l4, ex4, ((e3.trans e4).hid (D :: O)).dpa da, hc, hzs, by omega⟩
    | true =>
      rw [if_pos rfl] at hc
      rw [if_pos rfl]
      obtain ⟨y, hq3, hc⟩ := bind_okE hc
      obtain ⟨ys', hc', hc2⟩ := bind_okE hc
      cases hc2
      have hf1 := quiet_ok hq3
      intro s H0 C cl fp
      refine he s H0 C cl fp Z e1 σ2 H4 (D :: O) _ (r2.mono e4) (ROk.unquiet hf1 fun H5 e5 v hv => ?_)
      have e25 := (e3.trans e4).trans e5
      have l5 : H5 D = some (.lst acc) := e25.lst hl
      have ha := dpa_len da
      refine ⟨acc, l5, by omega, rfl, hlt, acc ++ [v], ad ++ [y], ys', upd_same, ?_, ?_, hc', by rw [hzs]; simp, by rw [List.length_append, List.length_singleton]; omega⟩
      · rw [updD]
        exact ex.trans (e25.hid [D])
      · have e6 : hid (D :: O) (upd H5 D (.lst (acc ++ [v]))) = hid (D :: O) H5 := by
          rw [← hid_cons (O := O) (D := D), ← hid_cons (O := O) (D := D), updD]
        rw [e6]
        exact dpa_app ((e25.hid (D :: O)).dpa da) (.cons hv .nil)
  · -- the end
    have e0 : i = items.length := by omega
    subst e0
    rw [List.drop_length] at hc
    cases hc
    rw [List.append_nil] at hzs
    subst hzs
    refine .inl ⟨ws _ (D :: O) H2 (Nat.le_refl _) eO exU, ?_⟩
    have q2 := q (hid [D] H2) ex D acc (hid_in (by simp)) (by rw [hid_cons]; exact da)
    have e7 : upd (hid [D] H2) D (.lst acc) = H2 := by
      funext b
      by_cases z : b = D
      · rw [z, upd_same, hl]
      · rw [upd_ne z, hid_out (by simpa using z)]
    rw [e7] at q2
    exact q2
theorem pe_comp (hc : X.calm = true) (hN : X.N.Nodup) (ok : BlkOk X.N X.env.scope scope own) (hs : ∀ x, foldedSetIterable iter X.env x = pure x) : PE X (.ListComp elt [⟨tg, iter, ifs, 0⟩] scope pos)
    (tLc (wpI X tg iter) (fun v σ H Q => ∀ s H0 C cl fp, wpG (X.blk s H0 scope (compEnvC scope cl C X.env) fp) tg v σ H Q) (fun σ H Q => ∀ s H0 C cl fp, wpTs (X.blk s H0 scope (compEnvC scope cl C X.env) fp) ifs σ H Q)
      (fun σ H Q => ∀ s H0 C cl fp, wpE (X.blk s H0 scope (compEnvC scope cl C X.env) fp) elt σ H Q) (own.map (·.2))) :=
  pe_lc hc hN pi_wp ok (fun s H C cl fp => ⟨fun pins s' _ _ _ u _ I r h => h s H C cl fp pins s' u I r⟩) (fun s H C cl fp => ⟨fun pins s' _ _ _ I h => h s H C cl fp pins s' I⟩) (fun s H C cl fp => ⟨fun pins s' _ _ _ I h => h s H C cl fp pins s' I⟩) hs
theorem cl_comp (hc : X.calm = true) (hN : X.N.Nodup) (ok : BlkOk X.N X.env.scope scope own) (hi : CI X W tg iter fs)
    (hg : ∀ (s : Shared) (H : Hp) (C : Addr) (cl : List (Str × Addr)) (fp : List Addr), CG (X.blk s H scope (compEnvC scope cl C X.env) fp) tg is g) (his : ∀ j ∈ is, j ∈ own.map (·.2))
    (ht : ∀ (s : Shared) (H : Hp) (C : Addr) (cl : List (Str × Addr)) (fp : List Addr), CTs (X.blk s H scope (compEnvC scope cl C X.env) fp) WN ifs t)
    (he : ∀ (s : Shared) (H : Hp) (C : Addr) (cl : List (Str × Addr)) (fp : List Addr), CE (X.blk s H scope (compEnvC scope cl C X.env) fp) WN elt f) (hs : ∀ x, foldedSetIterable iter X.env x = pure x := by intro _; rfl) :
    CL X W (.ListComp elt [⟨tg, iter, ifs, 0⟩] scope pos) (fun env => fs env >>= fun items => compD g t f (wipeE env (own.map (·.2))) items) := fun Z env σ H O Q r q => by
  refine wp_e (pe_comp hc hN ok hs) ?_
  refine hi Z env σ H O _ r (q.then fun items H1 _ e1 q1 J wd D hD => ?_)
  unfold compD at q1
  by_cases hz : items.length ≤ sizeLine
  · rw [if_pos hz] at q1
    cases hv : compGo g t f (wipeE env (own.map (·.2))) items with
    | ok zs =>
      rw [hv] at q1
      exact comp_core hg his ht he (r.mono e1) (fun i d O1 H2 a b _ l _ => wd.go i d O1 H2 a b l) (fun i O1 H2 a b _ => wd.stop i O1 H2 a b) hz hv q1 D hD
    | er c fl => exact absurd hv (comp_noEr _ _ _ _ _ _ _)
    | no => rw [hv] at q1; exact q1.elim
  · rw [if_neg hz] at q1
    exact q1.elim
/-- over a list of the frame's own -/
theorem cl_compO (i : Nat) (hc : X.calm = true) (hN : X.N.Nodup) (ok : BlkOk X.N X.env.scope scope own) (hi : CIO X tg iter i)
    (hg : ∀ (s : Shared) (H : Hp) (C : Addr) (cl : List (Str × Addr)) (fp : List Addr), CG (X.blk s H scope (compEnvC scope cl C X.env) fp) tg is g) (his : ∀ j ∈ is, j ∈ own.map (·.2))
    (ht : ∀ (s : Shared) (H : Hp) (C : Addr) (cl : List (Str × Addr)) (fp : List Addr), CTs (X.blk s H scope (compEnvC scope cl C X.env) fp) WN ifs t)
    (he : ∀ (s : Shared) (H : Hp) (C : Addr) (cl : List (Str × Addr)) (fp : List Addr), CE (X.blk s H scope (compEnvC scope cl C X.env) fp) WN elt f) (hs : ∀ x, foldedSetIterable iter X.env x = pure x := by intro _; rfl) :
    CL X W (.ListComp elt [⟨tg, iter, ifs, 0⟩] scope pos) (fun env => gvo env i >>= fun items => compD g t f (wipeE env (own.map (·.2))) items) := fun Z env σ H O Q r q => by
  refine wp_e (pe_comp hc hN ok hs) ?_
  rcases gvo_cases env i with ⟨ds, hd⟩ | hd
  · dsimp only at q
    rw [hd] at q
    have q1 : ROk X W σ O (LQ X.K O Q) H (compD g t f (wipeE env (own.map (·.2))) ds) := q
    refine hi Z env σ H O ds _ r (gvo_ok hd) fun p vs h1 h2 h3 h4 D hD => ?_
    unfold compD at q1
    by_cases hz : ds.length ≤ sizeLine
    · rw [if_pos hz] at q1
      cases hv : compGo g t f (wipeE env (own.map (·.2))) ds with
      | ok zs =>
        rw [hv] at q1
        refine comp_core (J := Itl X.K p) hg his ht he r (fun i d O1 H2 a b sub l ex => ?_) (fun i O1 H2 a b ex => ⟨vs, SqL.of (ex.lst h3), by rw [dpa_len h4]; exact a⟩) hz hv q1 D hD
        obtain ⟨v, p1, p2⟩ := dpa_get h4 a
        refine ⟨⟨vs, v, SqL.of (ex.lst h3), p1⟩, fun y H3 ⟨z1, z2⟩ => ?_⟩
        subst z1
        have := z2 vs (SqL.of (ex.lst h3))
        rw [p1] at this
        cases this
        exact ⟨Ext.refl _, b.dp p2⟩
      | er c fl => exact absurd hv (comp_noEr _ _ _ _ _ _ _)
      | no => rw [hv] at q1; exact q1.elim
    · rw [if_neg hz] at q1
      exact q1.elim
  · dsimp only at q
    rw [hd] at q
    exact q.elim
end
end PD
set_option Elab.async false
set_option linter.all false
set_option maxRecDepth 100000
set_option maxHeartbeats 4000000
namespace PD
open PySem PySem.Spec PyProof.Rows L2

/-! ### statements -/
def SOk (X : Cx) (W : WX) (Z : Zn) (D : Ends) : SO → Prop
  | .nx env => ∀ σ H O, Rep X.K Z env σ H O → D.nx σ H
  | .rt d => ∀ v H, Ext Z.H0 H → Dp X.K (hid Z.Oc H) v d → D.rt v H
  | .bk env => ∀ σ H O, Rep X.K Z env σ H O → D.bk σ H
  | .ct env => ∀ σ H O, Rep X.K Z env σ H O → D.ct σ H
  | .er env c fl => ∀ C od σ H O, Rep X.K Z env σ H O → ExR X.mg X.K (hid O H) c fl C od → W C od σ H
  | .no => False
def CS (X : Cx) (W : WX) (st : Stmt) (f : S) : Prop := ∀ Z env σ H O D, Rep X.K Z env σ H O → SOk X W Z D (f env) → wpS X st D σ H
def CSs (X : Cx) (W : WX) (st : List Stmt) (f : S) : Prop := ∀ Z env σ H O D, Rep X.K Z env σ H O → SOk X W Z D (f env) → wpSs X st D σ H
def ofR {α : Type} (r : RO α) (env : Env) (k : α → SO) : SO := match r with
  | .ok a => k a
  | .er c fl => .er env c fl
  | .no => .no
section
variable {X : Cx} {W : WX} {e a b c : Expr} {st : Stmt} {sts rest : List Stmt} {f fa fb : E} {g h : S} {t : T} {Z : Zn} {env : Env} {σ : Sg} {H : Hp} {O : List Addr} {D : Ends} {pos p : Pos}
theorem ROk.of_so {α : Type} {r : RO α} {k : α → SO} {P : α → Hp → Prop} (rp : Rep X.K Z env σ H O) (q : SOk X W Z D (ofR r env k)) (kk : ∀ d H1, Ext H H1 → SOk X W Z D (k d) → P d H1) : ROk X W σ O P H r := by
  cases r with
  | ok d => exact fun H1 e1 => kk d H1 e1 q
  | er c fl => exact fun C od H' e' x => q C od σ H' O (rp.mono e') x
  | no => exact q
theorem CE.so {k : PyData → SO} {P : VK} (hc : CE X W e f) (r : Rep X.K Z env σ H O) (q : SOk X W Z D (ofR (f env) env k)) (kk : ∀ d v H1, Ext H H1 → Dp X.K (hid O H1) v d → Rep X.K Z env σ H1 O → SOk X W Z D (k d) → P v H1) : wpE X e σ H P :=
  hc Z env σ H O P r (ROk.of_so r q fun d H1 e1 q1 v hv => kk d v H1 e1 hv (r.mono e1) q1)
theorem CB.so {k : PyData → SO} {P : VK} (hc : CB X W e f) (r : Rep X.K Z env σ H O) (q : SOk X W Z D (ofR (f env) env k)) (kk : ∀ d v H1, Ext H H1 → Dp X.K (hid Z.Oc H1) v d → Rep X.K Z env σ H1 O → SOk X W Z D (k d) → P v H1) : wpE X e σ H P :=
  hc Z env σ H O P r (ROk.of_so r q fun d H1 e1 q1 v hv => kk d v H1 e1 hv (r.mono e1) q1)
theorem CL.so {k : List PyData → SO} {P : VK} {fl : Env → RO (List PyData)} (hc : CL X W e fl) (r : Rep X.K Z env σ H O) (q : SOk X W Z D (ofR (fl env) env k))
    (kk : ∀ ds p vs H1, Ext H H1 → H1 p = none → DpAll X.K (hid O H1) vs ds → Rep X.K Z env σ H1 O → SOk X W Z D (k ds) → P (.ref p) (upd H1 p (.lst vs))) : wpE X e σ H P :=
  hc Z env σ H O P r (ROk.of_so r q fun ds H1 e1 q1 p vs hp hd => kk ds p vs H1 e1 hp hd (r.mono e1) q1)
theorem CT.so {k : Bool → SO} {P : Bool → Hp → Prop} (hc : CT X W e t) (r : Rep X.K Z env σ H O) (q : SOk X W Z D (ofR (t env) env k)) (kk : ∀ d H1, Ext H H1 → Rep X.K Z env σ H1 O → SOk X W Z D (k d) → P d H1) : wpT X e σ H P :=
  hc Z env σ H O P r (ROk.of_so r q fun d H1 e1 q1 => kk d H1 e1 (r.mono e1) q1)

/-! ### blocks -/
def sNx : S := fun env => .nx env
def sSeq (g h : S) : S := fun env => match g env with
  | .nx e => h e
  | r => r
theorem css_nil : CSs X W [] sNx := fun Z env σ H O D r q => wp_ss pss_nil (q σ H O r)
theorem css_cons (h1 : CS X W st g) (h2 : CSs X W rest h) : CSs X W (st :: rest) (sSeq g h) := fun Z env σ H O D r q => by
  refine wp_ss (pss_cons ps_wp pss_wp) ?_
  have q' : SOk X W Z D (match g env with | .nx e => h e | r => r) := q
  refine h1 Z env σ H O _ r ?_
  cases hg : g env with
  | nx e => rw [hg] at q'; exact fun σ1 H1 O1 r1 => h2 Z e σ1 H1 O1 D r1 q'
  | rt d => rw [hg] at q'; exact q'
  | bk d => rw [hg] at q'; exact q'
  | ct d => rw [hg] at q'; exact q'
  | er d c fl => rw [hg] at q'; exact q'
  | no => rw [hg] at q'; exact q'
theorem css_one (h1 : CS X W st g) : CSs X W [st] g := fun Z env σ H O D r q => wp_ss (pss_one ps_wp) (h1 Z env σ H O D r q)
theorem cs_pass : CS X W (.Pass pos) sNx := fun Z env σ H O D r q => wp_s ps_pass (q σ H O r)
theorem cs_break : CS X W (.Break pos) (fun env => .bk env) := fun Z env σ H O D r q => wp_s ps_break (q σ H O r)
theorem cs_continue : CS X W (.Continue pos) (fun env => .ct env) := fun Z env σ H O D r q => wp_s ps_continue (q σ H O r)
theorem cs_doc {x j pos'} : CS X W (.Expr (.Constant (.str x) j pos) pos') sNx := fun Z env σ H O D r q => wp_s ps_doc (q σ H O r)
/-- code that is never come to -/
theorem css_never : CSs X W sts (fun _ => .no) := fun Z env σ H O D r q => q.elim

/-! ### stores -/
def sSet (i : Nat) (f : E) : S := fun env => ofR (f env) env fun d => .nx (env.set i (some (.fz d)))
def sSetL (i : Nat) (f : Env → RO (List PyData)) : S := fun env => ofR (f env) env fun ds => .nx (env.set i (some (.own ds)))
theorem cs_set {i : Nat} {x : Str} {pos' : Pos} (hN : X.N.Nodup) (hi : X.N[i]? = some x) (hx : Loc X.env.scope x) (he : CE X W e f) (hs : swapsWith e (some (.Name x pos')) pos.line X.env = pure false := by rfl) (hf : X.fn x = true ∨ X.env.scope.names.lookup x = some .local := by first | exact .inl rfl | exact .inr rfl | assumption) :
    CS X W (.Assign [.Name x pos'] e pos) (sSet i f) := fun Z env σ H O D r q => by
  refine wp_s (ps_set hN hi hx pe_wp hs hf) ?_
  exact he.so r q fun d v H1 e1 d1 r1 q1 => q1 _ _ _ (r1.setFz i d1)
theorem cs_setL {i : Nat} {x : Str} {pos' : Pos} {fl : Env → RO (List PyData)} (hN : X.N.Nodup) (hi : X.N[i]? = some x) (hx : Loc X.env.scope x) (he : CL X W e fl) (hs : swapsWith e (some (.Name x pos')) pos.line X.env = pure false := by rfl) (hf : X.fn x = true ∨ X.env.scope.names.lookup x = some .local := by first | exact .inl rfl | exact .inr rfl | assumption) :
    CS X W (.Assign [.Name x pos'] e pos) (sSetL i fl) := fun Z env σ H O D r q => by
  refine wp_s (ps_set hN hi hx pe_wp hs hf) ?_
  exact he.so r q fun ds p vs H1 e1 hp d1 r1 q1 => q1 _ _ _ (r1.setOwn i hp d1)
section
variable {tg iter elt : Expr} {ifs : List Expr} {scope : Scope} {own : List (Str × Nat)} {fs : Env → RO (List PyData)} {gg : G} {is : List Nat} {tt : T}
theorem ps_comp {i : Nat} {y : Str} {py spos : Pos} (hc : X.calm = true) (hN : X.N.Nodup) (hy : X.N[i]? = some y) (hyl : X.env.scope.names.lookup y = some .local)
    (hsw : swapsWith (.ListComp elt [⟨tg, iter, ifs, 0⟩] scope pos) (some (.Name y py)) spos.line X.env = pure true) (ok : BlkOk X.N X.env.scope scope own) (hs : ∀ x, foldedSetIterable iter X.env x = pure x) : PS X (.Assign [.Name y py] (.ListComp elt [⟨tg, iter, ifs, 0⟩] scope pos) spos)
    (tAsg (tLc (wpI X tg iter) (fun v σ H Q => ∀ s H0 C cl fp, wpG (X.blk s H0 scope (compEnvC scope cl C X.env) fp) tg v σ H Q) (fun σ H Q => ∀ s H0 C cl fp, wpTs (X.blk s H0 scope (compEnvC scope cl C X.env) fp) ifs σ H Q)
      (fun σ H Q => ∀ s H0 C cl fp, wpE (X.blk s H0 scope (compEnvC scope cl C X.env) fp) elt σ H Q) (own.map (·.2))) (gName i)) :=
  ps_setLc hc hN hy hyl hsw pi_wp ok (fun s H C cl fp => ⟨fun pins s' _ _ _ u _ I r h => h s H C cl fp pins s' u I r⟩) (fun s H C cl fp => ⟨fun pins s' _ _ _ I h => h s H C cl fp pins s' I⟩) (fun s H C cl fp => ⟨fun pins s' _ _ _ I h => h s H C cl fp pins s' I⟩) hs
/-- the reading that cl_comp shows, as it stands -/
theorem comp_reads (hc : X.calm = true) (hN : X.N.Nodup) (ok : BlkOk X.N X.env.scope scope own) (hi : CI X W tg iter fs)
    (hg : ∀ (s : Shared) (H : Hp) (C : Addr) (cl : List (Str × Addr)) (fp : List Addr), CG (X.blk s H scope (compEnvC scope cl C X.env) fp) tg is gg) (his : ∀ j ∈ is, j ∈ own.map (·.2))
    (ht : ∀ (s : Shared) (H : Hp) (C : Addr) (cl : List (Str × Addr)) (fp : List Addr), CTs (X.blk s H scope (compEnvC scope cl C X.env) fp) WN ifs tt)
    (he : ∀ (s : Shared) (H : Hp) (C : Addr) (cl : List (Str × Addr)) (fp : List Addr), CE (X.blk s H scope (compEnvC scope cl C X.env) fp) WN elt f) {Q : VK}
    (r : Rep X.K Z env σ H O) (q : ROk X W σ O (LQ X.K O Q) H (fs env >>= fun items => compD gg tt f (wipeE env (own.map (·.2))) items)) :
    tLc (wpI X tg iter) (fun v σ H Q => ∀ s H0 C cl fp, wpG (X.blk s H0 scope (compEnvC scope cl C X.env) fp) tg v σ H Q) (fun σ H Q => ∀ s H0 C cl fp, wpTs (X.blk s H0 scope (compEnvC scope cl C X.env) fp) ifs σ H Q)
      (fun σ H Q => ∀ s H0 C cl fp, wpE (X.blk s H0 scope (compEnvC scope cl C X.env) fp) elt σ H Q) (own.map (·.2)) σ H Q := by
  refine hi Z env σ H O _ r (q.then fun items H1 _ e1 q1 J wd D hD => ?_)
  unfold compD at q1
  by_cases hz : items.length ≤ sizeLine
  · rw [if_pos hz] at q1
    cases hv : compGo gg tt f (wipeE env (own.map (·.2))) items with
    | ok zs =>
      rw [hv] at q1
      exact comp_core hg his ht he (r.mono e1) (fun i d O1 H2 a b _ l _ => wd.go i d O1 H2 a b l) (fun i O1 H2 a b _ => wd.stop i O1 H2 a b) hz hv q1 D hD
    | er c fl => exact absurd hv (comp_noEr _ _ _ _ _ _ _)
    | no => rw [hv] at q1; exact q1.elim
  · rw [if_neg hz] at q1
    exact q1.elim
theorem cs_setC {i : Nat} {y : Str} {py spos : Pos} (hc : X.calm = true) (hN : X.N.Nodup) (hy : X.N[i]? = some y) (hyl : X.env.scope.names.lookup y = some .local)
    (hsw : swapsWith (.ListComp elt [⟨tg, iter, ifs, 0⟩] scope pos) (some (.Name y py)) spos.line X.env = pure true) (ok : BlkOk X.N X.env.scope scope own) (hi : CI X W tg iter fs)
    (hg : ∀ (s : Shared) (H : Hp) (C : Addr) (cl : List (Str × Addr)) (fp : List Addr), CG (X.blk s H scope (compEnvC scope cl C X.env) fp) tg is gg) (his : ∀ j ∈ is, j ∈ own.map (·.2))
    (ht : ∀ (s : Shared) (H : Hp) (C : Addr) (cl : List (Str × Addr)) (fp : List Addr), CTs (X.blk s H scope (compEnvC scope cl C X.env) fp) WN ifs tt)
    (he : ∀ (s : Shared) (H : Hp) (C : Addr) (cl : List (Str × Addr)) (fp : List Addr), CE (X.blk s H scope (compEnvC scope cl C X.env) fp) WN elt f) (hs : ∀ x, foldedSetIterable iter X.env x = pure x := by intro _; rfl) :
    CS X W (.Assign [.Name y py] (.ListComp elt [⟨tg, iter, ifs, 0⟩] scope pos) spos) (sSetL i (fun env => fs env >>= fun items => compD gg tt f (wipeE env (own.map (·.2))) items)) := fun Z env σ H O D r q => by
  refine wp_s (ps_comp hc hN hy hyl hsw ok hs) ?_
  exact comp_reads hc hN ok hi hg his ht he r (ROk.of_so r q fun ds H1 e1 q1 p vs hp hd => q1 _ _ _ ((r.mono e1).setOwn i hp hd))
/-- the same, the list frozen at once -/
theorem cs_setCF {i : Nat} {y : Str} {py spos : Pos} (hc : X.calm = true) (hN : X.N.Nodup) (hy : X.N[i]? = some y) (hyl : X.env.scope.names.lookup y = some .local)
    (hsw : swapsWith (.ListComp elt [⟨tg, iter, ifs, 0⟩] scope pos) (some (.Name y py)) spos.line X.env = pure true) (ok : BlkOk X.N X.env.scope scope own) (hi : CI X W tg iter fs)
    (hg : ∀ (s : Shared) (H : Hp) (C : Addr) (cl : List (Str × Addr)) (fp : List Addr), CG (X.blk s H scope (compEnvC scope cl C X.env) fp) tg is gg) (his : ∀ j ∈ is, j ∈ own.map (·.2))
    (ht : ∀ (s : Shared) (H : Hp) (C : Addr) (cl : List (Str × Addr)) (fp : List Addr), CTs (X.blk s H scope (compEnvC scope cl C X.env) fp) WN ifs tt)
    (he : ∀ (s : Shared) (H : Hp) (C : Addr) (cl : List (Str × Addr)) (fp : List Addr), CE (X.blk s H scope (compEnvC scope cl C X.env) fp) WN elt f) (hs : ∀ x, foldedSetIterable iter X.env x = pure x := by intro _; rfl) :
    CS X W (.Assign [.Name y py] (.ListComp elt [⟨tg, iter, ifs, 0⟩] scope pos) spos) (sSet i (fun env => (fs env >>= fun items => compD gg tt f (wipeE env (own.map (·.2))) items) >>= fun ds => .ok (.list ds))) := fun Z env σ H O D r q => by
  refine wp_s (ps_comp hc hN hy hyl hsw ok hs) ?_
  have q' : ROk X W σ O (VQ X.K O fun v H1 => D.nx (σ.set i (some v)) H1) H ((fs env >>= fun items => compD gg tt f (wipeE env (own.map (·.2))) items) >>= fun ds => .ok (.list ds)) :=
    ROk.of_so r q fun d H1 e1 q1 v hv => q1 _ _ _ ((r.mono e1).setFz i hv)
  exact comp_reads hc hN ok hi hg his ht he r (q'.then fun ds H1 _ e1 q1 p vs hp hd => q1 _ (Ext.new hp) _ (dp_newL (r.mono e1).lv hp hd))
end
/-- a, b = e -/
def sAsg (f : E) (gg : G) : S := fun env => ofR (f env) env fun d => match gg d env with
  | .ok e => .nx e
  | _ => .no
theorem cs_asg {tg : Expr} {is : List Nat} {gg : G} (he : CE X W e f) (hg : CG X tg is gg) (hs : swapsWithSole [tg] e pos.line X.env = pure false := by rfl) (hw : swappedStores [tg] e X.env = pure none := by rfl)
    (h1 : (assignEach [tg] X.env).map (·.2) = [assign tg X.env] := by rfl) : CS X W (.Assign [tg] e pos) (sAsg f gg) := fun Z env σ H O D r q => by
  refine wp_s (ps_asg pe_wp pg_wp hs hw h1) ?_
  refine he.so r q fun d v H1 e1 d1 r1 q1 => ?_
  refine hg Z env σ H1 O v d _ r1 d1 ?_
  cases hgd : gg d env with
  | ok e2 => rw [hgd] at q1; exact fun σ' r2 _ _ => q1 _ _ _ r2
  | er _ _ => rw [hgd] at q1; exact q1
  | no => rw [hgd] at q1; exact q1
/-- x += e of ints -/
def dAugAdd : PyData → PyData → Option PyData
  | .int i, .int j => some (.int (i + j))
  | _, _ => none
def sAug (i : Nat) (f : E) : S := fun env => ofR (gv env i) env fun x => ofR (f env) env fun y => ofR (ofO (dAugAdd x y)) env fun d => .nx (env.set i (some (.fz d)))
theorem cs_aug {i : Nat} {x : Str} {pos' : Pos} (hN : X.N.Nodup) (hi : X.N[i]? = some x) (hx : Loc X.env.scope x) (he : CE X W e f) (hf : X.fn x = true ∨ X.env.scope.names.lookup x = some .local := by first | exact .inl rfl | exact .inr rfl | assumption) :
    CS X W (.AugAssign (.Name x pos') .Add e pos) (sAug i f) := fun Z env σ H O D r q => by
  refine wp_s (ps_aug hN hi hx pe_wp ip_add hf) ?_
  rcases gv_cases env i with ⟨dx, hv⟩ | hv
  · obtain ⟨v, h1, h2⟩ := r.sl i _ (gv_ok hv)
    unfold sAug at q
    rw [hv] at q
    refine ⟨v, h1, ?_⟩
    refine he.so r q fun dy u H1 e1 d1 r1 q1 => ?_
    cases dx with
    | int i' =>
      cases dp_int h2
      cases dy with
      | int j =>
        cases dp_int d1
        exact ⟨i', j, rfl, rfl, q1 _ _ _ (r1.setFz i (.int _))⟩
      | _ => exact q1.elim
    | _ => exact q1.elim
  · unfold sAug at q
    rw [hv] at q
    exact q.elim

/-! ### return, if, an expression alone -/
def sRet (f : E) : S := fun env => ofR (f env) env .rt
def sRetN : S := fun _ => .rt .none
def sDrop (f : E) : S := fun env => ofR (f env) env fun _ => .nx env
def sIf (t : T) (g h : S) : S := fun env => ofR (t env) env fun b => if b = true then g env else h env
theorem cs_ret (he : CE X W e f) : CS X W (.Return (some e) pos) (sRet f) := fun Z env σ H O D r q => by
  refine wp_s (ps_ret pe_wp) ?_
  exact he.so r q fun d v H1 e1 d1 r1 q1 => q1 v H1 r1.whole ((Ext.hid_sub r1.sub).dp d1)
theorem cs_retB (he : CB X W e f) : CS X W (.Return (some e) pos) (sRet f) := fun Z env σ H O D r q => by
  refine wp_s (ps_ret pe_wp) ?_
  exact he.so r q fun d v H1 e1 d1 r1 q1 => q1 v H1 r1.whole d1
theorem cs_retN : CS X W (.Return none pos) sRetN := fun Z env σ H O D r q => wp_s ps_retN (q _ H r.whole .non)
theorem cs_expr (he : CE X W e f) (hs : swapsWith e none pos.line X.env = pure false := by rfl) : CS X W (.Expr e pos) (sDrop f) := fun Z env σ H O D r q => by
  refine wp_s (ps_expr pe_wp hs) ?_
  exact he.so r q fun d v H1 e1 d1 r1 q1 => q1 _ _ _ r1
theorem cs_if {s1 s2 : List Stmt} (hc : CT X W c t) (h1 : CSs X W s1 g) (h2 : CSs X W s2 h) : CS X W (.If c s1 s2 pos) (sIf t g h) := fun Z env σ H O D r q => by
  refine wp_s (ps_if pt_wp pss_wp pss_wp) ?_
  refine hc.so r q fun d H1 e1 r1 q1 => ?_
  cases d with
  | true => exact h1 Z env σ H1 O D r1 q1
  | false => exact h2 Z env σ H1 O D r1 q1

/-! ### loops -/
def forGo (gg : G) (body : S) : List PyData → Env → SO
  | [], env => .nx env
  | x :: xs, env => match gg x env with
    | .ok e1 => match body e1 with
      | .nx e => forGo gg body xs e
      | .ct e => forGo gg body xs e
      | .bk e => .nx e
      | r => r
    | _ => .no
def sFor (fi : Env → RO (List PyData)) (gg : G) (body : S) : S := fun env => ofR (fi env) env fun items => forGo gg body items env
/-- the frozen things of a state, as an entry of their own -/
def zn (Z : Zn) (H : Hp) (O : List Addr) : Zn := ⟨fun a => if a ∈ O ∧ a ∉ Z.Oc then none else H a, Z.Oc⟩
theorem zn_hid (r : Rep X.K Z env σ H O) : hid (zn Z H O).Oc (zn Z H O).H0 = hid O H := by
  funext a
  show hid Z.Oc (fun a => if a ∈ O ∧ a ∉ Z.Oc then none else H a) a = hid O H a
  unfold hid
  by_cases h1 : a ∈ Z.Oc
  · rw [if_pos h1, if_pos (r.sub a h1)]
  · rw [if_neg h1]
    dsimp only
    by_cases h2 : a ∈ O
    · rw [if_pos (show a ∈ O ∧ a ∉ Z.Oc from ⟨h2, h1⟩), if_pos h2]
    · rw [if_neg (show ¬ (a ∈ O ∧ a ∉ Z.Oc) from fun z => h2 z.1), if_neg h2]
theorem zn_oc {a : Addr} (h : a ∈ Z.Oc) : (zn Z H O).H0 a = H a := if_neg fun z => z.2 h
theorem zn_ext (r : Rep X.K Z env σ H O) : Ext Z.H0 (zn Z H O).H0 := fun a o h => by
  by_cases ha : a ∈ Z.Oc
  · exact .inl (by rw [zn_oc ha, r.kp a ha]; exact h)
  · have h1 : hid Z.Oc Z.H0 a = some o := by rw [hid_out ha]; exact h
    have h2 := r.ex a o h1
    rw [← zn_hid r] at h2
    rcases h2 with h2 | ⟨ps, more, e1, h2, h3⟩
    · exact .inl (hid_some h2).2
    · exact .inr ⟨ps, more, e1, (hid_some h2).2, h3⟩
theorem Rep.zone (r : Rep X.K Z env σ H O) : Rep X.K (zn Z H O) env σ H O :=
  ⟨by rw [zn_hid r]; exact Ext.refl _, r.sub, fun a h => (zn_oc h).symm, r.len, r.sl, r.nd, r.lv⟩
theorem Rep.unzone {env' : Env} {σ' : Sg} {H' : Hp} {O' : List Addr} (r0 : Rep X.K Z env σ H O) (r : Rep X.K (zn Z H O) env' σ' H' O') : Rep X.K Z env' σ' H' O' :=
  ⟨r0.ex.trans (by have := r.ex; rw [zn_hid r0] at this; exact this), r.sub, fun a h => by
    have h2 : H' a = (zn Z H O).H0 a := r.kp a h
    rw [h2, zn_oc h]
    exact r0.kp a h, r.len, r.sl, r.nd, r.lv⟩
theorem Rep.frz {env' : Env} {σ' : Sg} {H' : Hp} {O' : List Addr} (r0 : Rep X.K Z env σ H O) (r : Rep X.K (zn Z H O) env' σ' H' O') : Ext (hid O H) (hid O' H') := by
  have := r.ex
  rw [zn_hid r0] at this
  exact this
/-- an outcome wanted of the whole, of a part that begins at a state -/
theorem SOk.zone (r0 : Rep X.K Z env σ H O) : ∀ {r : SO}, SOk X W Z D r → SOk X W (zn Z H O) D r
  | .nx _, h => fun σ' H' O' r => h σ' H' O' (r0.unzone r)
  | .rt _, h => fun v H' e d => h v H' ((zn_ext r0).trans e) d
  | .bk _, h => fun σ' H' O' r => h σ' H' O' (r0.unzone r)
  | .ct _, h => fun σ' H' O' r => h σ' H' O' (r0.unzone r)
  | .er _ _ _, h => fun C od σ' H' O' r x => h C od σ' H' O' (r0.unzone r) x
  | .no, h => h
theorem for_core {tg : Expr} {is : List Nat} {gg : G} {J : It} {items : List PyData} (hg : CG X tg is gg) (hb : CSs X W sts g)
    (r0 : Rep X.K Z env σ H O) (wd : WalkD X.K O H J items) (q : SOk X W Z D (forGo gg g items env)) :
    ∃ Wv : Nat → Nat → L2.St → Hp → Prop, (∃ m, Wv 0 m σ H) ∧ ∀ i m σ H, Wv i m σ H →
      (J.stop i H ∧ D.nx σ H) ∨ (J.go i H ∧ ∃ N : L2.St → Hp → Prop, (∀ σ' H', N σ' H' → ∃ m', m' < m ∧ Wv (i + 1) m' σ' H') ∧ ∀ x H', J.yld i H x H' → wpG X tg x σ H' fun σ2 H2 => wpSs X sts { D with nx := N, ct := N, bk := D.nx } σ2 H2) := by
  have q0 := q.zone r0
  let Wv : Nat → Nat → L2.St → Hp → Prop := fun i m σ' H' => m = items.length - i ∧ i ≤ items.length ∧ ∃ env' O', Rep X.K (zn Z H O) env' σ' H' O' ∧ SOk X W (zn Z H O) D (forGo gg g (items.drop i) env')
  refine ⟨Wv, ⟨items.length, by simp, Nat.zero_le _, env, O, r0.zone, by simpa using q0⟩, ?_⟩
  rintro i m σ1 H1 ⟨rfl, hi, env1, O1, r1, q1⟩
  have ex1 := r0.frz r1
  by_cases hlt : i < items.length
  · have hx : items[i]? = some items[i] := List.getElem?_eq_getElem hlt
    obtain ⟨hgo, hyld⟩ := wd.go i _ O1 H1 hx ex1 r1.lv
    refine .inr ⟨hgo, fun σ' H' => Wv (i + 1) (items.length - (i + 1)) σ' H', fun σ' H' h' => ⟨_, by omega, h'⟩, fun x H2 hy => ?_⟩
    obtain ⟨e2, d2⟩ := hyld x H2 hy
    rw [List.drop_eq_getElem_cons hlt] at q1
    refine hg (zn Z H O) env1 σ1 H2 O1 x _ _ (r1.mono e2) d2 ?_
    have q2 : SOk X W (zn Z H O) D (match gg items[i] env1 with | .ok e1 => (match g e1 with | .nx e => forGo gg g (items.drop (i + 1)) e | .ct e => forGo gg g (items.drop (i + 1)) e | .bk e => .nx e | r => r) | _ => .no) := q1
    cases hgd : gg items[i] env1 with
    | ok e1 =>
      rw [hgd] at q2
      refine fun σ2 r2 _ _ => hb (zn Z H O) e1 σ2 H2 O1 _ r2 ?_
      have q3 : SOk X W (zn Z H O) D (match g e1 with | .nx e => forGo gg g (items.drop (i + 1)) e | .ct e => forGo gg g (items.drop (i + 1)) e | .bk e => .nx e | r => r) := q2
      cases hge : g e1 with
      | nx e => rw [hge] at q3; exact fun σ3 H3 O3 r3 => ⟨rfl, hlt, e, O3, r3, q3⟩
      | ct e => rw [hge] at q3; exact fun σ3 H3 O3 r3 => ⟨rfl, hlt, e, O3, r3, q3⟩
      | bk e => rw [hge] at q3; exact q3
      | rt d => rw [hge] at q3; exact q3
      | er d c fl => rw [hge] at q3; exact q3
      | no => rw [hge] at q3; exact q3
    | er _ _ => rw [hgd] at q2; exact q2.elim
    | no => rw [hgd] at q2; exact q2.elim
  · have e0 : i = items.length := by omega
    subst e0
    rw [List.drop_length] at q1
    exact .inl ⟨wd.stop _ O1 H1 (Nat.le_refl _) ex1, q1 σ1 H1 O1 r1⟩
theorem cs_for {tg iter : Expr} {is : List Nat} {gg : G} {fi : Env → RO (List PyData)} (hp : PassesOwn (model X.prog X.w) X.A X.env X.xe) (hc : X.calm = true) (hi : CI X W tg iter fi) (hg : CG X tg is gg) (hb : CSs X W sts g)
    (hs : ∀ x, foldedSetIterable iter X.env x = pure x := by intro _; rfl) : CS X W (.For tg iter sts [] pos) (sFor fi gg g) := fun Z env σ H O D r q => by
  refine wp_s (ps_for hp hc pi_wp pg_wp pss_wp hs) ?_
  exact hi Z env σ H O _ r (ROk.of_so r q fun items H1 e1 q1 J wd => for_core hg hb (r.mono e1) wd q1)
def whileGo (t : T) (body : S) : Nat → Env → SO
  | 0, _ => .no
  | n + 1, env => ofR (t env) env fun b => if b = true then (match body env with
      | .nx e => whileGo t body n e
      | .ct e => whileGo t body n e
      | .bk e => .nx e
      | r => r) else .nx env
theorem cs_while (n : Nat) (hp : PassesOwn (model X.prog X.w) X.A X.env X.xe) (hc : CT X W c t) (hb : CSs X W sts g) : CS X W (.While c sts [] pos) (fun env => whileGo t g n env) := fun Z env σ H O D r q => by
  refine wp_s (ps_while hp pt_wp pss_wp) ?_
  refine ⟨fun m σ' H' => ∃ env' O', Rep X.K Z env' σ' H' O' ∧ SOk X W Z D (whileGo t g m env'), ⟨n, env, O, r, q⟩, ?_⟩
  rintro m σ1 H1 ⟨env1, O1, r1, q1⟩
  cases m with
  | zero => exact q1.elim
  | succ m =>
    refine hc.so r1 q1 fun d H2 e2 r2 q2 => ?_
    cases d with
    | false =>
      rw [if_neg Bool.false_ne_true] at q2 ⊢
      exact q2 _ _ _ r2
    | true =>
      rw [if_pos rfl] at q2 ⊢
      refine ⟨fun σ' H' => ∃ env' O', Rep X.K Z env' σ' H' O' ∧ SOk X W Z D (whileGo t g m env'), fun σ' H' h' => ⟨m, Nat.lt_succ_self _, h'⟩, hb Z env1 σ1 H2 O1 _ r2 ?_⟩
      cases hge : g env1 with
      | nx e => rw [hge] at q2; exact fun σ3 H3 O3 r3 => ⟨e, O3, r3, q2⟩
      | ct e => rw [hge] at q2; exact fun σ3 H3 O3 r3 => ⟨e, O3, r3, q2⟩
      | bk e => rw [hge] at q2; exact q2
      | rt d => rw [hge] at q2; exact q2
      | er d c fl => rw [hge] at q2; exact q2
      | no => rw [hge] at q2; exact q2

/-! ### own lists change -/
def sApp (i : Nat) (f : E) : S := fun env => ofR (gvo env i) env fun xs => ofR (f env) env fun d => if xs.length < sizeLine then .nx (env.set i (some (.own (xs ++ [d])))) else .no
theorem cs_app {i : Nat} {x : Str} {px apos cpos : Pos} (hN : X.N[i]? = some x) (hv : Vis X.env.scope x) (hd : (x == ("__debug__" : Str)) = false) (hcd : (x == ("__classdict__" : Str)) = false) (he : CE X W e f)
    (hbase : attributeBase (.Name x px) "append" X.env (eval (.Name x px) X.env) = eval (.Name x px) X.env := by rfl)
    (hfew : ((backTo cpos (starEach [e] X.env)).all (fun x => !x.1) && (backToKw cpos (keywordEach [] X.env)).all (fun x => x.1.isSome) && decide (([e] : List Expr).length + ([] : List Keyword).length + (if ([] : List Keyword).isEmpty then 0 else 1) < 30)) = true := by rfl)
    (hline : (apos.endLine == cpos.line) = true := by rfl) (hs : starEach [e] X.env = (false, eval e X.env) :: starEach [] X.env := by rfl) (hplain : (backTo cpos (starEach [] X.env)).any (·.1) = false := by rfl)
    (hsw : swapsWith (.Call (.Attribute (.Name x px) "append" apos) [e] [] cpos) none pos.line X.env = pure false := by rfl) :
    CS X W (.Expr (.Call (.Attribute (.Name x px) "append" apos) [e] [] cpos) pos) (sApp i f) := fun Z env σ H O D r q => by
  refine wp_s (ps_expr (pe_bm PySem.F.plainAttrs_list PySem.F.slot_list_append PySem.F.type_list_append mt_append pe_wp (pa_cons pe_wp pa_nil hs) hbase hfew hline hs hplain) hsw) ?_
  unfold sApp at q
  rcases gvo_cases env i with ⟨ds, hi⟩ | hi
  · rw [hi] at q
    refine own_read r (gvo_ok hi) hN hv hd hcd fun p vs s1 s2 s3 s4 s5 => ⟨.inl ⟨rfl, vs, SqL.of s4⟩, ?_⟩
    refine he.so r q fun d v H1 e1 d1 r1 q1 => ?_
    by_cases hz : ds.length < sizeLine
    · rw [if_pos hz] at q1
      exact ⟨p, vs, v, rfl, rfl, e1.lst s4, by rw [dpa_len s5]; exact hz, q1 _ _ _ (r1.mutOwn (gvo_ok hi) s1 (dpa_app ((e1.hid O).dpa s5) (.cons d1 .nil)))⟩
    · rw [if_neg hz] at q1
      exact q1.elim
  · rw [hi] at q
    exact q.elim
/-- x[i] = e -/
def setD (xs : List PyData) (k : Int) (d : PyData) : Option (List PyData) := (ixN xs.length k).map fun j => xs.set j d
def sSetI (i : Nat) (fk f : E) : S := fun env => ofR (f env) env fun d => ofR (gvo env i) env fun xs => ofR (fk env) env fun k => match k with
  | .int k => (match setD xs k d with
    | some ys => .nx (env.set i (some (.own ys)))
    | none => .no)
  | _ => .no
theorem cs_setI {i : Nat} {x : Str} {px : Pos} {b : Expr} (hN : X.N[i]? = some x) (hv : Vis X.env.scope x) (hd : (x == ("__debug__" : Str)) = false) (hcd : (x == ("__classdict__" : Str)) = false) (he : CE X W e f) (hb : CE X W b fb)
    (ha : ∀ v, assign (.Subscript (.Name x px) b p) X.env v = (do
      let ov ← holding [v] (eval (.Name x px) X.env)
      let iv ← holding [v, ov] (eval b X.env)
      standAt p
      holding [v, ov, iv] (setItem ov iv v)
      release [v, ov, iv] []) := by intro _; rfl)
    (hs : swapsWithSole [.Subscript (.Name x px) b p] e pos.line X.env = pure false := by rfl) (hw : swappedStores [.Subscript (.Name x px) b p] e X.env = pure none := by rfl)
    (h1 : (assignEach [.Subscript (.Name x px) b p] X.env).map (·.2) = [assign (.Subscript (.Name x px) b p) X.env] := by rfl) : CS X W (.Assign [.Subscript (.Name x px) b p] e pos) (sSetI i fb f) := fun Z env σ H O D r q => by
  refine wp_s (ps_asg pe_wp (pg_sub pe_wp pe_wp set_list ha) hs hw h1) ?_
  refine he.so r q fun d v H1 e1 d1 r1 q1 => ?_
  rcases gvo_cases env i with ⟨ds, hi⟩ | hi
  · rw [hi] at q1
    refine own_read r1 (gvo_ok hi) hN hv hd hcd fun p vs s1 s2 s3 s4 s5 => ?_
    refine hb.so r1 q1 fun k kv H2 e2 d2 r2 q2 => ?_
    cases k with
    | int k =>
      cases dp_int d2
      unfold setD at q2
      dsimp only at q2
      cases hj : ixN ds.length k with
      | none => rw [hj] at q2; exact q2.elim
      | some j =>
        rw [hj] at q2
        exact ⟨p, vs, k, j, rfl, rfl, e2.lst s4, by rw [dpa_len s5]; exact hj, q2 _ _ _ (r2.mutOwn (gvo_ok hi) s1 (dpa_set ((e2.hid O).dp d1) j ((e2.hid O).dpa s5)))⟩
    | _ => exact q2.elim
  · rw [hi] at q1
    exact q1.elim
/-- from here on the own list of slot i is a value like any other -/
def frz (i : Nat) : S → S := fun s env => match env[i]? with
  | some (some (.own ds)) => s (env.set i (some (.fz (.list ds))))
  | _ => .no
theorem cs_frz (i : Nat) (h : CS X W st g) : CS X W st (frz i g) := fun Z env σ H O D r q => by
  unfold frz at q
  split at q
  · rename_i ds he
    obtain ⟨O', r', _⟩ := r.freeze he
    exact h Z _ σ H O' D r' q
  · exact q.elim
end
end PD
set_option Elab.async false
set_option linter.all false
set_option maxRecDepth 100000
set_option maxHeartbeats 4000000
namespace PD
open PySem PySem.Spec PyProof.Rows L2

/-! ### defs -/
/-- a def's promise, by a function of its arguments' data -/
def spD (K : PySem.W.Frag) (mg : Str → Option Value) (n : Nat) (F : List PyData → RO PyData) : Sp := fun vs H Q E => vs.length = n ∧ ∃ ds Oc, Lv Oc H ∧ DpAll K (hid Oc H) vs ds ∧ (match F ds with
  | .ok d => ∀ v H', Ext H H' → Dp K (hid Oc H') v d → Q v H'
  | .er c fl => ∀ C od H', Ext H H' → ExR mg K (hid Oc H') c fl C od → E C od H'
  | .no => False)
def startE (m : Nat) (ds : List PyData) : Env := ds.map (fun d => some (.fz d)) ++ List.replicate (m - ds.length) none
def runD (m : Nat) (B : S) : List PyData → RO PyData := fun ds => match B (startE m ds) with
  | .nx _ => .ok .none
  | .rt d => .ok d
  | .er _ c fl => .er c fl
  | _ => .no
theorem start_rep {K : PySem.W.Frag} {H : Hp} {Oc : List Addr} {vs : List V} {ds : List PyData} {N : List Str} (l : Lv Oc H) (h : DpAll K (hid Oc H) vs ds) : Rep K ⟨H, Oc⟩ (startE N.length ds) (L2.start N vs) H Oc := by
  have hl := dpa_len h
  have noOwn : ∀ {i : Nat} {di : List PyData}, (startE N.length ds)[i]? = some (some (.own di)) → False := fun {i di} e => by
    unfold startE at e
    by_cases hi : i < ds.length
    · rw [List.getElem?_append_left (by simpa using hi), List.getElem?_map] at e
      cases hd : ds[i]? with
      | none => rw [hd] at e; cases e
      | some d => rw [hd] at e; cases e
    · rw [List.getElem?_append_right (by simpa using hi), List.getElem?_replicate] at e
      split at e <;> cases e
  refine ⟨Ext.refl _, fun _ h => h, fun _ _ => rfl, ?_, fun i s e => ?_, fun i j a di dj e => (noOwn e).elim, l⟩
  · unfold startE L2.start
    simp [hl]
  · unfold startE at e
    by_cases hi : i < ds.length
    · rw [List.getElem?_append_left (by simpa using hi), List.getElem?_map] at e
      cases hd : ds[i]? with
      | none => rw [hd] at e; cases e
      | some d =>
        rw [hd] at e
        cases e
        obtain ⟨v, h1, h2⟩ := dpa_get h hd
        refine ⟨v, ?_, h2⟩
        unfold L2.start
        rw [List.getElem?_append_left (by rw [List.length_map, hl]; exact hi), List.getElem?_map, h1]
        rfl
    · rw [List.getElem?_append_right (by simpa using hi), List.getElem?_replicate] at e
      split at e <;> cases e
section
variable {P : Program} {w : World} {K : PySem.W.Frag} {mg : Str → Option Value} {base : Heap}
theorem body_ok {N : List Str} {X : Cx} {H : Hp} {vs : List V} {Q : VK} {E : XK} {body : List Stmt} {B : S} {n : Nat} (hK : X.K = K) (hmg : X.mg = mg) (h : CSs X (fun cls d _ H => E cls d H) body B) (q : spD K mg n (runD N.length B) vs H Q E) :
    wpSs X body { nx := fun _ H' => Q .non H', rt := Q } (L2.start N vs) H := by
  subst hK
  subst hmg
  obtain ⟨_, ds, Oc, l, hd, q⟩ := q
  refine h ⟨H, Oc⟩ (startE N.length ds) _ H Oc _ (start_rep l hd) ?_
  unfold runD at q
  cases hb : B (startE N.length ds) with
  | nx e => rw [hb] at q; exact fun σ' H' O' r => q _ H' r.whole .non
  | rt d => rw [hb] at q; exact fun v H' e hv => q v H' e hv
  | bk e => rw [hb] at q; exact q.elim
  | ct e => rw [hb] at q; exact q.elim
  | er e c fl => rw [hb] at q; exact fun C od σ' H' O' r x => q C od H' r.whole (x.mono (Ext.hid_sub r.sub))
  | no => rw [hb] at q; exact q.elim
theorem okD {x qual : Str} {st : Stmt} {f : Addr} {fd : FuncData} {N ps : List Str} {k : Nat} (F : Fun K x qual st f fd) (S : FnScope N ps (defScope st)) (B : PD.S)
    (h : ∀ (cdv : Value) (A : Around) (outer : List PySem.Env) (s : Shared) (H : Hp) (E : XK), Room k (A.deeper (envOfC qual (defScope st) s.heap.objs.size f cdv)) →
      CSs (cxOf (L2.CX P w) P w K mg base N qual (defScope st) f cdv A outer s H E) (fun cls d _ H => E cls d H) (defBody st) B) : FnOk P w K mg base (L2.CX P w) (k + 1) f fd ps (spD K mg ps.length (runD N.length B)) :=
  F.okX S (fun vs H Q E q => q.1) fun cdv A outer s H vs Q E hr q => ⟨_, pss_wp, body_ok (N := N) rfl rfl (h cdv A outer s H E hr) q⟩
theorem okDD {x qual : Str} {params : Arguments} {body : List Stmt} {scope : Scope} {dvs : List V} {kws : List (Str × V)} {f : Addr} {fd : FuncData} {N ps : List Str} {k : Nat} (F : FunD K x qual params body scope dvs kws f fd) (S : FnScope N ps scope) (B : PD.S)
    (h : ∀ (cdv : Value) (A : Around) (outer : List PySem.Env) (s : Shared) (H : Hp) (E : XK), Room k (A.deeper (envOfC qual scope s.heap.objs.size f cdv)) →
      CSs (cxOf (L2.CX P w) P w K mg base N qual scope f cdv A outer s H E) (fun cls d _ H => E cls d H) body B) : FnOk P w K mg base (L2.CX P w) (k + 1) f fd ps (spD K mg ps.length (runD N.length B)) :=
  F.ok S (fun vs H Q E q => q.1) fun cdv A outer s H vs Q E hr q => ⟨_, pss_wp, body_ok (N := N) rfl rfl (h cdv A outer s H E hr) q⟩
end

/-! ### calls of defs -/
def callD (n : Nat) (F : List PyData → RO PyData) (ds : List PyData) : RO PyData := if ds.length = n then F ds else .no
section
variable {X : Cx} {W : WX} {Z : Zn} {env : Env} {σ : Sg} {H : Hp} {O : List Addr} {k n : Nat} {f : Addr} {fd : FuncData} {ps : List Str} {F : List PyData → RO PyData} {x : Str} {p pos : Pos} {e : Expr} {es : List Expr} {ga : Env → RO (List PyData)} {ds : List Value} {dvs : List V} {dd : List PyData}
theorem sp_of {vs : List V} {d : List PyData} {Q : VK} (r : Rep X.K Z env σ H O) (hv : DpAll X.K (hid O H) vs d) (q : ROk X W σ O (VQ X.K O Q) H (callD n F d)) : spD X.K X.mg n F vs H Q (WE W σ) := by
  unfold callD at q
  by_cases hl : d.length = n
  · rw [if_pos hl] at q
    refine ⟨by rw [dpa_len hv]; exact hl, d, O, r.lv, hv, ?_⟩
    cases hF : F d with
    | ok y => rw [hF] at q; exact fun v H' e' h => q H' e' v h
    | er c fl => rw [hF] at q; exact q
    | no => rw [hF] at q; exact q
  · rw [if_neg hl] at q
    exact q.elim
theorem ce_call (G : FnOk X.prog X.w X.K X.mg X.base (L2.CX X.prog X.w) k f fd ps (spD X.K X.mg n F)) (hr : Room k X.A) (tk : Takes X W) (hg : Gl X x) (hm : X.mg x = some (.ref f)) (hk : PySem.W.keepIn X.K (.ref f) = true) (hb : Binds X.K fd ps [])
    (ha : CA X W (e :: es) ga) (hdb : (x == ("__debug__" : Str)) = false := by decide) (he : starEach (e :: es) X.env = (false, eval e X.env) :: starEach es X.env := by rfl) (hpl : (backTo pos (starEach es X.env)).any (·.1) = false := by rfl) :
    CE X W (.Call (.Name x p) (e :: es) [] pos) (fun env => ga env >>= callD n F) := fun Z env σ H O Q r q => by
  refine wp_e (pe_callS G hr hg hm hk hb (fun σ => passAt tk σ) pa_wp hdb he hpl) ?_
  exact ha.go r q fun d vs H1 e1 d1 r1 q1 => sp_of r1 d1 q1
/-- the defaults fill up -/
theorem run_fnSD {E : L2.St → XK} {sp : Sp} {pins : List (Addr × Obj)} {s : Shared} {Q : VK} {us : List Value} {vs : List V} (G : FnOk X.prog X.w X.K X.mg X.base (L2.CX X.prog X.w) k f fd ps sp) (hr : Room k X.A) (hb : Binds X.K fd ps ds) (hd : Vals dvs ds) (hx : PassesAt (L2.CX X.prog X.w) X σ (E σ))
    (I : Inv X pins σ H s) (r : Vals vs us) (h : sp (vs ++ dvs) H Q (E σ)) : wpAny (model X.prog X.w) X.A (call (.ref f) us) (EP X pins σ Q) X.xe s := by
  have r2 : Vals (vs ++ dvs) (us ++ ds) := r.append hd
  have hl : (us ++ ds).length = ps.length := by rw [← r2.length]; exact G.len _ _ _ _ h
  refine wpAny_call (codeAny_mono (G.run X.A X.stack s H ⟨us, []⟩ (us ++ ds) (vs ++ dvs) Q (E σ) hr I.env0 (hb s us I.kIn hl) r2 h) fun r s' hq => ?_)
  cases r with
  | error e => exact hx pins H s e s' I hq
  | ok fl =>
    cases fl with
    | ret u => exact I.after hq
    | next => exact False.elim hq
    | brk => exact False.elim hq
    | cont => exact False.elim hq
theorem ce_callD (G : FnOk X.prog X.w X.K X.mg X.base (L2.CX X.prog X.w) k f fd ps (spD X.K X.mg n F)) (hr : Room k X.A) (tk : Takes X W) (hg : Gl X x) (hm : X.mg x = some (.ref f)) (hk : PySem.W.keepIn X.K (.ref f) = true) (hb : Binds X.K fd ps ds) (hd : Vals dvs ds) (hdd : ∀ H, DpAll X.K H dvs dd)
    (ha : CA X W (e :: es) ga) (hdb : (x == ("__debug__" : Str)) = false := by decide) (he : starEach (e :: es) X.env = (false, eval e X.env) :: starEach es X.env := by rfl) (hpl : (backTo pos (starEach es X.env)).any (·.1) = false := by rfl) :
    CE X W (.Call (.Name x p) (e :: es) [] pos) (fun env => ga env >>= fun xs => callD n F (xs ++ dd)) := fun Z env σ H O Q r q => by
  refine wp_e (t := fun σ H Q => wpA X (e :: es) σ H fun vs H1 => spD X.K X.mg n F (vs ++ dvs) H1 Q (WE W σ)) ⟨fun pins s σ H Q I h => ?_⟩ ?_
  · refine wpAny_Call_Name_kw (ld_glob I hg hm ?_ hdb)
    refine PySem.W.callWith_K (h₀ := X.base) I.ok.mod.kin hk (thn (pa_wp.run pos pins s σ H _ I h) fun us s1 ⟨vs, H1, I1, r, q⟩ => ⟨I1.kIn, ?_⟩) he hpl
    exact run_fnSD G hr hb hd (passAt tk σ) I1 r q
  · exact ha.go r q fun d vs H1 e1 d1 r1 q1 => sp_of r1 (dpa_app d1 (hdd _)) q1
/-- f(e, .., k = v) -/
def CKs (X : Cx) (W : WX) (kws : List Keyword) (f : Env → RO (List PyData)) : Prop := ∀ Z env σ H O Q, Rep X.K Z env σ H O → ROk X W σ O (AQ X.K O Q) H (f env) → ∃ t, PK X kws t ∧ t σ H Q
theorem ck_nil : CKs X W [] aNil := fun Z env σ H O Q r q => ⟨_, pk_nil, ROk.here q _ .nil⟩
def wpK (X : Cx) (kws : List Keyword) : TA := fun σ H Q => ∀ pos pins s, Inv X pins σ H s → wpAny (model X.prog X.w) X.A (evalAll ((backToKw pos (keywordEach kws X.env)).map (·.2))) (AP X pins σ Q) X.xe s
theorem pk_wp {kws : List Keyword} : PK X kws (wpK X kws) := ⟨fun pos pins s _ _ _ I h => h pos pins s I⟩
theorem CKs.wp {kws : List Keyword} {g : Env → RO (List PyData)} (h : CKs X W kws g) {Q : List V → Hp → Prop} (r : Rep X.K Z env σ H O) (q : ROk X W σ O (AQ X.K O Q) H (g env)) : wpK X kws σ H Q := by
  obtain ⟨t, h1, h2⟩ := h Z env σ H O Q r q
  exact fun pos pins s I => h1.run pos pins s σ H Q I h2
theorem ck_cons {f : E} {g : Env → RO (List PyData)} {nm : Option Str} {kpos : Pos} {kws : List Keyword} (h : CE X W e f) (hk : CKs X W kws g) : CKs X W (⟨nm, e, kpos⟩ :: kws) (aCons f g) := fun Z env σ H O Q r q => by
  refine ⟨_, pk_cons pe_wp pk_wp, ?_⟩
  refine h.go r q fun d v H1 e1 d1 r1 q1 => ?_
  exact hk.wp r1 (q1.then fun ds H2 _ e2 q2 vs hv => q2.here _ (.cons ((e2.hid O).dp d1) hv))
theorem run_fnNS {E : L2.St → XK} {sp : Sp} {pins : List (Addr × Obj)} {s : Shared} {Q : VK} {ks : List Str} {us ws : List Value} {vs zs : List V} {m : Nat} {g : List Value → List Value → List Value} {gV : List V → List V → List V} (G : FnOk X.prog X.w X.K X.mg X.base (L2.CX X.prog X.w) k f fd ps sp) (hr : Room k X.A) (hb : KBn X.K fd ps m ks g gV) (hx : PassesAt (L2.CX X.prog X.w) X σ (E σ))
    (I : Inv X pins σ H s) (r : Vals vs us) (rz : Vals zs ws) (l1 : vs.length = m) (l2 : zs.length = ks.length) (h : sp (gV vs zs) H Q (E σ)) : wpAny (model X.prog X.w) X.A (call (.ref f) us (ks.zip ws)) (EP X pins σ Q) X.xe s := by
  have r2 := hb.rel r rz
  refine wpAny_call (codeAny_mono (G.run X.A X.stack s H ⟨us, ks.zip ws⟩ (g us ws) (gV vs zs) Q (E σ) hr I.env0 (hb.to s us ws I.kIn (r.length.symm.trans l1) (rz.length.symm.trans l2)) r2 h) fun r s' hq => ?_)
  cases r with
  | error e => exact hx pins H s e s' I hq
  | ok fl =>
    cases fl with
    | ret u => exact I.after hq
    | next => exact False.elim hq
    | brk => exact False.elim hq
    | cont => exact False.elim hq
/-- gD: how the data of the positional and of the keyword arguments are put together -/
theorem ce_callK {kws : List Keyword} {ks : List Str} {m : Nat} {g : List Value → List Value → List Value} {gV : List V → List V → List V} {gD : List PyData → List PyData → List PyData} {gk : Env → RO (List PyData)} (G : FnOk X.prog X.w X.K X.mg X.base (L2.CX X.prog X.w) k f fd ps (spD X.K X.mg n F)) (hr : Room k X.A) (tk : Takes X W) (hg : Gl X x) (hm : X.mg x = some (.ref f)) (hk : PySem.W.keepIn X.K (.ref f) = true)
    (hb : KBn X.K fd ps m ks g gV) (hgD : ∀ H vs zs xs ys, DpAll X.K H vs xs → DpAll X.K H zs ys → DpAll X.K H (gV vs zs) (gD xs ys)) (ha : CA X W (e :: es) ga) (hkw : CKs X W kws gk) (hks : (backToKw pos (keywordEach kws X.env)).filterMap (·.1) = ks := by rfl)
    (hall : (backToKw pos (keywordEach kws X.env)).all (·.1.isSome) = true := by rfl)
    (hdb : (x == ("__debug__" : Str)) = false := by decide) (he : starEach (e :: es) X.env = (false, eval e X.env) :: starEach es X.env := by rfl)
    (hpl : ((backTo pos (starEach (e :: es) X.env)).any (·.1) || (backToKw pos (keywordEach kws X.env)).any (·.1.isNone)) = false := by rfl) :
    CE X W (.Call (.Name x p) (e :: es) kws pos) (fun env => ga env >>= fun xs => gk env >>= fun ys => if xs.length = m ∧ ys.length = ks.length then callD n F (gD xs ys) else .no) := fun Z env σ H O Q r q => by
  refine wp_e (t := fun σ H Q => wpA X (e :: es) σ H fun vs H1 => wpK X kws σ H1 fun zs H2 => vs.length = m ∧ zs.length = ks.length ∧ spD X.K X.mg n F (gV vs zs) H2 Q (WE W σ)) ⟨fun pins s σ H Q I h => ?_⟩ ?_
  · refine wpAny_Call_Name_kw (ld_glob I hg hm ?_ hdb)
    refine PySem.W.callWith_KW (h₀ := X.base) I.ok.mod.kin hk hall (thn (pa_wp.run pos pins s σ H _ I h) fun us s1 ⟨vs, H1, I1, r, q⟩ => ?_) hpl he
    refine thn (pk_wp.run pos pins s1 σ H1 _ I1 q) fun ws s2 ⟨zs, H2, I2, rz, l1, l2, q2⟩ => ⟨I2.kIn, ?_⟩
    rw [hks]
    exact run_fnNS G hr hb (passAt tk σ) I2 r rz l1 l2 q2
  · refine ha.go r q fun xs vs H1 e1 d1 r1 q1 => ?_
    refine hkw.wp r1 (q1.then fun ys H2 _ e2 q2 zs d2 => ?_)
    by_cases hl : xs.length = m ∧ ys.length = ks.length
    · rw [if_pos hl] at q2
      exact ⟨by rw [dpa_len d1]; exact hl.1, by rw [dpa_len d2]; exact hl.2, sp_of (r1.mono e2) (hgD _ _ _ _ _ ((e2.hid O).dpa d1) d2) q2⟩
    · rw [if_neg hl] at q2
      exact q2.elim
end

/-! ### raise C(), C an own class without __init__ -/
section
variable {X : Cx} {W : WX} {C : Addr} {bmB : List Value} {B newId initId : String} {x : Str} {p pos : Pos}
theorem pmk_own0 (F : ExcBaseFacts B newId initId bmB) (q : PySem.W.excIn X.K C bmB newId = true) (gC : X.mg x = some (.ref C)) (kC : PySem.W.keepIn X.K (.ref C) = true) (r : Raises X (.ref C)) (hg : Gl X x) (hdb : (x == ("__debug__" : Str)) = false := by decide) :
    PMk X (.Call (.Name x p) [] [] pos) (fun _ H Q => Q (.ref C) none H) := by
  intro pins s σ H Q I h
  refine wpAny_Call_Name_kw (ld_glob I hg gC ?_ hdb)
  refine PySem.W.callWith_K0 I.kIn kC ?_
  show wpAny _ _ (call (.ref C) []) _ _ _
  obtain ⟨bm, N, nm, qn, bs, hdct, sn, sub, ab, col, dd, k0, k1, k2, k3, k5, mN, hC, hN, hni, T⟩ := exc_obj I.kIn q
  refine wpAny_call_exc_subT F T hC hN hni (fun h' e hm => ?_) (by show 0 ≤ sizeLine; exact Nat.zero_le _)
  exact mk_of I hm r h (I.hok.gone hm.new)
def sRaise (c : Str) (fl : Flds) : S := fun env => .er env c fl
theorem cs_raise0 {pos' : Pos} (hc : X.calm = true) (tk : Takes X W) (F : ExcBaseFacts B newId initId bmB) (q : PySem.W.excIn X.K C bmB newId = true) (gC : X.mg x = some (.ref C)) (kC : PySem.W.keepIn X.K (.ref C) = true) (r : Raises X (.ref C)) (hg : Gl X x) (hdb : (x == ("__debug__" : Str)) = false := by decide) :
    CS X W (.Raise (some (.Call (.Name x p) [] [] pos)) none pos') (sRaise x []) := fun Z env σ H O D rp qq =>
  wp_s (ps_raise hc tk (pmk_own0 F q gC kC r hg hdb)) (qq (.ref C) none σ H O rp ⟨gC, .inl ⟨rfl, rfl⟩⟩)
end
end PD
set_option Elab.async false
set_option linter.all false
set_option maxRecDepth 100000
set_option maxHeartbeats 4000000
namespace PD
open PySem PySem.Spec PyProof.Rows L2

/-! ### in an except suite: expressions over the exception that slot i holds -/
abbrev Ex := Str → Flds → E
def CEx (X : Cx) (i : Nat) (a : Addr) (cls : Value) (od : Option Addr) (e : Expr) (f : Ex) : Prop := ∀ Z env σ H O Q c fl, Rep X.K Z env σ H O → σ[i]? = some (some (.ref a)) → ExR X.mg X.K (hid O H) c fl cls od → ROk X WN σ O (VQ X.K O Q) H (f c fl env) → wpE X e σ H Q
section
variable {X : Cx} {i : Nat} {a : Addr} {cls : Value} {od : Option Addr} {e e1 e2 : Expr} {es rest : List Expr} {f : E} {fa fb : Ex} {pos p : Pos} {Z : Zn} {env : Env} {σ : Sg} {H : Hp} {O : List Addr}
theorem CEx.go {β : Type} {g : PyData → RO β} {P : β → Hp → Prop} {Q : VK} {c : Str} {fl : Flds} (h : CEx X i a cls od e fa) (r : Rep X.K Z env σ H O) (hi : σ[i]? = some (some (.ref a))) (x : ExR X.mg X.K (hid O H) c fl cls od) (q : ROk X WN σ O P H (fa c fl env >>= g))
    (k : ∀ d v H1, Ext H H1 → Dp X.K (hid O H1) v d → Rep X.K Z env σ H1 O → ExR X.mg X.K (hid O H1) c fl cls od → ROk X WN σ O P H1 (g d) → Q v H1) : wpE X e σ H Q :=
  h Z env σ H O Q c fl r hi x (q.then fun d H1 _ e1 q1 v hv => k d v H1 e1 hv (r.mono e1) (x.mono (e1.hid O)) q1)
theorem cx_ce (h : CE X WN e f) : CEx X i a cls od e (fun _ _ => f) := fun Z env σ H O Q c fl r _ _ q => h Z env σ H O Q r q
theorem cx_not (h : CEx X i a cls od e fa) : CEx X i a cls od (.UnaryOp .Not e pos) (fun c fl => eNt (fa c fl)) := fun Z env σ H O Q c fl r hi x q => by
  refine wp_e (pe_not pe_wp) ?_
  dsimp only at q
  unfold eNt at q
  rw [RO.assoc] at q
  refine h.go r hi x q fun d v H1 e1 d1 r1 x1 q1 => ?_
  cases d with
  | bool k =>
    cases dp_bool d1
    exact ⟨k, rfl, q1.here _ (.bl _)⟩
  | _ => exact q1.elim
theorem cx_one {op} (h : CEx X i a cls od e fa) : CEx X i a cls od (.BoolOp op [e] pos) fa := fun Z env σ H O Q c fl r hi x q => wp_e (pe_one pe_wp) (h Z env σ H O Q c fl r hi x q)
theorem cx_and (h : CEx X i a cls od e1 fa) (k : CEx X i a cls od (.BoolOp .And (e2 :: rest) pos) fb) : CEx X i a cls od (.BoolOp .And (e1 :: e2 :: rest) pos) (fun c fl => eAn (fa c fl) (fb c fl)) := fun Z env σ H O Q c fl r hi x q => by
  refine wp_e (pe_and pe_wp pe_wp) ?_
  dsimp only at q
  unfold eAn at q
  rw [RO.assoc] at q
  refine h.go r hi x q fun d v H1 e1 d1 r1 x1 q1 => ?_
  cases d with
  | bool b =>
    cases dp_bool d1
    refine ⟨b, rfl, ?_⟩
    cases b with
    | true => exact k Z env σ H1 O Q c fl r1 hi x1 q1
    | false => exact q1.here _ (.bl _)
  | _ => exact q1.elim
/-- the tuple's items -/
def CAx (X : Cx) (i : Nat) (a : Addr) (cls : Value) (od : Option Addr) (es : List Expr) (f : Str → Flds → Env → RO (List PyData)) : Prop := ∀ Z env σ H O Q c fl, Rep X.K Z env σ H O → σ[i]? = some (some (.ref a)) → ExR X.mg X.K (hid O H) c fl cls od → ROk X WN σ O (AQ X.K O Q) H (f c fl env) → wpA X es σ H Q
variable {ga : Str → Flds → Env → RO (List PyData)}
theorem cax_nil : CAx X i a cls od [] (fun _ _ => aNil) := fun Z env σ H O Q c fl r hi x q => wp_a pa_nil (ROk.here q _ .nil)
theorem cax_cons (h : CEx X i a cls od e fa) (k : CAx X i a cls od es ga) (hs : starEach (e :: es) X.env = (false, eval e X.env) :: starEach es X.env := by rfl) : CAx X i a cls od (e :: es) (fun c fl => aCons (fa c fl) (ga c fl)) := fun Z env σ H O Q c fl r hi x q => by
  refine wp_a (pa_cons pe_wp pa_wp hs) ?_
  dsimp only at q
  unfold aCons at q
  refine h.go r hi x q fun d v H1 e1 d1 r1 x1 q1 => ?_
  exact k Z env σ H1 O _ c fl r1 hi x1 (q1.then fun ds H2 _ e2 q2 vs hv => q2.here _ (.cons ((e2.hid O).dp d1) hv))
theorem cx_tup {x1} (h : CAx X i a cls od es ga) : CEx X i a cls od (.Tuple es x1 pos) (fun c fl => eTup (ga c fl)) := fun Z env σ H O Q c fl r hi x q => by
  refine wp_e (pe_tup pa_wp) ?_
  dsimp only at q
  unfold eTup at q
  refine h Z env σ H O _ c fl r hi x (q.then fun ds H1 _ e1 q1 vs d1 => ?_)
  by_cases z : ds.length ≤ sizeLine
  · rw [if_pos z] at q1
    exact ⟨by rw [dpa_len d1]; exact z, fun p hp => q1 _ (Ext.new hp) _ (dp_newT (r.mono e1).lv hp d1)⟩
  · rw [if_neg z] at q1
    exact q1.elim
end

section
variable {X : Cx} {i : Nat} {a D : Addr} {oe : Obj} {pn : List (Addr × Obj)} {cls : Value} {od : Option Addr} {n x : Str} {pos p p1 p2 : Pos} {C : Addr} {b : Bool} {c0 : Str}
theorem cx_is0 (T : ExcC X.K D) (m0 : X.mg c0 = some (.ref D)) (hz : Zc cls od oe) (hf : ∃ vs, oe.data = .fields vs) (hg : Gl X "isinstance") (hm : X.mg "isinstance" = none) (hN : X.N[i]? = some n) (hv : Vis X.env.scope n) (hgx : Gl X x) (hmx : X.mg x = some (.ref C)) (hk : PySem.W.kitOne X.K (.ref D) (.ref C) = some b)
    (hd : (n == ("__debug__" : Str)) = false := by decide) (hcd : (n == ("__classdict__" : Str)) = false := by decide) (hdx : (x == ("__debug__" : Str)) = false := by decide)
    (he : starEach [.Name n p1, .Name x p2] X.env = (false, eval (.Name n p1) X.env) :: starEach [.Name x p2] X.env := by rfl) (he2 : starEach [.Name x p2] X.env = (false, eval (.Name x p2) X.env) :: starEach [] X.env := by rfl)
    (hpl : (backTo pos (starEach [.Name x p2] X.env)).any (·.1) = false := by rfl) :
    CEx (X.suite a ((a, oe) :: pn)) i a cls od (.Call (.Name "isinstance" p) [.Name n p1, .Name x p2] [] pos) (fun c fl _ => if c = c0 ∧ fl = [] then .ok (.bool b) else .no) := fun Z env σ H O Q c fl r hi xr q => by
  by_cases hc : c = c0 ∧ fl = []
  · obtain ⟨rfl, rfl⟩ := hc
    dsimp only at q
    rw [if_pos ⟨rfl, rfl⟩] at q
    obtain ⟨x1, x2⟩ := xr
    have e1 : cls = .ref D := Option.some.inj ((show X.mg c = some cls from x1).symm.trans m0)
    have e2 : od = none := by
      rcases x2 with ⟨_, h⟩ | ⟨h, _⟩
      · exact h
      · exact absurd rfl h
    subst e1
    subst e2
    have hb : PE (X.suite a ((a, oe) :: pn)) (.Name x p2) (tC (.ref C)) := pe_glob hgx hmx rfl hdx
    refine wp_e (X := X.suite a ((a, oe) :: pn)) (pe_callB (call_isE T hz hf) hg hm (by decide +kernel) (pa_cons (pe_var hN hv hd hcd) (pa_cons hb pa_nil he2) he) (by decide) (by decide) he hpl) ?_
    exact ⟨_, hi, .ref C, .ref C, b, rfl, fun u hu => hu, hk, q.here _ (.bl _)⟩
  · dsimp only at q
    rw [if_neg hc] at q
    exact q.elim
end
/-! ### the statement -/
def sTryR (i : Nat) (g : S) (mtc : Str → Option Bool) (fx : Ex) : S := fun env => match g env with
  | .er e1 c fl => (match mtc c with
    | some true => if i < e1.length then (match fx c fl (e1.set i none) with | .ok d => .rt d | _ => .no) else .no
    | some false => .er e1 c fl
    | none => .no)
  | r => r
section
variable {X : Cx} {W : WX} {x n : Str} {cV : Value} {i : Nat} {body : List Stmt} {np pos pos' rpos : Pos} {g : S} {mtc : Str → Option Bool} {fx : Ex} {e : Expr}
theorem cs_try_as (hs : X.stack = X.env :: X.outer) (hf : X.env.frame = some X.env.locals) (hN : X.N.Nodup) (hi : X.N[i]? = some n) (hln : X.env.kindOf n = some .local) (hc : Names X x cV) (tk : Takes X W)
    (hb : ∀ (W' : WX) (pn : List (Addr × Obj)) (xe : Value → Shared → Prop), Takes (X.tr pn xe) W' → PassesOwn (model X.prog X.w) X.A X.env xe → CSs (X.tr pn xe) W' body g)
    (hsu : ∀ (a : Addr) (oe : Obj) (cls : Value) (d : Option Addr) (pn : List (Addr × Obj)), Zc cls d oe → (∃ vs, oe.data = .fields vs) → CEx (X.suite a ((a, oe) :: pn)) i a cls d e fx)
    (hm : ∀ c b, mtc c = some b → ∀ C, X.mg c = some C → PySem.W.exmOne X.K C cV = some b) :
    CS X W (.Try body [.ExceptHandler (some (.Name x np)) (some n) [.Return (some e) rpos] pos'] [] [] pos) (sTryR i g mtc fx) := fun Z env σ H O D r q => by
  refine wp_s (ps_try_as (tb := fun W' D σ H => ∀ pn xe, Takes (X.tr pn xe) W' → PassesOwn (model X.prog X.w) X.A X.env xe → wpSs (X.tr pn xe) body D σ H)
    (ts := fun a cls d D σ H => ∀ oe pn, Zc cls d oe → (∃ vs, oe.data = .fields vs) → wpSs (X.suite a ((a, oe) :: pn)) [.Return (some e) rpos] D σ H)
    hs hf hN hi hln hc tk (fun W' pn xe h1 h2 => ⟨fun pins s _ _ _ I h => h pn xe h1 h2 pins s I⟩) (fun a oe cls d pn h1 h2 => ⟨fun pins s _ _ _ I h => h oe pn h1 h2 pins s I⟩)) ?_
  intro pn xe h1 h2
  refine hb _ pn xe h1 h2 Z env σ H O D r ?_
  unfold sTryR at q
  cases hg : g env with
  | er e1 c fl =>
    rw [hg] at q
    intro C od σ1 H1 O1 r1 x1
    dsimp only at q
    cases hmt : mtc c with
    | none => rw [hmt] at q; exact q.elim
    | some b =>
      rw [hmt] at q
      refine ⟨b, hm c b hmt C x1.1, fun eb a na oe pn' hz hff => ?_, fun eb => ?_⟩
      · subst eb
        dsimp only at q
        by_cases hl : i < e1.length
        · rw [if_pos hl] at q
          refine wp_ss (pss_one (ps_ret pe_wp)) ?_
          have r2 := r1.setNone i (some (.ref a))
          refine hsu a oe C od pn' hz hff Z _ _ H1 O1 _ c fl r2 (List.getElem?_set_self (by rw [← r1.len]; exact hl)) x1 ?_
          cases hfx : fx c fl (e1.set i none) with
          | ok d => rw [hfx] at q; exact fun H2 e2 v hv => q v H2 (r1.whole.trans e2) ((Ext.hid_sub r1.sub).dp hv)
          | er _ _ => rw [hfx] at q; exact q.elim
          | no => rw [hfx] at q; exact q.elim
        · rw [if_neg hl] at q
          exact q.elim
      · subst eb
        exact q C od σ1 H1 O1 r1 x1
  | nx e => rw [hg] at q; exact q
  | rt e => rw [hg] at q; exact q
  | bk e => rw [hg] at q; exact q
  | ct e => rw [hg] at q; exact q
  | no => rw [hg] at q; exact q
end
end PD
set_option Elab.async false
set_option linter.all false
set_option maxRecDepth 100000
set_option maxHeartbeats 4000000
namespace PD
open PySem PySem.Spec PyProof.Rows L2

/-! ### the readings by name -/
abbrev A := PD.Env → RO (List PyData)
def eOp (bi : PyData → PyData → Option PyData) (fa fb : E) : E := fun env => fa env >>= fun x => fb env >>= fun y => ofO (bi x y)
def tCm (bi : PyData → PyData → Option PyData) (fa fb : E) : T := fun env => fa env >>= fun x => fb env >>= fun y => ofO (bi x y) >>= tb
def eUn (bi : PyData → Option PyData) (fa : E) : E := fun env => fa env >>= fun x => ofO (bi x)
def eBf (bi : List PyData → Option PyData) (ga : A) : E := fun env => ga env >>= fun ds => ofO (bi ds)
def eIsi (T : String) (f : E) : E := fun env => f env >>= fun d => ofO (isiO T d)
def eB (i : Nat) : E := fun env => gb env i
def eIx (fa fb : E) : E := fun env => fa env >>= fun x => fb env >>= fun y => ofO (dIx x y)
def eIxO (i : Nat) (fb : E) : E := fun env => gvo env i >>= fun xs => fb env >>= fun y => ofO (dIx (.list xs) y)
abbrev OI := PD.Env → RO (Option Int)
def oN : OI := fun _ => .ok none
def oS (f : E) : OI := fun env => f env >>= tI >>= fun i => .ok (some i)
def eSl (fa : E) (fl fh : OI) : E := fun env => fa env >>= fun x => fl env >>= fun l => fh env >>= fun u => dCut x l u
def lSl (fa : E) (fl fh : OI) : A := fun env => fa env >>= fun x => fl env >>= fun l => fh env >>= fun u => lCut x l u
def lSlO (i : Nat) (fl fh : OI) : A := fun env => gvo env i >>= fun xs => fl env >>= fun l => fh env >>= fun u => .ok (cutD xs l u)
def lLi (f : E) : A := fun env => f env >>= dSeq
def eTu (f : E) : E := fun env => f env >>= dSeq >>= fun xs => .ok (.tuple xs)
def eTuO (i : Nat) : E := fun env => gvo env i >>= fun xs => .ok (.tuple xs)
def eLeO (i : Nat) : E := fun env => gvo env i >>= fun xs => .ok (.int xs.length)
def eL (fl : A) : E := fun env => fl env >>= fun ds => .ok (.list ds)
def lComp (fs : A) (g : G) (t : T) (f : E) (ws : List Nat) : A := fun env => fs env >>= fun items => compD g t f (wipeE env ws) items
def lCompO (i : Nat) (g : G) (t : T) (f : E) (ws : List Nat) : A := fun env => gvo env i >>= fun items => compD g t f (wipeE env ws) items
def iSeq (f : E) : A := fun env => f env >>= dIter
def iR1 (f : E) : A := fun env => f env >>= rng1
def iR2 (f g : E) : A := fun env => f env >>= fun x => g env >>= fun y => rng2 x y
def tV (f : E) : T := fun env => f env >>= tb
def tT (f : E) : T := fun env => f env >>= tru
def tY : T := fun _ => .ok true
def eCall (n : Nat) (F : List PyData → RO PyData) (ga : A) : E := fun env => ga env >>= callD n F
def eCallD (n : Nat) (F : List PyData → RO PyData) (dd : List PyData) (ga : A) : E := fun env => ga env >>= fun xs => callD n F (xs ++ dd)
def sWh (n : Nat) (t : T) (g : S) : S := fun env => whileGo t g n env
def sBk : S := fun env => .bk env
def sCt : S := fun env => .ct env
def sNo : S := fun _ => .no

/-! ### a def that may be called by its name -/
def Dfn (P : Program) (w : World) (K : PySem.W.Frag) (mg : Str → Option Value) (base : Heap) (x : Str) (k n : Nat) (F : List PyData → RO PyData) : Prop :=
  ∃ (f : Addr) (fd : FuncData) (ps : List Str), FnOk P w K mg base (L2.CX P w) k f fd ps (spD K mg n F) ∧ mg x = some (.ref f) ∧ PySem.W.keepIn K (.ref f) = true ∧ Binds K fd ps []
theorem Dfn.mono {P : Program} {w : World} {K : PySem.W.Frag} {mg : Str → Option Value} {base : Heap} {x : Str} {k k' n : Nat} {F : List PyData → RO PyData} (h : Dfn P w K mg base x k n F) (l : k ≤ k') : Dfn P w K mg base x k' n F := by
  obtain ⟨f, fd, ps, G, r⟩ := h
  exact ⟨f, fd, ps, G.mono l, r⟩
/-- the same, with a promise that is worth as much -/
theorem Dfn.eqv {P : Program} {w : World} {K : PySem.W.Frag} {mg : Str → Option Value} {base : Heap} {x : Str} {k n : Nat} {F F' : List PyData → RO PyData} (h : Dfn P w K mg base x k n F) (l : ∀ ds, F' ds = .no ∨ F' ds = F ds) : Dfn P w K mg base x k n F' := by
  obtain ⟨f, fd, ps, G, r⟩ := h
  refine ⟨f, fd, ps, G.imp fun vs H Q E q => ?_, r⟩
  obtain ⟨q1, ds, Oc, q2, q3, q4⟩ := q
  refine ⟨q1, ds, Oc, q2, q3, ?_⟩
  rcases l ds with e | e
  · rw [e] at q4
    exact q4.elim
  · rw [← e]
    exact q4
section
variable {X : Cx} {W : WX} {e a b c : Expr} {es : List Expr} {f fa fb : E} {ga : A} {pos p : Pos} {x : Str} {k n kk : Nat} {F : List PyData → RO PyData}
theorem c_call (G : Dfn X.prog X.w X.K X.mg X.base x k n F) (hr : Room kk X.A) (hk : k ≤ kk) (tk : Takes X W) (hg : Gl X x) (ha : CA X W (e :: es) ga) (hdb : (x == ("__debug__" : Str)) = false := by decide) (he : starEach (e :: es) X.env = (false, eval e X.env) :: starEach es X.env := by rfl) (hpl : (backTo pos (starEach es X.env)).any (·.1) = false := by rfl) :
    CE X W (.Call (.Name x p) (e :: es) [] pos) (eCall n F ga) := by
  obtain ⟨f, fd, ps, G, hm, hkp, hb⟩ := G
  exact ce_call G (hr.mono hk) tk hg hm hkp hb ha hdb he hpl
/-- a def of the text: its promise by its body -/
theorem dfn_of {P : Program} {w : World} {K : PySem.W.Frag} {mg : Str → Option Value} {base : Heap} {qual : Str} {st : Stmt} {f : Addr} {fd : FuncData} {N ps : List Str} {B : S} (Fn : Fun K x qual st f fd) (Sc : FnScope N ps (defScope st)) (hb : Binds K fd ps []) (hm : mg x = some (.ref f))
    (h : ∀ (cdv : Value) (A : Around) (outer : List PySem.Env) (s : Shared) (H : Hp) (E : XK), Room k (A.deeper (envOfC qual (defScope st) s.heap.objs.size f cdv)) →
      CSs (cxOf (L2.CX P w) P w K mg base N qual (defScope st) f cdv A outer s H E) (fun cls d _ H => E cls d H) (defBody st) B) : Dfn P w K mg base x (k + 1) ps.length (runD N.length B) :=
  ⟨f, fd, ps, okD Fn Sc B h, hm, Fn.kp, hb⟩
theorem tk0 {P : Program} {w : World} {K : PySem.W.Frag} {mg : Str → Option Value} {base : Heap} {N : List Str} {qual : Str} {sc : Scope} {f : Addr} {cdv : Value} {A : Around} {outer : List PySem.Env} {s : Shared} {H : Hp} {E : XK} :
    Takes (cxOf (L2.CX P w) P w K mg base N qual sc f cdv A outer s H E) (fun cls d _ H => E cls d H) := takes_of rfl rfl rfl rfl
theorem ps0 {P : Program} {w : World} {K : PySem.W.Frag} {mg : Str → Option Value} {base : Heap} {N : List Str} {qual : Str} {sc : Scope} {f : Addr} {cdv : Value} {A : Around} {outer : List PySem.Env} {s : Shared} {H : Hp} {E : XK} :
    PassesOwn (model (cxOf (L2.CX P w) P w K mg base N qual sc f cdv A outer s H E).prog (cxOf (L2.CX P w) P w K mg base N qual sc f cdv A outer s H E).w) (cxOf (L2.CX P w) P w K mg base N qual sc f cdv A outer s H E).A (cxOf (L2.CX P w) P w K mg base N qual sc f cdv A outer s H E).env (cxOf (L2.CX P w) P w K mg base N qual sc f cdv A outer s H E).xe :=
  passes_of (K := fun e s'' => L2.CX P w outer H s E e s'') rfl
theorem tkN {X : Cx} : Takes X WN := takes0
/-- a constant of the module -/
theorem ce_gI {i : Int} {t : Tok} (hg : Gl X x) (hm : X.mg x = some (.int i t)) (hdb : (x == ("__debug__" : Str)) = false := by decide) : CE X W (.Name x pos) (eC (.int i)) := fun Z env σ H O Q r q =>
  wp_e (pe_glob (v := .int i) hg hm ⟨t, rfl⟩ hdb) (ROk.here q _ (.int i))
/-- a tuple of ints that the module holds -/
theorem ce_gT {a : Addr} {o : Obj} {its : Array Value} {m : Nat} {ks : List Int} (hg : Gl X x) (hm : X.mg x = some (.ref a)) (hk : X.K.lookup a = some o) (hc : o.cls = .type "tuple") (hd : o.data = .seq its m) (hz : its.size ≤ sizeLine) (hv : Vals (ks.map V.int) its.toList) (hdb : (x == ("__debug__" : Str)) = false := by decide) :
    CE X W (.Name x pos) (eC (.tuple (ks.map .int))) := fun Z env σ H O Q r q => by
  refine wp_e (pe_glob (v := .ref a) hg hm rfl hdb) (ROk.here q _ (.tup (xs := ks.map V.int) (.inr ⟨o, its, m, hk, hc, hd, hz, hv⟩) ?_))
  have : ∀ (H : Hp) (ks : List Int), DpAll X.K H (ks.map V.int) (ks.map .int) := fun H ks => by
    induction ks with
    | nil => exact .nil
    | cons k ks ih => exact .cons (.int k) ih
  exact this _ ks
end
end PD
set_option Elab.async false
set_option linter.all false
set_option maxRecDepth 100000
set_option maxHeartbeats 4000000
namespace PD
open PySem PySem.Spec PyProof.Rows L2
section
variable {X : Cx} {W : WX} {e e2 : Expr} {es : List Expr} {f : E} {g : A} {pos p p2 : Pos}
theorem c_len (hg : Gl X "len") (hm : X.mg "len" = none) (ha : CA X W (e :: es) g) (he : starEach (e :: es) X.env = (false, eval e X.env) :: starEach es X.env := by rfl) (hpl : (backTo pos (starEach es X.env)).any (·.1) = false := by rfl) :
    CE X W (.Call (.Name "len" p) (e :: es) [] pos) (eBf cLen g) := ce_bf cal_len.cal hg hm PySem.boot_len ha (by decide) (by decide) he hpl
theorem c_abs (hg : Gl X "abs") (hm : X.mg "abs" = none) (ha : CA X W (e :: es) g) (he : starEach (e :: es) X.env = (false, eval e X.env) :: starEach es X.env := by rfl) (hpl : (backTo pos (starEach es X.env)).any (·.1) = false := by rfl) :
    CE X W (.Call (.Name "abs" p) (e :: es) [] pos) (eBf cAbs g) := ce_bf cal_abs.cal hg hm (by decide +kernel) ha (by decide) (by decide) he hpl
theorem c_int (hg : Gl X "int") (hm : X.mg "int" = none) (ha : CA X W (e :: es) g) (he : starEach (e :: es) X.env = (false, eval e X.env) :: starEach es X.env := by rfl) (hpl : (backTo pos (starEach es X.env)).any (·.1) = false := by rfl) :
    CE X W (.Call (.Name "int" p) (e :: es) [] pos) (eBf cInt g) := ce_ty cal_int.cal hg hm (by decide +kernel) ha (by decide) (by decide) he hpl
theorem c_max (hc : X.calm = true) (hg : Gl X "max") (hm : X.mg "max" = none) (ha : CA X W (e :: es) g) (he : starEach (e :: es) X.env = (false, eval e X.env) :: starEach es X.env := by rfl) (hpl : (backTo pos (starEach es X.env)).any (·.1) = false := by rfl) :
    CE X W (.Call (.Name "max" p) (e :: es) [] pos) (eBf cMax g) := ce_bf (cal_max hc).cal hg hm (by decide +kernel) ha (by decide) (by decide) he hpl
theorem c_min (hc : X.calm = true) (hg : Gl X "min") (hm : X.mg "min" = none) (ha : CA X W (e :: es) g) (he : starEach (e :: es) X.env = (false, eval e X.env) :: starEach es X.env := by rfl) (hpl : (backTo pos (starEach es X.env)).any (·.1) = false := by rfl) :
    CE X W (.Call (.Name "min" p) (e :: es) [] pos) (eBf cMin g) := ce_bf (cal_min hc).cal hg hm (by decide +kernel) ha (by decide) (by decide) he hpl
theorem c_all (hc : X.calm = true) (hg : Gl X "all") (hm : X.mg "all" = none) (ha : CA X W (e :: es) g) (he : starEach (e :: es) X.env = (false, eval e X.env) :: starEach es X.env := by rfl) (hpl : (backTo pos (starEach es X.env)).any (·.1) = false := by rfl) :
    CE X W (.Call (.Name "all" p) (e :: es) [] pos) (eBf cAll g) := ce_bf (cal_all hc).cal hg hm (by decide +kernel) ha (by decide) (by decide) he hpl
theorem c_any (hc : X.calm = true) (hg : Gl X "any") (hm : X.mg "any" = none) (ha : CA X W (e :: es) g) (he : starEach (e :: es) X.env = (false, eval e X.env) :: starEach es X.env := by rfl) (hpl : (backTo pos (starEach es X.env)).any (·.1) = false := by rfl) :
    CE X W (.Call (.Name "any" p) (e :: es) [] pos) (eBf cAny g) := ce_bf (cal_any hc).cal hg hm (by decide +kernel) ha (by decide) (by decide) he hpl
theorem c_gcd (hg : Gl X "gcd") (hm : X.mg "gcd" = some (.builtin "math.gcd")) (ha : CA X W (e :: es) g) (he : starEach (e :: es) X.env = (false, eval e X.env) :: starEach es X.env := by rfl) (hpl : (backTo pos (starEach es X.env)).any (·.1) = false := by rfl) :
    CE X W (.Call (.Name "gcd" p) (e :: es) [] pos) (eBf cGcd g) := ce_bi cal_gcd.cal hg hm ha (by decide) he hpl
theorem c_isi_int (hg : Gl X "isinstance") (hm : X.mg "isinstance" = none) (hg2 : Gl X "int") (hm2 : X.mg "int" = none) (h : CB X W e f)
    (he : starEach [e, .Name "int" p2] X.env = (false, eval e X.env) :: starEach [.Name "int" p2] X.env := by rfl) (he2 : starEach [.Name "int" p2] X.env = (false, eval (.Name "int" p2) X.env) :: starEach [] X.env := by rfl) (hpl : (backTo pos (starEach [.Name "int" p2] X.env)).any (·.1) = false := by rfl) :
    CE X W (.Call (.Name "isinstance" p) [e, .Name "int" p2] [] pos) (eIsi "int" f) := ce_isi rfl hg hm hg2 hm2 (by decide +kernel) (by decide) (by decide) h he he2 hpl
theorem c_isi_bool (hg : Gl X "isinstance") (hm : X.mg "isinstance" = none) (hg2 : Gl X "bool") (hm2 : X.mg "bool" = none) (h : CB X W e f)
    (he : starEach [e, .Name "bool" p2] X.env = (false, eval e X.env) :: starEach [.Name "bool" p2] X.env := by rfl) (he2 : starEach [.Name "bool" p2] X.env = (false, eval (.Name "bool" p2) X.env) :: starEach [] X.env := by rfl) (hpl : (backTo pos (starEach [.Name "bool" p2] X.env)).any (·.1) = false := by rfl) :
    CE X W (.Call (.Name "isinstance" p) [e, .Name "bool" p2] [] pos) (eIsi "bool" f) := ce_isi rfl hg hm hg2 hm2 (by decide +kernel) (by decide) (by decide) h he he2 hpl
theorem c_isi_str (hg : Gl X "isinstance") (hm : X.mg "isinstance" = none) (hg2 : Gl X "str") (hm2 : X.mg "str" = none) (h : CB X W e f)
    (he : starEach [e, .Name "str" p2] X.env = (false, eval e X.env) :: starEach [.Name "str" p2] X.env := by rfl) (he2 : starEach [.Name "str" p2] X.env = (false, eval (.Name "str" p2) X.env) :: starEach [] X.env := by rfl) (hpl : (backTo pos (starEach [.Name "str" p2] X.env)).any (·.1) = false := by rfl) :
    CE X W (.Call (.Name "isinstance" p) [e, .Name "str" p2] [] pos) (eIsi "str" f) := ce_isi rfl hg hm hg2 hm2 (by decide +kernel) (by decide) (by decide) h he he2 hpl
theorem c_isi_tuple (hg : Gl X "isinstance") (hm : X.mg "isinstance" = none) (hg2 : Gl X "tuple") (hm2 : X.mg "tuple" = none) (h : CB X W e f)
    (he : starEach [e, .Name "tuple" p2] X.env = (false, eval e X.env) :: starEach [.Name "tuple" p2] X.env := by rfl) (he2 : starEach [.Name "tuple" p2] X.env = (false, eval (.Name "tuple" p2) X.env) :: starEach [] X.env := by rfl) (hpl : (backTo pos (starEach [.Name "tuple" p2] X.env)).any (·.1) = false := by rfl) :
    CE X W (.Call (.Name "isinstance" p) [e, .Name "tuple" p2] [] pos) (eIsi "tuple" f) := ce_isi rfl hg hm hg2 hm2 (by decide +kernel) (by decide) (by decide) h he he2 hpl
theorem c_isi_list (hg : Gl X "isinstance") (hm : X.mg "isinstance" = none) (hg2 : Gl X "list") (hm2 : X.mg "list" = none) (h : CB X W e f)
    (he : starEach [e, .Name "list" p2] X.env = (false, eval e X.env) :: starEach [.Name "list" p2] X.env := by rfl) (he2 : starEach [.Name "list" p2] X.env = (false, eval (.Name "list" p2) X.env) :: starEach [] X.env := by rfl) (hpl : (backTo pos (starEach [.Name "list" p2] X.env)).any (·.1) = false := by rfl) :
    CE X W (.Call (.Name "isinstance" p) [e, .Name "list" p2] [] pos) (eIsi "list" f) := ce_isi rfl hg hm hg2 hm2 (by decide +kernel) (by decide) (by decide) h he he2 hpl
end
/-- a recursion's promise before its first turn: nothing -/
theorem dfn_no {P : Program} {w : World} {K : PySem.W.Frag} {mg : Str → Option Value} {base : Heap} {x : Str} {k n : Nat} {f : Addr} {fd : FuncData} {ps : List Str} (hl : ps.length = n) (hm : mg x = some (.ref f)) (hk : PySem.W.keepIn K (.ref f) = true) (hb : Binds K fd ps []) :
    Dfn P w K mg base x k n (fun _ => .no) :=
  ⟨f, fd, ps, ⟨fun vs H Q E q => by obtain ⟨_, _, _, _, _, q⟩ := q; exact q.elim, fun A outer s H args us vs Q E hr e0 hbs hv q => by obtain ⟨_, _, _, _, _, q⟩ := q; exact q.elim⟩, hm, hk, hb⟩
/-- the law's promise, as the end asks it -/
def spLaw (K : PySem.W.Frag) : Sp := fun vs H Q _ => ∃ (a : Addr) (ns : List Int), vs = [.ref a] ∧ SqL K H a (ns.map V.int) ∧ ns.length ≤ 63 ∧ (∀ z ∈ ns, Builtin.Int.intBits z ≤ 1048576) ∧ ∀ H', Q (.bl true) H'
theorem dpa_ints {K : PySem.W.Frag} {H : Hp} : ∀ ns : List Int, DpAll K H (ns.map V.int) (ns.map PyData.int)
  | [] => .nil
  | n :: ns => .cons (.int n) (dpa_ints ns)
theorem law_of {P : Program} {w : World} {K : PySem.W.Frag} {mg : Str → Option Value} {base : Heap} {k : Nat} {f : Addr} {fd : FuncData} {ps : List Str} {F : List PyData → RO PyData} (G : FnOk P w K mg base (L2.CX P w) k f fd ps (spD K mg 1 F))
    (h : ∀ ns : List Int, ns.length ≤ 63 → (∀ z ∈ ns, Builtin.Int.intBits z ≤ 1048576) → F [.list (ns.map .int)] = .ok (.bool true)) : FnOk P w K mg base (L2.CX P w) k f fd ps (spLaw K) :=
  G.imp fun vs H Q E q => by
    obtain ⟨a, ns, rfl, h1, h2, h3, q⟩ := q
    refine ⟨rfl, [.list (ns.map .int)], [], (fun _ z => nomatch z), ?_, ?_⟩
    · rw [hid_nil]
      exact .cons (.lst h1 (dpa_ints ns)) .nil
    · rw [h ns h2 h3]
      intro v H' _ hv
      cases dp_bool hv
      exact q H'
end PD
set_option Elab.async false
set_option linter.all false
set_option maxRecDepth 100000
set_option maxHeartbeats 4000000
namespace PD
open PySem PySem.Spec PyProof.Rows L2
/-- so many turns of a while loop, so many calls within one another -/
def WH : Nat := 1000000
def RD : Nat := 20
theorem RD_eq : RD = 20 := rfl
/-! ### what the module holds -/
def GInt (mg : Str → Option Value) (x : Str) (i : Int) : Prop := ∃ t, mg x = some (.int i t)
def GTup (K : PySem.W.Frag) (mg : Str → Option Value) (x : Str) (ks : List Int) : Prop :=
  ∃ (a : Addr) (o : Obj) (its : Array Value) (m : Nat), mg x = some (.ref a) ∧ K.lookup a = some o ∧ o.cls = .type "tuple" ∧ o.data = .seq its m ∧ its.size ≤ sizeLine ∧ Vals (ks.map V.int) its.toList
theorem gtup2 {K : PySem.W.Frag} {mg : Str → Option Value} {x : Str} {a : Addr} {i j : Int} {t u : Tok} {dd : Option Addr} {m : Nat} {sl : Array (Option Value)} (h : mg x = some (.ref a)) (k : K.lookup a = some ⟨.type "tuple", dd, .seq #[.int i t, .int j u] m, sl⟩) : GTup K mg x [i, j] :=
  ⟨a, _, _, m, h, k, rfl, rfl, by show 2 ≤ sizeLine; decide, .cons ⟨t, rfl⟩ (.cons ⟨u, rfl⟩ .nil)⟩
/-- an own exception class over ValueError, without an __init__ -/
structure XC (K : PySem.W.Frag) (mg : Str → Option Value) (c : Str) (C : Addr) : Prop where
  gg : mg c = some (.ref C)
  xx : PySem.W.excIn K C [.type "ValueError", .type "Exception", .type "BaseException", .type "object"] "ValueError.__new__" = true
  kk : PySem.W.keepIn K (.ref C) = true
  bb : PySem.W.subIn K (.ref C) (.type "BaseException") = some true
  tt : PySem.W.typeIn K (.ref C) = some (.type "type")
section
variable {X : Cx} {W : WX} {pos p : Pos} {x : Str} {e : Expr} {es : List Expr} {ga gk : A} {k n kk : Nat} {F : List PyData → RO PyData}
theorem c_gI {i : Int} (hg : Gl X x) (h : GInt X.mg x i) (hdb : (x == ("__debug__" : Str)) = false := by decide) : CE X W (.Name x pos) (eC (.int i)) := by
  obtain ⟨t, h⟩ := h
  exact ce_gI hg h hdb
theorem c_gT {ks : List Int} (hg : Gl X x) (h : GTup X.K X.mg x ks) (hdb : (x == ("__debug__" : Str)) = false := by decide) : CE X W (.Name x pos) (eC (.tuple (ks.map .int))) := by
  obtain ⟨a, o, its, m, h1, h2, h3, h4, h5, h6⟩ := h
  exact ce_gT hg h1 h2 h3 h4 h5 h6 hdb
/-- a def whose last parameter has a default: f(x), f(x, y), f(x, name=y) -/
structure Dfn1 (P : Program) (w : World) (K : PySem.W.Frag) (mg : Str → Option Value) (base : Heap) (x : Str) (k : Nat) (nm : Str) (d0 : Int) (F : List PyData → RO PyData) : Prop where
  full : Dfn P w K mg base x k 2 F
  one : ∃ (f : Addr) (fd : FuncData) (ps : List Str) (ds : List Value), FnOk P w K mg base (L2.CX P w) k f fd ps (spD K mg 2 F) ∧ mg x = some (.ref f) ∧ PySem.W.keepIn K (.ref f) = true ∧ Binds K fd ps ds ∧ Vals [.int d0] ds
  key : ∃ (f : Addr) (fd : FuncData) (ps : List Str), FnOk P w K mg base (L2.CX P w) k f fd ps (spD K mg 2 F) ∧ mg x = some (.ref f) ∧ PySem.W.keepIn K (.ref f) = true ∧ KBn K fd ps 1 [nm] (fun us ws => us ++ ws) (fun vs zs => vs ++ zs)
theorem c_call1 {nm : Str} {d0 : Int} (G : Dfn1 X.prog X.w X.K X.mg X.base x k nm d0 F) (hr : Room kk X.A) (hk : k ≤ kk) (tk : Takes X W) (hg : Gl X x) (ha : CA X W (e :: es) ga) (hdb : (x == ("__debug__" : Str)) = false := by decide) (he : starEach (e :: es) X.env = (false, eval e X.env) :: starEach es X.env := by rfl) (hpl : (backTo pos (starEach es X.env)).any (·.1) = false := by rfl) :
    CE X W (.Call (.Name x p) (e :: es) [] pos) (eCallD 2 F [.int d0] ga) := by
  obtain ⟨f, fd, ps, ds, G, hm, hkp, hb, hd⟩ := G.one
  exact ce_callD G (hr.mono hk) tk hg hm hkp hb hd (fun H => .cons (.int d0) .nil) ha hdb he hpl
def eCallK (F : List PyData → RO PyData) (ga gk : A) : E := fun env => ga env >>= fun xs => gk env >>= fun ys => if xs.length = 1 ∧ ys.length = 1 then callD 2 F (xs ++ ys) else .no
theorem c_callk {nm : Str} {d0 : Int} {kws : List Keyword} (G : Dfn1 X.prog X.w X.K X.mg X.base x k nm d0 F) (hr : Room kk X.A) (hk : k ≤ kk) (tk : Takes X W) (hg : Gl X x) (ha : CA X W (e :: es) ga) (hkw : CKs X W kws gk) (hks : (backToKw pos (keywordEach kws X.env)).filterMap (·.1) = [nm] := by rfl)
    (hall : (backToKw pos (keywordEach kws X.env)).all (·.1.isSome) = true := by rfl)
    (hdb : (x == ("__debug__" : Str)) = false := by decide) (he : starEach (e :: es) X.env = (false, eval e X.env) :: starEach es X.env := by rfl)
    (hpl : ((backTo pos (starEach (e :: es) X.env)).any (·.1) || (backToKw pos (keywordEach kws X.env)).any (·.1.isNone)) = false := by rfl) :
    CE X W (.Call (.Name x p) (e :: es) kws pos) (eCallK F ga gk) := by
  obtain ⟨f, fd, ps, G, hm, hkp, hb⟩ := G.key
  exact ce_callK (ks := [nm]) (m := 1) (gD := fun xs ys => xs ++ ys) G (hr.mono hk) tk hg hm hkp hb (fun H vs zs xs ys h1 h2 => dpa_app h1 h2) ha hkw hks hall hdb he hpl
end
/-- such a def of the text -/
theorem dfn1_of {P : Program} {w : World} {K : PySem.W.Frag} {mg : Str → Option Value} {base : Heap} {x qual p1 nm : Str} {k : Nat} {d0 : Int} {st : Stmt} {f : Addr} {fd : FuncData} {N : List Str} {B : S} (Fn : FunD K x qual (defArgs st) (defBody st) (defScope st) [.int d0] [] f fd) (Sc : FnScope N [p1, nm] (defScope st)) (hm : mg x = some (.ref f))
    (b : ∀ (T : Addr) (kV doc pm : Value) (an : Option Addr) (cdv ct u v : Value), ∃ k, bindArgs (PySem.W.fnOf x qual (defArgs st) (defBody st) (defScope st) (.ref T) kV doc pm an cdv ct) ⟨[u, v], []⟩ = seqItems? (.ref T) >>= k ∧ ∀ z, k (some #[z]) = pure ([p1, nm].zip [u, v]))
    (b1 : ∀ (T : Addr) (kV doc pm : Value) (an : Option Addr) (cdv ct u : Value), ∃ k, bindArgs (PySem.W.fnOf x qual (defArgs st) (defBody st) (defScope st) (.ref T) kV doc pm an cdv ct) ⟨[u], []⟩ = seqItems? (.ref T) >>= k ∧ ∀ z, k (some #[z]) = pure ([p1, nm].zip [u, z]))
    (bk : ∀ (T : Addr) (kV doc pm : Value) (an : Option Addr) (cdv ct u v : Value), ∃ k, bindArgs (PySem.W.fnOf x qual (defArgs st) (defBody st) (defScope st) (.ref T) kV doc pm an cdv ct) ⟨[u], [(nm, v)]⟩ = seqItems? (.ref T) >>= k ∧ ∀ z, k (some #[z]) = pure ([p1, nm].zip [u, v]))
    (h : ∀ (cdv : Value) (A : Around) (outer : List PySem.Env) (s : Shared) (H : Hp) (E : XK), Room k (A.deeper (envOfC qual (defScope st) s.heap.objs.size f cdv)) →
      CSs (cxOf (L2.CX P w) P w K mg base N qual (defScope st) f cdv A outer s H E) (fun cls d _ H => E cls d H) (defBody st) B) : Dfn1 P w K mg base x (k + 1) nm d0 (runD N.length B) := by
  have G := okDD (P := P) (w := w) (mg := mg) (base := base) Fn Sc B h
  have two : ∀ {us : List Value}, us.length = 2 → ∃ u v, us = [u, v] := fun {us} hl => by
    rcases us with _ | ⟨u, _ | ⟨v, _ | ⟨_, _⟩⟩⟩
    · cases hl
    · cases hl
    · exact ⟨u, v, rfl⟩
    · cases hl
  have one1 : ∀ {us : List Value}, us.length = 1 → ∃ u, us = [u] := fun {us} hl => by
    rcases us with _ | ⟨u, _ | ⟨_, _⟩⟩
    · cases hl
    · exact ⟨u, rfl⟩
    · cases hl
  refine ⟨?_, ?_, ?_⟩
  · obtain ⟨ds, hv, hb⟩ := Fn.binds1 (ps := [p1, nm]) 2 1 (by simp) (by simp) fun T kV doc pm an cdv ct us its h1 h2 => by
      obtain ⟨u, v, rfl⟩ := two h1
      obtain ⟨z, rfl⟩ := one1 h2
      obtain ⟨k, e1, e2⟩ := b T kV doc pm an cdv ct u v
      exact ⟨k, e1, by simpa using e2 z⟩
    have e0 : ds = [] := by
      have hv' : Vals [] ds := hv
      cases hv'
      rfl
    subst e0
    exact ⟨f, fd, _, G, hm, Fn.kp, hb⟩
  · obtain ⟨ds, hv, hb⟩ := Fn.binds1 (ps := [p1, nm]) 1 0 (by simp) (by simp) fun T kV doc pm an cdv ct us its h1 h2 => by
      obtain ⟨u, rfl⟩ := one1 h1
      obtain ⟨z, rfl⟩ := one1 h2
      obtain ⟨k, e1, e2⟩ := b1 T kV doc pm an cdv ct u
      exact ⟨k, e1, by simpa using e2 z⟩
    exact ⟨f, fd, _, ds, G, hm, Fn.kp, hb, hv⟩
  · refine ⟨f, fd, _, G, hm, Fn.kp, ⟨fun s us ws KX h1 h2 => ?_, fun r1 r2 => r1.append r2⟩⟩
    obtain ⟨u, rfl⟩ := one1 h1
    obtain ⟨v, rfl⟩ := one1 h2
    obtain ⟨oc, od, dV, kV, doc, pm, an, cdv, ct, osl, rfl, lk, hcd, hD, hK⟩ := Fn.ex
    rcases hD with ⟨e, _⟩ | ⟨_, T, o, its, m, rfl, lT, oT, rT⟩
    · cases e
    · obtain ⟨z, rfl⟩ := one1 rT.length.symm
      obtain ⟨k, e1, e2⟩ := bk T kV doc pm an cdv ct u v
      refine BindsTo.of_looks fun M => ?_
      have e1' : bindArgs (PySem.W.fnOf x qual (defArgs st) (defBody st) (defScope st) (.ref T) kV doc pm an cdv ct) ⟨[u], [nm].zip [v]⟩ = seqItems? (.ref T) >>= k := e1
      rw [e1']
      exact looks_items KX lT oT (.of_pure (e2 z))
/-- what an except clause does with a class below (or not below) its own -/
theorem exm_of {K : PySem.W.Frag} {S D : Addr} {b : Bool} (h1 : PySem.W.subIn K (.ref D) (.type "BaseException") = some true) (h2 : PySem.W.isClsIn K D = true) (h3 : PySem.W.typeIn K (.ref D) = some (.type "type")) (h4 : PySem.W.subIn K (.ref S) (.ref D) = some b) :
    PySem.W.exmOne K (.ref S) (.ref D) = some b := by
  have e1 : (PySem.W.subIn K (.ref D) (.type "BaseException") == some true) = true := by rw [h1] <;> rfl
  have e2 : ((PySem.W.clsIn K D).isSome && PySem.W.typeIn K (.ref D) == some (.type "type")) = true := by
    have h2' : (PySem.W.clsIn K D).isSome = true := h2
    rw [h2', h3] <;> rfl
  show (if (PySem.W.subIn K (.ref D) (.type "BaseException") == some true) = true then (if ((PySem.W.clsIn K D).isSome && PySem.W.typeIn K (.ref D) == some (.type "type")) = true then PySem.W.subIn K (.ref S) (.ref D) else none) else none) = some b
  rw [if_pos e1, if_pos e2]
  exact h4
theorem kit_ofF {K : PySem.W.Frag} {S D : Addr} {b : Bool} (h0 : (Value.ref S == Value.ref D) = false) (h2 : PySem.W.isClsIn K D = true) (h3 : PySem.W.typeIn K (.ref D) = some (.type "type")) (h4 : PySem.W.subIn K (.ref S) (.ref D) = some b) :
    PySem.W.kitOne K (.ref S) (.ref D) = some b := by
  have e2 : ((PySem.W.clsIn K D).isSome && PySem.W.typeIn K (.ref D) == some (.type "type")) = true := by
    have h2' : (PySem.W.clsIn K D).isSome = true := h2
    rw [h2', h3] <;> rfl
  show (if (Value.ref S == Value.ref D) = true then some true else (if ((PySem.W.clsIn K D).isSome && PySem.W.typeIn K (.ref D) == some (.type "type")) = true then PySem.W.subIn K (.ref S) (.ref D) else none)) = some b
  rw [h0, if_neg Bool.false_ne_true, if_pos e2]
  exact h4
theorem kit_ofT {K : PySem.W.Frag} {S D : Addr} (h2 : PySem.W.isClsIn K D = true) (h3 : PySem.W.typeIn K (.ref D) = some (.type "type")) (h4 : PySem.W.subIn K (.ref S) (.ref D) = some true) :
    PySem.W.kitOne K (.ref S) (.ref D) = some true := by
  cases h0 : (Value.ref S == Value.ref D) with
  | false => exact kit_ofF h0 h2 h3 h4
  | true =>
    show (if (Value.ref S == Value.ref D) = true then some true else _) = some true
    rw [h0, if_pos rfl]
end PD
set_option Elab.async false
set_option linter.all false
set_option maxRecDepth 100000
set_option maxHeartbeats 4000000
namespace PD
open PySem PySem.Spec PyProof.Rows L2
/-! ### the mirrors, step by step -/
def outD : SO → RO PyData
  | .nx _ => .ok .none
  | .rt d => .ok d
  | .er _ c fl => .er c fl
  | _ => .no
section
variable {α β : Type} {env e1 : Env} {g h : S} {f fa fb f2 : E} {t u : T} {ga gb2 : A} {i n : Nat} {d x y : PyData} {ds xs : List PyData} {c : Str} {fl : Flds} {b : Bool} {B : S} {F : List PyData → RO PyData} {bi : PyData → PyData → Option PyData} {bc : List PyData → Option PyData} {bu : PyData → Option PyData}
theorem x_run : runD n B ds = outD (B (startE n ds)) := rfl
theorem x_out_nx : outD (.nx env) = .ok .none := rfl
theorem x_out_rt : outD (.rt d) = .ok d := rfl
theorem x_out_er : outD (.er env c fl) = .er c fl := rfl
def seqO (r : SO) (h : S) : SO := match r with
  | .nx e => h e
  | r => r
theorem x_seq : sSeq g h env = seqO (g env) h := rfl
theorem x_seq_nx : seqO (.nx env) h = h env := rfl
theorem x_seq_rt : seqO (.rt d) h = .rt d := rfl
theorem x_seq_er : seqO (.er env c fl) h = .er env c fl := rfl
theorem x_seq_ct : seqO (.ct env) h = .ct env := rfl
theorem x_seq_bk : seqO (.bk env) h = .bk env := rfl
theorem x_seq_ite {p : Prop} [Decidable p] {r s : SO} : seqO (if p then r else s) h = if p then seqO r h else seqO s h := by split <;> rfl
theorem x_ofR_ok {k : α → SO} {a : α} : ofR (.ok a) env k = k a := rfl
theorem x_ofR_er {k : α → SO} : ofR (.er c fl : RO α) env k = .er env c fl := rfl
theorem x_nx : sNx env = .nx env := rfl
theorem x_bk : sBk env = .bk env := rfl
theorem x_ct : sCt env = .ct env := rfl
theorem x_set : sSet i f env = ofR (f env) env fun d => .nx (env.set i (some (.fz d))) := rfl
theorem x_setL : sSetL i ga env = ofR (ga env) env fun ds => .nx (env.set i (some (.own ds))) := rfl
theorem x_ret : sRet f env = ofR (f env) env .rt := rfl
theorem x_drop : sDrop f env = ofR (f env) env fun _ => .nx env := rfl
theorem x_retN : sRetN env = .rt .none := rfl
theorem x_if : sIf t g h env = ofR (t env) env fun b => if b = true then g env else h env := rfl
theorem x_raise : sRaise c fl env = .er env c fl := rfl
theorem x_var : eVar i env = gv env i := rfl
theorem x_gv (h : env[i]? = some (some (.fz d))) : gv env i = .ok d := by
  unfold gv
  rw [h]
theorem x_gv0 {r : Env} : gv (some (.fz d) :: r) 0 = .ok d := rfl
theorem x_gvS {r : Env} {a : Option SV} : gv (a :: r) (i + 1) = gv r i := rfl
theorem x_gvo0 {r : Env} : gvo (some (.own ds) :: r) 0 = .ok ds := rfl
theorem x_gvoS {r : Env} {a : Option SV} : gvo (a :: r) (i + 1) = gvo r i := rfl
theorem x_gb : eB i env = gb env i := rfl
theorem x_gb0 {r : Env} : gb (some (.fz d) :: r) 0 = .ok d := rfl
theorem x_gbO {r : Env} : gb (some (.own ds) :: r) 0 = .ok (.list ds) := rfl
theorem x_gbS {r : Env} {a : Option SV} : gb (a :: r) (i + 1) = gb r i := rfl
theorem x_c : eC d env = .ok d := rfl
theorem x_op : eOp bi fa fb env = (fa env >>= fun x => fb env >>= fun y => ofO (bi x y)) := rfl
theorem x_cm : tCm bi fa fb env = (fa env >>= fun x => fb env >>= fun y => ofO (bi x y) >>= tb) := rfl
theorem x_un : eUn bu fa env = (fa env >>= fun x => ofO (bu x)) := rfl
theorem x_bf : eBf bc ga env = (ga env >>= fun ds => ofO (bc ds)) := rfl
theorem x_isi {T : String} : eIsi T f env = (f env >>= fun d => ofO (isiO T d)) := rfl
theorem x_ix : eIx fa fb env = (fa env >>= fun x => fb env >>= fun y => ofO (dIx x y)) := rfl
theorem x_ixO : eIxO i fb env = (gvo env i >>= fun xs => fb env >>= fun y => ofO (dIx (.list xs) y)) := rfl
theorem x_ofO_some {a : α} : ofO (some a) = RO.ok a := rfl
theorem x_anil : aNil env = .ok [] := rfl
theorem x_acons : aCons f ga env = (f env >>= fun x => ga env >>= fun xs => RO.ok (x :: xs)) := rfl
theorem x_tup : eTup ga env = (ga env >>= fun xs => if xs.length ≤ sizeLine then RO.ok (.tuple xs) else .no) := rfl
theorem x_lst : lLst ga env = (ga env >>= fun xs => if xs.length ≤ sizeLine then RO.ok xs else .no) := rfl
theorem x_eL : eL ga env = (ga env >>= fun ds => RO.ok (.list ds)) := rfl
theorem x_tb : tb (.bool b) = .ok b := rfl
theorem x_nt : tNt t env = (t env >>= fun b => RO.ok (!b)) := rfl
theorem x_an : tAn t u env = (t env >>= fun b => if b = true then u env else RO.ok false) := rfl
theorem x_or : tOr t u env = (t env >>= fun b => if b = true then RO.ok true else u env) := rfl
theorem x_ent : eNt f env = (f env >>= tb >>= fun b => RO.ok (.bool !b)) := rfl
theorem x_ean : eAn fa fb env = (fa env >>= tb >>= fun b => if b = true then fb env else RO.ok (.bool false)) := rfl
theorem x_eor : eOr fa fb env = (fa env >>= tb >>= fun b => if b = true then RO.ok (.bool true) else fb env) := rfl
theorem x_eif : eIf t fa fb env = (t env >>= fun b => if b = true then fa env else fb env) := rfl
theorem x_tT : tT f env = (f env >>= tru) := rfl
theorem x_tV : tV f env = (f env >>= tb) := rfl
theorem x_tY : tY env = .ok true := rfl
theorem x_call : eCall n F ga env = (ga env >>= callD n F) := rfl
theorem x_callD {dd : List PyData} : eCallD n F dd ga env = (ga env >>= fun xs => callD n F (xs ++ dd)) := rfl
theorem x_callK {gk : A} : eCallK F ga gk env = (ga env >>= fun xs => gk env >>= fun ys => if xs.length = 1 ∧ ys.length = 1 then callD 2 F (xs ++ ys) else .no) := rfl
theorem x_cd1 {a : PyData} : callD 1 F [a] = F [a] := rfl
theorem x_cd2 {a b : PyData} : callD 2 F [a, b] = F [a, b] := rfl
theorem x_cd3 {a b c : PyData} : callD 3 F [a, b, c] = F [a, b, c] := rfl
theorem x_cd4 {a b c d : PyData} : callD 4 F [a, b, c, d] = F [a, b, c, d] := rfl
theorem x_st0 : startE 0 [] = [] := rfl
theorem x_stS : startE (n + 1) (d :: ds) = some (.fz d) :: startE n ds := by
  unfold startE
  simp
theorem x_stN : startE (n + 1) [] = none :: startE n [] := by
  unfold startE
  simp [List.replicate_succ]
theorem x_wh {k : Nat} : sWh k t g env = whileGo t g k env := rfl
theorem x_for {gg : G} : sFor ga gg g env = ofR (ga env) env fun items => forGo gg g items env := rfl
theorem x_iseq : iSeq f env = (f env >>= dIter) := rfl
theorem x_ir1 : iR1 f env = (f env >>= rng1) := rfl
theorem x_ir2 : iR2 fa fb env = (fa env >>= fun x => fb env >>= fun y => rng2 x y) := rfl
theorem x_add {i j : Int} : dAdd (.int i) (.int j) = some (.int (i + j)) := rfl
theorem x_sub {i j : Int} : dSub (.int i) (.int j) = some (.int (i - j)) := rfl
theorem x_mul {i j : Int} (h : mulOk i j = true) : dMul (.int i) (.int j) = some (.int (i * j)) := by
  show (if mulOk i j = true then some (PyData.int (i * j)) else none) = _
  rw [if_pos h]
theorem x_div {i j : Int} (h : divOk j = true) : dDiv (.int i) (.int j) = some (.int (i.fdiv j)) := by
  show (if divOk j = true then some (PyData.int (i.fdiv j)) else none) = _
  rw [if_pos h]
theorem x_mod {i j : Int} (h : 0 < j) : dMod (.int i) (.int j) = some (.int (i % j)) := by
  show (if 0 < j then some (PyData.int (i % j)) else none) = _
  rw [if_pos h]
theorem x_neg {i : Int} : dNeg (.int i) = some (.int (-i)) := rfl
theorem x_dcmp {p : Int → Int → Bool} {i j : Int} : dCmp p (.int i) (.int j) = some (.bool (p i j)) := rfl
theorem x_eqI {i j : Int} : dEq (.int i) (.int j) = some (.bool (decide (i = j))) := rfl
theorem x_neI {i j : Int} : dNe (.int i) (.int j) = some (.bool !(decide (i = j))) := rfl
theorem x_absI {i : Int} : cAbs [.int i] = some (.int (if i < 0 then -i else i)) := rfl
theorem x_intI {i : Int} : cInt [.int i] = some (.int i) := rfl
theorem x_gcdI {i j : Int} : cGcd [.int i, .int j] = some (.int (Int.gcd i j)) := rfl
theorem x_maxI {i j : Int} : cMax [.int i, .int j] = some (.int (if j > i then j else i)) := rfl
theorem x_minI {i j : Int} : cMin [.int i, .int j] = some (.int (if j < i then j else i)) := rfl
theorem x_lenL : cLen [.list xs] = some (.int xs.length) := rfl
theorem x_lenT : cLen [.tuple xs] = some (.int xs.length) := rfl
theorem x_ixL {i : Int} : dIx (.list xs) (.int i) = atI xs i := rfl
theorem x_ixT {i : Int} : dIx (.tuple xs) (.int i) = atI xs i := rfl
theorem x_at0 {a : α} {l : List α} : atI (a :: l) 0 = some a := atI_nat (j := 0) rfl
theorem x_at1 {a b : α} {l : List α} : atI (a :: b :: l) 1 = some b := atI_nat (j := 1) rfl
theorem x_sz0 {l : List PyData} : (([] : List PyData).length ≤ sizeLine) = True := eq_true (Nat.zero_le _)
theorem x_sz1 {a : PyData} : ([a].length ≤ sizeLine) = True := eq_true (by show 1 ≤ sizeLine; decide)
theorem x_sz2 {a b : PyData} : ([a, b].length ≤ sizeLine) = True := eq_true (by show 2 ≤ sizeLine; decide)
theorem x_sz3 {a b c : PyData} : ([a, b, c].length ≤ sizeLine) = True := eq_true (by show 3 ≤ sizeLine; decide)
theorem x_len1 {a : PyData} : ([a].length = 1) = True := eq_true rfl
theorem x_dt {p : Prop} [Decidable p] (h : p) : decide p = true := decide_eq_true h
theorem x_df {p : Prop} [Decidable p] (h : ¬p) : decide p = false := decide_eq_false h
def forB (r : SO) (k : PD.Env → SO) : SO := match r with
  | .nx e => k e
  | .ct e => k e
  | .bk e => .nx e
  | r => r
theorem x_forN {xs : List PyData} {r : PD.Env} : forGo (gN i) g (x :: xs) r = forB (g (r.set i (some (.fz x)))) (forGo (gN i) g xs) := rfl
theorem x_for0 {gg : G} {r : PD.Env} : forGo gg g [] r = .nx r := rfl
theorem x_fB_nx {k : PD.Env → SO} : forB (.nx env) k = k env := rfl
theorem x_fB_ct {k : PD.Env → SO} : forB (.ct env) k = k env := rfl
theorem x_fB_bk {k : PD.Env → SO} : forB (.bk env) k = .nx env := rfl
theorem x_fB_rt {k : PD.Env → SO} : forB (.rt d) k = .rt d := rfl
theorem x_fB_er {k : PD.Env → SO} : forB (.er env c fl) k = .er env c fl := rfl
theorem x_iTT : isiO "tuple" (.tuple xs) = some (.bool true) := rfl
theorem x_iTL : isiO "tuple" (.list xs) = some (.bool false) := rfl
theorem x_iTI {j : Int} : isiO "tuple" (.int j) = some (.bool false) := rfl
theorem x_iLT : isiO "list" (.tuple xs) = some (.bool false) := rfl
theorem x_iLL : isiO "list" (.list xs) = some (.bool true) := rfl
theorem x_iII {j : Int} : isiO "int" (.int j) = some (.bool true) := rfl
theorem x_iBI {j : Int} : isiO "bool" (.int j) = some (.bool false) := rfl
theorem x_iSS {z : Str} : isiO "str" (.str z) = some (.bool true) := rfl
theorem x_iBB : isiO "bool" (.bool b) = some (.bool true) := rfl
theorem x_truB : tru (.bool b) = .ok b := rfl
theorem x_itT : dIter (.tuple xs) = .ok xs := rfl
theorem x_itL : dIter (.list xs) = .ok xs := rfl
def tryB (r : SO) (i : Nat) (mtc : Str → Option Bool) (fx : Str → Flds → PD.Env → RO PyData) : SO := match r with
  | .er e1 c fl => (match mtc c with
    | some true => if i < e1.length then (match fx c fl (e1.set i none) with | .ok d => .rt d | _ => .no) else .no
    | some false => .er e1 c fl
    | none => .no)
  | r => r
theorem x_try {mtc : Str → Option Bool} {fx : Str → Flds → PD.Env → RO PyData} : sTryR i g mtc fx env = tryB (g env) i mtc fx := rfl
theorem x_try_er {mtc : Str → Option Bool} {fx : Str → Flds → PD.Env → RO PyData} (h : mtc c = some true) (hl : i < env.length) {v : PyData} (hv : fx c fl (env.set i none) = .ok v) : tryB (.er env c fl) i mtc fx = .rt v := by
  unfold tryB
  dsimp only
  rw [h]
  dsimp only
  rw [if_pos hl, hv]
theorem x_gN : gN i d env = .ok (env.set i (some (.fz d))) := rfl
end
end PD
set_option Elab.async false
set_option linter.all false
set_option maxRecDepth 100000
set_option maxHeartbeats 4000000
namespace PD
open PySem PySem.Spec PyProof.Rows L2
/-! ### sizes -/
def Sm (n : Nat) (i : Int) : Prop := i.natAbs < 2 ^ n
theorem Sm.mono {n m : Nat} {i : Int} (h : Sm n i) (l : n ≤ m) : Sm m i := Nat.lt_of_lt_of_le h (Nat.pow_le_pow_right (by decide) l)
theorem Sm.le {n : Nat} {i j : Int} (h : Sm n i) (l : j.natAbs ≤ i.natAbs) : Sm n j := Nat.lt_of_le_of_lt l h
theorem Sm.mul {n m : Nat} {i j : Int} (h : Sm n i) (k : Sm m j) : Sm (n + m) (i * j) := by
  unfold Sm at *
  rw [Int.natAbs_mul, Nat.pow_add]
  exact Nat.mul_lt_mul'' h k
theorem Sm.neg {n : Nat} {i : Int} (h : Sm n i) : Sm n (-i) := by
  unfold Sm at *
  rw [Int.natAbs_neg]
  exact h
theorem Sm.add {n : Nat} {i j : Int} (h : Sm n i) (k : Sm n j) : Sm (n + 1) (i + j) := by
  unfold Sm at *
  have := Int.natAbs_add_le i j
  rw [Nat.pow_succ]
  omega
theorem Sm.sub {n : Nat} {i j : Int} (h : Sm n i) (k : Sm n j) : Sm (n + 1) (i - j) := by
  have := Sm.add h k.neg
  rwa [Int.add_neg_eq_sub] at this
theorem Sm.log {n : Nat} {i : Int} (h : Sm n i) : i.natAbs.log2 ≤ n := by
  by_cases z : i.natAbs = 0
  · rw [z]
    exact Nat.le_trans (by decide : Nat.log2 0 ≤ 0) (Nat.zero_le _)
  · exact Nat.le_of_lt ((Nat.log2_lt z).mpr h)
theorem Sm.abs {n : Nat} {i : Int} (h : Sm n i) : Sm n (if i < 0 then -i else i) := by
  split
  · exact h.neg
  · exact h
theorem mulOk_sm {m n : Nat} {i j : Int} (h : Sm m i) (k : Sm n j) (l : m + n < 100000000 := by decide) : mulOk i j = true := by
  have h1 := h.log
  have h2 := k.log
  exact decide_eq_true (by omega)
theorem divOk_sm {n : Nat} {j : Int} (h : Sm n j) (z : j ≠ 0) (l : n < 9000 := by decide) : divOk j = true := by
  unfold divOk
  rw [Bool.and_eq_true]
  exact ⟨decide_eq_true z, decide_eq_true (Nat.lt_of_le_of_lt h.log l)⟩
theorem divOk_le {i j : Int} {n : Nat} (h : Sm n j) (z : i ≠ 0) (l : i.natAbs ≤ j.natAbs) (l2 : n < 9000 := by decide) : divOk i = true := divOk_sm (h.le l) z l2
/-! ### lowest terms -/
theorem low_facts (a b : Int) (hb : b ≠ 0) : ∃ p q : Int, a = Int.gcd a b * p ∧ b = Int.gcd a b * q ∧ Int.gcd p q = 1 ∧ 0 < (Int.gcd a b : Int) := by
  have hg : 0 < Int.gcd a b := Int.gcd_pos_of_ne_zero_right a hb
  obtain ⟨p, hp⟩ := Int.gcd_dvd_left a b
  obtain ⟨q, hq⟩ := Int.gcd_dvd_right a b
  refine ⟨p, q, hp, hq, ?_, Int.natCast_pos.mpr hg⟩
  have e : Int.gcd ((Int.gcd a b : Int) * p) ((Int.gcd a b : Int) * q) = Int.gcd a b * Int.gcd p q := by
    rw [Int.gcd_mul_left, Int.natAbs_natCast]
  rw [← hp, ← hq] at e
  exact Nat.eq_of_mul_eq_mul_left hg (by rw [Nat.mul_one]; exact e.symm)
theorem fdiv_neg_gcd {g p : Int} (h : 0 < g) : (g * p).fdiv (-g) = -p := by
  rw [show g * p = (-g) * (-p) by rw [Int.neg_mul_neg], Int.mul_fdiv_cancel_left _ (by omega)]
theorem fdiv_gcd {g p : Int} (h : 0 < g) : (g * p).fdiv g = p := Int.mul_fdiv_cancel_left _ (by omega)
/-! ### loops -/
theorem forGo_inv {gg : G} {body : S} (P : PyData → Prop) (I : PD.Env → Prop) (h : ∀ d env, P d → I env → ∃ e1, gg d env = .ok e1 ∧ ∃ e2, (body e1 = .nx e2 ∨ body e1 = .ct e2) ∧ I e2) : ∀ items env, (∀ d ∈ items, P d) → I env → ∃ env', forGo gg body items env = .nx env' ∧ I env'
  | [], env, _, hi => ⟨env, rfl, hi⟩
  | d :: items, env, hp, hi => by
    obtain ⟨e1, h1, e2, h2, h3⟩ := h d env (hp d (List.mem_cons_self ..)) hi
    obtain ⟨e3, h4, h5⟩ := forGo_inv P I h items e2 (fun x hx => hp x (List.mem_cons_of_mem _ hx)) h3
    refine ⟨e3, ?_, h5⟩
    show (match gg d env with
      | .ok e1 => match body e1 with
        | .nx e => forGo gg body items e
        | .ct e => forGo gg body items e
        | .bk e => .nx e
        | r => r
      | _ => .no) = _
    rw [h1]
    rcases h2 with h2 | h2
    · show (match body e1 with
        | .nx e => forGo gg body items e
        | .ct e => forGo gg body items e
        | .bk e => .nx e
        | r => r) = _
      rw [h2]
      exact h4
    · show (match body e1 with
        | .nx e => forGo gg body items e
        | .ct e => forGo gg body items e
        | .bk e => .nx e
        | r => r) = _
      rw [h2]
      exact h4
theorem rng1_ok {n : Nat} (h : n ≤ 1000) : rng1 (.int n) = .ok (rngItems 0 n) := by
  unfold rng1
  dsimp only
  rw [if_pos ⟨by omega, by omega⟩, Int.toNat_natCast]
theorem whileGo_stop {t : T} {body : S} {n : Nat} {env : PD.Env} (h : t env = .ok false) : whileGo t body (n + 1) env = .nx env := by
  show ofR (t env) env _ = _
  rw [h]
  rfl
theorem whileGo_step {t : T} {body : S} {n : Nat} {env e1 : PD.Env} (h : t env = .ok true) (h2 : body env = .nx e1) : whileGo t body (n + 1) env = whileGo t body n e1 := by
  show ofR (t env) env _ = _
  rw [h]
  show (if true = true then (match body env with
      | .nx e => whileGo t body n e
      | .ct e => whileGo t body n e
      | .bk e => .nx e
      | r => r) else .nx env) = _
  rw [if_pos rfl, h2]
def Keeps (I : PD.Env → Prop) : SO → Prop
  | .nx e => I e
  | .ct e => I e
  | _ => False
theorem forGo_keep {gg : G} {body : S} (P : PyData → Prop) (I : PD.Env → Prop) (h : ∀ d env, P d → I env → ∃ e1, gg d env = .ok e1 ∧ Keeps I (body e1)) (items : List PyData) (env : PD.Env) (hp : ∀ d ∈ items, P d) (hi : I env) : ∃ env', forGo gg body items env = .nx env' ∧ I env' :=
  forGo_inv P I (fun d env h1 h2 => by
    obtain ⟨e1, h3, h4⟩ := h d env h1 h2
    refine ⟨e1, h3, ?_⟩
    cases hb : body e1 with
    | nx e => rw [hb] at h4; exact ⟨e, .inl rfl, h4⟩
    | ct e => rw [hb] at h4; exact ⟨e, .inr rfl, h4⟩
    | rt d => rw [hb] at h4; exact h4.elim
    | bk e => rw [hb] at h4; exact h4.elim
    | er e c fl => rw [hb] at h4; exact h4.elim
    | no => rw [hb] at h4; exact h4.elim) items env hp hi
/-- a state whose first slot holds that, with so many more -/
def Held (d : PyData) (n : Nat) (env : PD.Env) : Prop := ∃ r : List (Option SV), r.length = n ∧ env = some (.fz d) :: r
end PD
set_option Elab.async false
set_option linter.all false
set_option maxRecDepth 100000
set_option maxHeartbeats 4000000
namespace KM
open PySem PySem.Spec PyProof.Rows L2 PD
def B_make : S := (sSeq (sIf (tCm dEq (eVar 1) (eC (.int 0))) (sRaise "ByZero" []) sNx) (sSeq (sSet 2 (eBf cGcd (aCons (eVar 0) (aCons (eVar 1) aNil)))) (sSeq (sIf (tCm dLt (eVar 1) (eC (.int 0))) (sSet 2 (eUn dNeg (eVar 2))) sNx) (sRet (eTup (aCons (eOp dDiv (eVar 0) (eVar 2)) (aCons (eOp dDiv (eVar 1) (eVar 2)) aNil)))))))
def F_make : List PyData → RO PyData := runD 3 B_make
def B_of : S := (sRet (eTup (aCons (eVar 0) (aCons (eC (.int 1)) aNil))))
def F_of : List PyData → RO PyData := runD 1 B_of
def B_add : S := (sRet (eCall 2 F_make (aCons (eOp dAdd (eOp dMul (eIx (eVar 0) (eC (.int 0))) (eIx (eVar 1) (eC (.int 1)))) (eOp dMul (eIx (eVar 1) (eC (.int 0))) (eIx (eVar 0) (eC (.int 1))))) (aCons (eOp dMul (eIx (eVar 0) (eC (.int 1))) (eIx (eVar 1) (eC (.int 1)))) aNil))))
def F_add : List PyData → RO PyData := runD 2 B_add
def B_subtract : S := (sRet (eCall 2 F_make (aCons (eOp dSub (eOp dMul (eIx (eVar 0) (eC (.int 0))) (eIx (eVar 1) (eC (.int 1)))) (eOp dMul (eIx (eVar 1) (eC (.int 0))) (eIx (eVar 0) (eC (.int 1))))) (aCons (eOp dMul (eIx (eVar 0) (eC (.int 1))) (eIx (eVar 1) (eC (.int 1)))) aNil))))
def F_subtract : List PyData → RO PyData := runD 2 B_subtract
def B_multiply : S := (sRet (eCall 2 F_make (aCons (eOp dMul (eIx (eVar 0) (eC (.int 0))) (eIx (eVar 1) (eC (.int 0)))) (aCons (eOp dMul (eIx (eVar 0) (eC (.int 1))) (eIx (eVar 1) (eC (.int 1)))) aNil))))
def F_multiply : List PyData → RO PyData := runD 2 B_multiply
def B_divide : S := (sRet (eCall 2 F_make (aCons (eOp dMul (eIx (eVar 0) (eC (.int 0))) (eIx (eVar 1) (eC (.int 1)))) (aCons (eOp dMul (eIx (eVar 0) (eC (.int 1))) (eIx (eVar 1) (eC (.int 0)))) aNil))))
def F_divide : List PyData → RO PyData := runD 2 B_divide
def B_negative : S := (sRet (eTup (aCons (eUn dNeg (eIx (eVar 0) (eC (.int 0)))) (aCons (eIx (eVar 0) (eC (.int 1))) aNil))))
def F_negative : List PyData → RO PyData := runD 1 B_negative
def B_absolute : S := (sRet (eTup (aCons (eBf cAbs (aCons (eIx (eVar 0) (eC (.int 0))) aNil)) (aCons (eIx (eVar 0) (eC (.int 1))) aNil))))
def F_absolute : List PyData → RO PyData := runD 1 B_absolute
def B__law_cell : S := (sSeq (sSet 2 (eIf (tCm dLt (eVar 1) (eBf cLen (aCons (eVar 0) aNil))) (eBf cInt (aCons (eIx (eVar 0) (eVar 1)) aNil)) (eC (.int 0)))) (sRet (eIf (tCm dLt (eBf cAbs (aCons (eVar 2) aNil)) (eOp dPow (eC (.int 10)) (eC (.int 64)))) (eVar 2) (eOp dMod (eBf cInt (aCons (eVar 2) aNil)) (eOp dPow (eC (.int 10)) (eC (.int 64)))))))
def F__law_cell : List PyData → RO PyData := runD 3 B__law_cell
def B__law_common : S := (sSeq (sSet 0 (eBf cAbs (aCons (eVar 0) aNil))) (sSeq (sSet 1 (eBf cAbs (aCons (eVar 1) aNil))) (sSeq (sWh WH (tCm dGt (eVar 1) (eC (.int 0))) (sSeq (sSet 2 (eOp dMod (eBf cInt (aCons (eVar 0) aNil)) (eVar 1))) (sSeq (sSet 0 (eVar 1)) (sSet 1 (eVar 2))))) (sRet (eVar 0)))))
def F__law_common : List PyData → RO PyData := runD 3 B__law_common
def B__law_lowest : S := (sSeq (sIf (tCm dLt (eVar 1) (eC (.int 0))) (sSeq (sSet 0 (eUn dNeg (eVar 0))) (sSet 1 (eUn dNeg (eVar 1)))) sNx) (sSeq (sSet 2 (eCall 2 F__law_common (aCons (eVar 0) (aCons (eVar 1) aNil)))) (sRet (eTup (aCons (eOp dDiv (eVar 0) (eVar 2)) (aCons (eOp dDiv (eVar 1) (eVar 2)) aNil))))))
def F__law_lowest : List PyData → RO PyData := runD 3 B__law_lowest
def B__law_is_ratio : S := (sSeq (sIf (tOr (tNt (tT (eIsi "tuple" (eVar 0)))) (tCm dNe (eBf cLen (aCons (eVar 0) aNil)) (eC (.int 2)))) (sRet (eC (.bool false))) sNx) (sSeq (sFor (iSeq (eVar 0)) (gN 1) (sIf (tOr (tNt (tT (eIsi "int" (eVar 1)))) (tT (eIsi "bool" (eVar 1)))) (sRet (eC (.bool false))) sNx)) (sRet (eAn (eOp dGt (eIx (eVar 0) (eC (.int 1))) (eC (.int 0))) (eOp dEq (eCall 2 F__law_common (aCons (eIx (eVar 0) (eC (.int 0))) (aCons (eIx (eVar 0) (eC (.int 1))) aNil))) (eC (.int 1)))))))
def F__law_is_ratio : List PyData → RO PyData := runD 2 B__law_is_ratio
def B__law_drawn : S := (sSeq (sIf (tCm dEq (eVar 2) (eC (.int 0))) (sRet (eTup (aCons (eC (.int 0)) (aCons (eC (.int 1)) aNil)))) sNx) (sSeq (sIf (tCm dEq (eVar 2) (eC (.int 1))) (sRet (eTup (aCons (eVar 0) (aCons (eC (.int 1)) aNil)))) sNx) (sSeq (sIf (tCm dEq (eVar 2) (eC (.int 2))) (sRet (eCall 2 F__law_lowest (aCons (eOp dSub (eOp dMod (eBf cInt (aCons (eVar 0) aNil)) (eC (.int 41))) (eC (.int 20))) (aCons (eOp dAdd (eC (.int 1)) (eOp dMod (eBf cInt (aCons (eVar 1) aNil)) (eC (.int 12)))) aNil)))) sNx) (sRet (eCall 2 F__law_lowest (aCons (eVar 0) (aCons (eOp dAdd (eC (.int 1)) (eBf cAbs (aCons (eVar 1) aNil))) aNil)))))))
def F__law_drawn : List PyData → RO PyData := runD 3 B__law_drawn
def B__law_is : S := (sSeq (sIf (tNt (tT (eCall 1 F__law_is_ratio (aCons (eVar 0) aNil)))) (sRet (eC (.bool false))) sNx) (sRet (eOp dEq (eOp dMul (eIx (eVar 0) (eC (.int 0))) (eVar 2)) (eOp dMul (eVar 1) (eIx (eVar 0) (eC (.int 1)))))))
def F__law_is : List PyData → RO PyData := runD 3 B__law_is
def mtc__law_refused (c : Str) : Option Bool := if c = "ByZero" then some true else none
def B__law_refused : S := (sSeq (sTryR 2 (sIf (tCm dEq (eVar 1) (eC (.int 0))) (sDrop (eCall 2 F_make (aCons (eVar 0) (aCons (eC (.int 0)) aNil)))) (sDrop (eCall 2 F_divide (aCons (eCall 2 F__law_lowest (aCons (eVar 0) (aCons (eC (.int 7)) aNil))) (aCons (eTup (aCons (eC (.int 0)) (aCons (eC (.int 1)) aNil))) aNil))))) mtc__law_refused (fun c fl => (eAn (fun _ => if c = "ByZero" ∧ fl = [] then .ok (.bool true) else .no) (eNt (fun _ => if c = "ByZero" ∧ fl = [] then .ok (.bool false) else .no))))) (sRet (eC (.bool false))))
def F__law_refused : List PyData → RO PyData := runD 3 B__law_refused
def B__law_pair_right : S := (sSeq (sIf (tNt (tT (eCall 3 F__law_is (aCons (eCall 2 F_add (aCons (eVar 0) (aCons (eVar 1) aNil))) (aCons (eOp dAdd (eOp dMul (eIx (eVar 0) (eC (.int 0))) (eIx (eVar 1) (eC (.int 1)))) (eOp dMul (eIx (eVar 1) (eC (.int 0))) (eIx (eVar 0) (eC (.int 1))))) (aCons (eOp dMul (eIx (eVar 0) (eC (.int 1))) (eIx (eVar 1) (eC (.int 1)))) aNil)))))) (sRet (eC (.bool false))) sNx) (sSeq (sIf (tNt (tT (eCall 3 F__law_is (aCons (eCall 2 F_subtract (aCons (eVar 0) (aCons (eVar 1) aNil))) (aCons (eOp dSub (eOp dMul (eIx (eVar 0) (eC (.int 0))) (eIx (eVar 1) (eC (.int 1)))) (eOp dMul (eIx (eVar 1) (eC (.int 0))) (eIx (eVar 0) (eC (.int 1))))) (aCons (eOp dMul (eIx (eVar 0) (eC (.int 1))) (eIx (eVar 1) (eC (.int 1)))) aNil)))))) (sRet (eC (.bool false))) sNx) (sSeq (sIf (tNt (tT (eCall 3 F__law_is (aCons (eCall 2 F_multiply (aCons (eVar 0) (aCons (eVar 1) aNil))) (aCons (eOp dMul (eIx (eVar 0) (eC (.int 0))) (eIx (eVar 1) (eC (.int 0)))) (aCons (eOp dMul (eIx (eVar 0) (eC (.int 1))) (eIx (eVar 1) (eC (.int 1)))) aNil)))))) (sRet (eC (.bool false))) sNx) (sSeq (sIf (tAn (tCm dNe (eIx (eVar 1) (eC (.int 0))) (eC (.int 0))) (tNt (tT (eCall 3 F__law_is (aCons (eCall 2 F_divide (aCons (eVar 0) (aCons (eVar 1) aNil))) (aCons (eOp dMul (eIx (eVar 0) (eC (.int 0))) (eIx (eVar 1) (eC (.int 1)))) (aCons (eOp dMul (eIx (eVar 0) (eC (.int 1))) (eIx (eVar 1) (eC (.int 0)))) aNil))))))) (sRet (eC (.bool false))) sNx) (sRet (eAn (eCall 3 F__law_is (aCons (eCall 1 F_negative (aCons (eVar 0) aNil)) (aCons (eUn dNeg (eIx (eVar 0) (eC (.int 0)))) (aCons (eIx (eVar 0) (eC (.int 1))) aNil)))) (eCall 3 F__law_is (aCons (eCall 1 F_absolute (aCons (eVar 0) aNil)) (aCons (eBf cAbs (aCons (eIx (eVar 0) (eC (.int 0))) aNil)) (aCons (eIx (eVar 0) (eC (.int 1))) aNil))))))))))
def F__law_pair_right : List PyData → RO PyData := runD 2 B__law_pair_right
def B_law : S := (sSeq (sFor (iR1 (eBf cMax (aCons (eC (.int 1)) (aCons (eBf cLen (aCons (eVar 0) aNil)) aNil)))) (gN 1) (sSeq (sSet 2 (eCall 2 F__law_cell (aCons (eVar 0) (aCons (eVar 1) aNil)))) (sSeq (sSet 3 (eCall 2 F__law_cell (aCons (eVar 0) (aCons (eOp dAdd (eVar 1) (eC (.int 1))) aNil)))) (sSeq (sSet 4 (eCall 3 F__law_drawn (aCons (eOp dDiv (eVar 2) (eC (.int 16))) (aCons (eVar 3) (aCons (eOp dMod (eBf cInt (aCons (eVar 2) aNil)) (eC (.int 4))) aNil))))) (sSeq (sSet 5 (eCall 3 F__law_drawn (aCons (eVar 3) (aCons (eVar 2) (aCons (eOp dMod (eOp dDiv (eBf cInt (aCons (eVar 2) aNil)) (eC (.int 4))) (eC (.int 4))) aNil))))) (sSeq (sIf (tOr (tNt (tT (eCall 2 F__law_pair_right (aCons (eVar 4) (aCons (eVar 5) aNil))))) (tOr (tNt (tT (eCall 2 F__law_pair_right (aCons (eVar 5) (aCons (eVar 4) aNil))))) (tNt (tT (eCall 2 F__law_pair_right (aCons (eVar 4) (aCons (eVar 4) aNil))))))) (sRet (eC (.bool false))) sNx) (sSeq (sIf (tAn (tCm dNe (eVar 3) (eC (.int 0))) (tNt (tT (eCall 3 F__law_is (aCons (eCall 2 F_make (aCons (eVar 2) (aCons (eVar 3) aNil))) (aCons (eVar 2) (aCons (eVar 3) aNil))))))) (sRet (eC (.bool false))) sNx) (sSeq (sIf (tOr (tNt (tT (eCall 3 F__law_is (aCons (eCallD 2 F_make [.int 1] (aCons (eVar 2) aNil)) (aCons (eVar 2) (aCons (eC (.int 1)) aNil)))))) (tNt (tT (eCall 3 F__law_is (aCons (eCallK F_make (aCons (eVar 2) aNil) (aCons (eUn dNeg (eC (.int 3))) aNil)) (aCons (eUn dNeg (eVar 2)) (aCons (eC (.int 3)) aNil))))))) (sRet (eC (.bool false))) sNx) (sIf (tOr (tNt (tT (eCall 3 F__law_is (aCons (eCall 1 F_of (aCons (eVar 2) aNil)) (aCons (eVar 2) (aCons (eC (.int 1)) aNil)))))) (tNt (tT (eCall 2 F__law_refused (aCons (eVar 2) (aCons (eOp dMod (eBf cInt (aCons (eVar 3) aNil)) (eC (.int 2))) aNil)))))) (sRet (eC (.bool false))) sNx))))))))) (sRet (eAn (eCall 2 F__law_refused (aCons (eC (.int 0)) (aCons (eC (.int 0)) aNil))) (eCall 2 F__law_refused (aCons (eC (.int 0)) (aCons (eC (.int 1)) aNil))))))
def F_law : List PyData → RO PyData := runD 6 B_law
end KM
set_option Elab.async false
set_option linter.all false
set_option maxRecDepth 100000
set_option maxHeartbeats 4000000
namespace KM
open PySem PySem.Spec PyProof.Rows L2 PD
/-! ### ratios -/
def rat (p q : Int) : PyData := .tuple [.int p, .int q]
/-- what stands for a over b in lowest terms -/
def Lw (a b p q : Int) : Prop := 0 < q ∧ Int.gcd p q = 1 ∧ p * b = a * q ∧ p.natAbs ≤ a.natAbs ∧ q.natAbs ≤ b.natAbs
theorem make_zero (a : Int) : F_make [.int a, .int 0] = .er "ByZero" [] := by
  unfold F_make B_make
  simp only [x_run, x_out_nx, x_out_rt, x_out_er, x_seq, x_seq_nx, x_seq_rt, x_seq_er, x_seq_ct, x_seq_bk, x_ofR_ok, x_ofR_er, x_nx, x_bk, x_ct, x_set, x_setL, x_ret, x_drop, x_retN, x_if, x_raise, x_var, x_gv0, x_gvS, x_gvo0, x_gvoS, x_gb, x_gb0, x_gbO, x_gbS, x_c, x_op, x_cm, x_un, x_bf, x_isi, x_ix, x_ixO, x_ofO_some, x_anil, x_acons, x_tup, x_lst, x_eL, x_tb, x_nt, x_an, x_or, x_ent, x_ean, x_eor, x_eif, x_tT, x_tV, x_tY, x_call, x_callD, x_callK, x_cd1, x_cd2, x_cd3, x_cd4, x_st0, x_stS, x_stN, x_wh, x_for, x_iseq, x_ir1, x_ir2, x_add, x_sub, x_neg, x_dcmp, x_eqI, x_neI, x_absI, x_intI, x_gcdI, x_maxI, x_minI, x_lenL, x_lenT, x_ixL, x_ixT, x_at0, x_at1, x_sz0, x_sz1, x_sz2, x_sz3, x_gN, x_forN, x_for0, x_fB_nx, x_fB_ct, x_fB_bk, x_fB_rt, x_fB_er, x_iTT, x_iTL, x_iTI, x_iLT, x_iLL, x_iII, x_iBI, x_iSS, x_iBB, x_truB, x_itT, x_itL, x_try, RO.bind_ok, RO.bind_er, RO.pure_ok, List.set_cons_zero, List.set_cons_succ, List.cons_append, List.nil_append, if_true, if_false, ite_true, ite_false, reduceIte, Bool.false_eq_true, Bool.true_eq_false, Bool.not_true, Bool.not_false, x_len1, and_self, decide_eq_true_eq, decide_true, decide_false, eq_self, Bool.not_eq_true', decide_eq_false_iff_not, not_true_eq_false, not_false_eq_true, ne_eq]
theorem abs_le_mul {g p : Int} (h : 0 < g) : p.natAbs ≤ (g * p).natAbs := by
  rw [Int.natAbs_mul]
  exact Nat.le_mul_of_pos_left _ (by omega)
theorem lw_of {a b g p q s : Int} (h0 : 0 < g) (hp : a = g * p) (hq : b = g * q) (hg : Int.gcd p q = 1) (hb : b ≠ 0) (hs : s = if b < 0 then -g else g) : a.fdiv s = (if b < 0 then -p else p) ∧ b.fdiv s = (if b < 0 then -q else q) ∧ Lw a b (if b < 0 then -p else p) (if b < 0 then -q else q) := by
  have e : p * (g * q) = g * p * q := by rw [Int.mul_left_comm, Int.mul_assoc]
  by_cases z : b < 0
  · rw [if_pos z] at hs
    simp only [if_pos z]
    subst hs
    refine ⟨by rw [hp, fdiv_neg_gcd h0], by rw [hq, fdiv_neg_gcd h0], ?_, by rw [Int.neg_gcd, Int.gcd_neg]; exact hg, ?_, ?_, ?_⟩
    · have : q < 0 := by
        rcases Int.lt_or_le q 0 with h | h
        · exact h
        · have := Int.mul_nonneg (Int.le_of_lt h0) h
          omega
      omega
    · rw [hp, hq, Int.neg_mul, Int.mul_neg, e]
    · rw [Int.natAbs_neg, hp]
      exact abs_le_mul h0
    · rw [Int.natAbs_neg, hq]
      exact abs_le_mul h0
  · rw [if_neg z] at hs
    simp only [if_neg z]
    subst hs
    refine ⟨by rw [hp, fdiv_gcd h0], by rw [hq, fdiv_gcd h0], ?_, hg, ?_, ?_, ?_⟩
    · rcases Int.lt_or_le 0 q with h | h
      · exact h
      · have := Int.mul_nonpos_of_nonneg_of_nonpos (Int.le_of_lt h0) h
        omega
    · rw [hp, hq, e]
    · rw [hp]
      exact abs_le_mul h0
    · rw [hq]
      exact abs_le_mul h0
theorem gcd_le_right {a b : Int} (hb : b ≠ 0) : ((Int.gcd a b : Int)).natAbs ≤ b.natAbs := by
  rw [Int.natAbs_natCast]
  exact Int.gcd_le_natAbs_right a hb
theorem make_ok {a b : Int} {n : Nat} (hb : b ≠ 0) (sb : Sm n b) (l : n < 9000 := by decide) : ∃ p q, F_make [.int a, .int b] = .ok (rat p q) ∧ Lw a b p q := by
  obtain ⟨p, q, hp, hq, hg, h0⟩ := low_facts a b hb
  have dg : divOk (Int.gcd a b : Int) = true := divOk_le sb (by omega) (gcd_le_right hb) l
  have dn : divOk (-(Int.gcd a b : Int)) = true := divOk_le sb (by omega) (by rw [Int.natAbs_neg]; exact gcd_le_right hb) l
  obtain ⟨e1, e2, e3⟩ := lw_of h0 hp hq hg hb rfl
  refine ⟨_, _, ?_, e3⟩
  unfold F_make B_make rat
  by_cases z : b < 0
  · rw [if_pos z] at e1 e2
    simp only [x_run, x_out_nx, x_out_rt, x_out_er, x_seq, x_seq_nx, x_seq_rt, x_seq_er, x_seq_ct, x_seq_bk, x_ofR_ok, x_ofR_er, x_nx, x_bk, x_ct, x_set, x_setL, x_ret, x_drop, x_retN, x_if, x_raise, x_var, x_gv0, x_gvS, x_gvo0, x_gvoS, x_gb, x_gb0, x_gbO, x_gbS, x_c, x_op, x_cm, x_un, x_bf, x_isi, x_ix, x_ixO, x_ofO_some, x_anil, x_acons, x_tup, x_lst, x_eL, x_tb, x_nt, x_an, x_or, x_ent, x_ean, x_eor, x_eif, x_tT, x_tV, x_tY, x_call, x_callD, x_callK, x_cd1, x_cd2, x_cd3, x_cd4, x_st0, x_stS, x_stN, x_wh, x_for, x_iseq, x_ir1, x_ir2, x_add, x_sub, x_neg, x_dcmp, x_eqI, x_neI, x_absI, x_intI, x_gcdI, x_maxI, x_minI, x_lenL, x_lenT, x_ixL, x_ixT, x_at0, x_at1, x_sz0, x_sz1, x_sz2, x_sz3, x_gN, x_forN, x_for0, x_fB_nx, x_fB_ct, x_fB_bk, x_fB_rt, x_fB_er, x_iTT, x_iTL, x_iTI, x_iLT, x_iLL, x_iII, x_iBI, x_iSS, x_iBB, x_truB, x_itT, x_itL, x_try, RO.bind_ok, RO.bind_er, RO.pure_ok, List.set_cons_zero, List.set_cons_succ, List.cons_append, List.nil_append, if_true, if_false, ite_true, ite_false, reduceIte, Bool.false_eq_true, Bool.true_eq_false, Bool.not_true, Bool.not_false, x_len1, and_self, decide_eq_true_eq, decide_true, decide_false, eq_self, Bool.not_eq_true', decide_eq_false_iff_not, not_true_eq_false, not_false_eq_true, ne_eq, if_pos z, hb, z, x_div dn, e1, e2]
  · rw [if_neg z] at e1 e2
    simp only [x_run, x_out_nx, x_out_rt, x_out_er, x_seq, x_seq_nx, x_seq_rt, x_seq_er, x_seq_ct, x_seq_bk, x_ofR_ok, x_ofR_er, x_nx, x_bk, x_ct, x_set, x_setL, x_ret, x_drop, x_retN, x_if, x_raise, x_var, x_gv0, x_gvS, x_gvo0, x_gvoS, x_gb, x_gb0, x_gbO, x_gbS, x_c, x_op, x_cm, x_un, x_bf, x_isi, x_ix, x_ixO, x_ofO_some, x_anil, x_acons, x_tup, x_lst, x_eL, x_tb, x_nt, x_an, x_or, x_ent, x_ean, x_eor, x_eif, x_tT, x_tV, x_tY, x_call, x_callD, x_callK, x_cd1, x_cd2, x_cd3, x_cd4, x_st0, x_stS, x_stN, x_wh, x_for, x_iseq, x_ir1, x_ir2, x_add, x_sub, x_neg, x_dcmp, x_eqI, x_neI, x_absI, x_intI, x_gcdI, x_maxI, x_minI, x_lenL, x_lenT, x_ixL, x_ixT, x_at0, x_at1, x_sz0, x_sz1, x_sz2, x_sz3, x_gN, x_forN, x_for0, x_fB_nx, x_fB_ct, x_fB_bk, x_fB_rt, x_fB_er, x_iTT, x_iTL, x_iTI, x_iLT, x_iLL, x_iII, x_iBI, x_iSS, x_iBB, x_truB, x_itT, x_itL, x_try, RO.bind_ok, RO.bind_er, RO.pure_ok, List.set_cons_zero, List.set_cons_succ, List.cons_append, List.nil_append, if_true, if_false, ite_true, ite_false, reduceIte, Bool.false_eq_true, Bool.true_eq_false, Bool.not_true, Bool.not_false, x_len1, and_self, decide_eq_true_eq, decide_true, decide_false, eq_self, Bool.not_eq_true', decide_eq_false_iff_not, not_true_eq_false, not_false_eq_true, ne_eq, if_neg z, hb, z, x_div dg, e1, e2]
/-! ### the law's own -/
abbrev cT : T := tCm dGt (eVar 1) (eC (.int 0))
abbrev cB : S := sSeq (sSet 2 (eOp dMod (eBf cInt (aCons (eVar 0) aNil)) (eVar 1))) (sSeq (sSet 0 (eVar 1)) (sSet 1 (eVar 2)))
theorem common_stop (a : Int) (r : Option SV) (m : Nat) : whileGo cT cB (m + 1) [some (.fz (.int a)), some (.fz (.int 0)), r] = .nx [some (.fz (.int a)), some (.fz (.int 0)), r] := by
  refine whileGo_stop ?_
  simp only [x_run, x_out_nx, x_out_rt, x_out_er, x_seq, x_seq_nx, x_seq_rt, x_seq_er, x_seq_ct, x_seq_bk, x_ofR_ok, x_ofR_er, x_nx, x_bk, x_ct, x_set, x_setL, x_ret, x_drop, x_retN, x_if, x_raise, x_var, x_gv0, x_gvS, x_gvo0, x_gvoS, x_gb, x_gb0, x_gbO, x_gbS, x_c, x_op, x_cm, x_un, x_bf, x_isi, x_ix, x_ixO, x_ofO_some, x_anil, x_acons, x_tup, x_lst, x_eL, x_tb, x_nt, x_an, x_or, x_ent, x_ean, x_eor, x_eif, x_tT, x_tV, x_tY, x_call, x_callD, x_callK, x_cd1, x_cd2, x_cd3, x_cd4, x_st0, x_stS, x_stN, x_wh, x_for, x_iseq, x_ir1, x_ir2, x_add, x_sub, x_neg, x_dcmp, x_eqI, x_neI, x_absI, x_intI, x_gcdI, x_maxI, x_minI, x_lenL, x_lenT, x_ixL, x_ixT, x_at0, x_at1, x_sz0, x_sz1, x_sz2, x_sz3, x_gN, x_forN, x_for0, x_fB_nx, x_fB_ct, x_fB_bk, x_fB_rt, x_fB_er, x_iTT, x_iTL, x_iTI, x_iLT, x_iLL, x_iII, x_iBI, x_iSS, x_iBB, x_truB, x_itT, x_itL, x_try, RO.bind_ok, RO.bind_er, RO.pure_ok, List.set_cons_zero, List.set_cons_succ, List.cons_append, List.nil_append, if_true, if_false, ite_true, ite_false, reduceIte, Bool.false_eq_true, Bool.true_eq_false, Bool.not_true, Bool.not_false, x_len1, and_self, decide_eq_true_eq, decide_true, decide_false, eq_self, Bool.not_eq_true', decide_eq_false_iff_not, not_true_eq_false, not_false_eq_true, ne_eq, Int.lt_irrefl]
theorem common_step {a b : Int} (r : Option SV) (m : Nat) (h : 0 < b) : whileGo cT cB (m + 1) [some (.fz (.int a)), some (.fz (.int b)), r] = whileGo cT cB m [some (.fz (.int b)), some (.fz (.int (a % b))), some (.fz (.int (a % b)))] := by
  refine whileGo_step ?_ ?_
  · simp only [x_run, x_out_nx, x_out_rt, x_out_er, x_seq, x_seq_nx, x_seq_rt, x_seq_er, x_seq_ct, x_seq_bk, x_ofR_ok, x_ofR_er, x_nx, x_bk, x_ct, x_set, x_setL, x_ret, x_drop, x_retN, x_if, x_raise, x_var, x_gv0, x_gvS, x_gvo0, x_gvoS, x_gb, x_gb0, x_gbO, x_gbS, x_c, x_op, x_cm, x_un, x_bf, x_isi, x_ix, x_ixO, x_ofO_some, x_anil, x_acons, x_tup, x_lst, x_eL, x_tb, x_nt, x_an, x_or, x_ent, x_ean, x_eor, x_eif, x_tT, x_tV, x_tY, x_call, x_callD, x_callK, x_cd1, x_cd2, x_cd3, x_cd4, x_st0, x_stS, x_stN, x_wh, x_for, x_iseq, x_ir1, x_ir2, x_add, x_sub, x_neg, x_dcmp, x_eqI, x_neI, x_absI, x_intI, x_gcdI, x_maxI, x_minI, x_lenL, x_lenT, x_ixL, x_ixT, x_at0, x_at1, x_sz0, x_sz1, x_sz2, x_sz3, x_gN, x_forN, x_for0, x_fB_nx, x_fB_ct, x_fB_bk, x_fB_rt, x_fB_er, x_iTT, x_iTL, x_iTI, x_iLT, x_iLL, x_iII, x_iBI, x_iSS, x_iBB, x_truB, x_itT, x_itL, x_try, RO.bind_ok, RO.bind_er, RO.pure_ok, List.set_cons_zero, List.set_cons_succ, List.cons_append, List.nil_append, if_true, if_false, ite_true, ite_false, reduceIte, Bool.false_eq_true, Bool.true_eq_false, Bool.not_true, Bool.not_false, x_len1, and_self, decide_eq_true_eq, decide_true, decide_false, eq_self, Bool.not_eq_true', decide_eq_false_iff_not, not_true_eq_false, not_false_eq_true, ne_eq, h]
  · simp only [x_run, x_out_nx, x_out_rt, x_out_er, x_seq, x_seq_nx, x_seq_rt, x_seq_er, x_seq_ct, x_seq_bk, x_ofR_ok, x_ofR_er, x_nx, x_bk, x_ct, x_set, x_setL, x_ret, x_drop, x_retN, x_if, x_raise, x_var, x_gv0, x_gvS, x_gvo0, x_gvoS, x_gb, x_gb0, x_gbO, x_gbS, x_c, x_op, x_cm, x_un, x_bf, x_isi, x_ix, x_ixO, x_ofO_some, x_anil, x_acons, x_tup, x_lst, x_eL, x_tb, x_nt, x_an, x_or, x_ent, x_ean, x_eor, x_eif, x_tT, x_tV, x_tY, x_call, x_callD, x_callK, x_cd1, x_cd2, x_cd3, x_cd4, x_st0, x_stS, x_stN, x_wh, x_for, x_iseq, x_ir1, x_ir2, x_add, x_sub, x_neg, x_dcmp, x_eqI, x_neI, x_absI, x_intI, x_gcdI, x_maxI, x_minI, x_lenL, x_lenT, x_ixL, x_ixT, x_at0, x_at1, x_sz0, x_sz1, x_sz2, x_sz3, x_gN, x_forN, x_for0, x_fB_nx, x_fB_ct, x_fB_bk, x_fB_rt, x_fB_er, x_iTT, x_iTL, x_iTI, x_iLT, x_iLL, x_iII, x_iBI, x_iSS, x_iBB, x_truB, x_itT, x_itL, x_try, RO.bind_ok, RO.bind_er, RO.pure_ok, List.set_cons_zero, List.set_cons_succ, List.cons_append, List.nil_append, if_true, if_false, ite_true, ite_false, reduceIte, Bool.false_eq_true, Bool.true_eq_false, Bool.not_true, Bool.not_false, x_len1, and_self, decide_eq_true_eq, decide_true, decide_false, eq_self, Bool.not_eq_true', decide_eq_false_iff_not, not_true_eq_false, not_false_eq_true, ne_eq, x_mod h]
theorem gcd_step {a b : Int} (ha : 0 ≤ a) (h : 0 < b) : Int.gcd b (a % b) = Int.gcd a b := by
  obtain ⟨x, rfl⟩ := Int.eq_ofNat_of_zero_le ha
  obtain ⟨y, rfl⟩ := Int.eq_ofNat_of_zero_le (Int.le_of_lt h)
  show Nat.gcd y (x % y) = Nat.gcd x y
  rw [Nat.gcd_comm y, ← Nat.gcd_rec, Nat.gcd_comm]
theorem common_loop : ∀ (n : Nat) (a b : Int) (r : Option SV) (m : Nat), 0 ≤ b → b ≤ a → (a * b).natAbs < 2 ^ n → n < m → ∃ r', whileGo cT cB m [some (.fz (.int a)), some (.fz (.int b)), r] = .nx [some (.fz (.int (Int.gcd a b))), some (.fz (.int 0)), r']
  | n, a, b, r, 0, _, _, _, hm => absurd hm (by omega)
  | n, a, b, r, m + 1, h0, h1, h2, hm => by
    by_cases z : b = 0
    · subst z
      refine ⟨r, ?_⟩
      rw [common_stop, Int.gcd_zero_right, Int.natAbs_of_nonneg h1]
    · have hb : 0 < b := by omega
      have hr0 : 0 ≤ a % b := Int.emod_nonneg a z
      have hr1 : a % b < b := Int.emod_lt_of_pos a hb
      have hd := Int.mul_ediv_add_emod a b
      have hq : 1 ≤ a / b := by
        rw [Int.le_ediv_iff_mul_le hb]
        omega
      have hq2 : b ≤ b * (a / b) := by
        have := Int.mul_le_mul_of_nonneg_left hq h0
        omega
      have hh : 2 * (a % b) ≤ a := by omega
      have key : 2 * (b * (a % b)) ≤ a * b := by
        have := Int.mul_le_mul_of_nonneg_left hh h0
        rw [Int.mul_left_comm, Int.mul_comm a b]
        exact this
      have np : 0 ≤ b * (a % b) := Int.mul_nonneg h0 hr0
      match n, h2, hm with
      | 0, h2, _ =>
        exfalso
        have : a * b = 0 := by omega
        rcases Int.mul_eq_zero.mp this with h | h <;> omega
      | n + 1, h2, hm =>
        rw [common_step r m hb]
        obtain ⟨r', e⟩ := common_loop n b (a % b) (some (.fz (.int (a % b)))) m hr0 (by omega) (by rw [Nat.pow_succ] at h2; omega) (by omega)
        exact ⟨r', by rw [e, gcd_step (by omega) hb]⟩
theorem abs_eq (i : Int) : (if i < 0 then -i else i) = i.natAbs := by
  split <;> omega
theorem common_ok {a b : Int} {n : Nat} (ha : Sm n a) (hb : Sm n b) (hn : n < 400000 := by decide) : F__law_common [.int a, .int b] = .ok (.int (Int.gcd a b)) := by
  have key : ∃ r', whileGo cT cB WH [some (.fz (.int a.natAbs)), some (.fz (.int b.natAbs)), none] = .nx [some (.fz (.int (Int.gcd a b))), some (.fz (.int 0)), r'] := by
    have hab : ((b.natAbs : Int) * (a.natAbs : Int)).natAbs < 2 ^ (n + n) := by
      have := Sm.mul hb ha
      unfold Sm at this
      rw [Int.natAbs_mul] at this
      rw [Int.natAbs_mul, Int.natAbs_natCast, Int.natAbs_natCast]
      exact this
    have eg : Int.gcd (a.natAbs : Int) (b.natAbs : Int) = Int.gcd a b := by
      unfold Int.gcd
      rw [Int.natAbs_natCast, Int.natAbs_natCast]
    rcases Int.le_total (b.natAbs : Int) (a.natAbs : Int) with h | h
    · obtain ⟨r', e⟩ := common_loop (n + n) a.natAbs b.natAbs none WH (by omega) h (by rw [Int.mul_comm]; exact hab) (by unfold WH; omega)
      exact ⟨r', by rw [e, eg]⟩
    · by_cases z : b = 0
      · subst z
        obtain ⟨r', e⟩ := common_loop (n + n) a.natAbs 0 none WH (by omega) (by omega) (by rw [Int.mul_zero]; exact Nat.two_pow_pos _) (by unfold WH; omega)
        exact ⟨r', by rw [← eg]; exact e⟩
      · have hb0 : 0 < (b.natAbs : Int) := by omega
        have e1 : WH = 999999 + 1 := rfl
        rw [e1, common_step none 999999 hb0]
        by_cases zz : (a.natAbs : Int) = b.natAbs
        · rw [zz, Int.emod_self]
          refine ⟨some (.fz (.int 0)), ?_⟩
          have e2 : (999999 : Nat) = 999998 + 1 := rfl
          rw [e2, common_stop, ← eg, zz, Int.gcd_self, Int.natAbs_natCast]
        · rw [Int.emod_eq_of_lt (by omega) (by omega)]
          obtain ⟨r', e⟩ := common_loop (n + n) b.natAbs a.natAbs (some (.fz (.int a.natAbs))) 999999 (by omega) (by omega) hab (by omega)
          exact ⟨r', by rw [e, Int.gcd_comm, eg]⟩
  obtain ⟨r', key⟩ := key
  unfold F__law_common B__law_common
  simp only [x_run, x_out_nx, x_out_rt, x_out_er, x_seq, x_seq_nx, x_seq_rt, x_seq_er, x_seq_ct, x_seq_bk, x_ofR_ok, x_ofR_er, x_nx, x_bk, x_ct, x_set, x_setL, x_ret, x_drop, x_retN, x_if, x_raise, x_var, x_gv0, x_gvS, x_gvo0, x_gvoS, x_gb, x_gb0, x_gbO, x_gbS, x_c, x_op, x_cm, x_un, x_bf, x_isi, x_ix, x_ixO, x_ofO_some, x_anil, x_acons, x_tup, x_lst, x_eL, x_tb, x_nt, x_an, x_or, x_ent, x_ean, x_eor, x_eif, x_tT, x_tV, x_tY, x_call, x_callD, x_callK, x_cd1, x_cd2, x_cd3, x_cd4, x_st0, x_stS, x_stN, x_wh, x_for, x_iseq, x_ir1, x_ir2, x_add, x_sub, x_neg, x_dcmp, x_eqI, x_neI, x_absI, x_intI, x_gcdI, x_maxI, x_minI, x_lenL, x_lenT, x_ixL, x_ixT, x_at0, x_at1, x_sz0, x_sz1, x_sz2, x_sz3, x_gN, x_forN, x_for0, x_fB_nx, x_fB_ct, x_fB_bk, x_fB_rt, x_fB_er, x_iTT, x_iTL, x_iTI, x_iLT, x_iLL, x_iII, x_iBI, x_iSS, x_iBB, x_truB, x_itT, x_itL, x_try, RO.bind_ok, RO.bind_er, RO.pure_ok, List.set_cons_zero, List.set_cons_succ, List.cons_append, List.nil_append, if_true, if_false, ite_true, ite_false, reduceIte, Bool.false_eq_true, Bool.true_eq_false, Bool.not_true, Bool.not_false, x_len1, and_self, decide_eq_true_eq, decide_true, decide_false, eq_self, Bool.not_eq_true', decide_eq_false_iff_not, not_true_eq_false, not_false_eq_true, ne_eq, abs_eq, key]
theorem lowest_ok {a b : Int} {n : Nat} (hb : 0 < b) (sa : Sm n a) (sb : Sm n b) (l : n < 9000 := by decide) : ∃ p q, F__law_lowest [.int a, .int b] = .ok (rat p q) ∧ Lw a b p q := by
  have hb0 : b ≠ 0 := by omega
  have nb : ¬ b < 0 := by omega
  obtain ⟨p, q, hp, hq, hg, h0⟩ := low_facts a b hb0
  have dg : divOk (Int.gcd a b : Int) = true := divOk_le sb (by omega) (gcd_le_right hb0) l
  obtain ⟨e1, e2, e3⟩ := lw_of h0 hp hq hg hb0 rfl
  simp only [if_neg nb] at e1 e2 e3
  refine ⟨p, q, ?_, e3⟩
  unfold F__law_lowest B__law_lowest rat
  simp only [x_run, x_out_nx, x_out_rt, x_out_er, x_seq, x_seq_nx, x_seq_rt, x_seq_er, x_seq_ct, x_seq_bk, x_ofR_ok, x_ofR_er, x_nx, x_bk, x_ct, x_set, x_setL, x_ret, x_drop, x_retN, x_if, x_raise, x_var, x_gv0, x_gvS, x_gvo0, x_gvoS, x_gb, x_gb0, x_gbO, x_gbS, x_c, x_op, x_cm, x_un, x_bf, x_isi, x_ix, x_ixO, x_ofO_some, x_anil, x_acons, x_tup, x_lst, x_eL, x_tb, x_nt, x_an, x_or, x_ent, x_ean, x_eor, x_eif, x_tT, x_tV, x_tY, x_call, x_callD, x_callK, x_cd1, x_cd2, x_cd3, x_cd4, x_st0, x_stS, x_stN, x_wh, x_for, x_iseq, x_ir1, x_ir2, x_add, x_sub, x_neg, x_dcmp, x_eqI, x_neI, x_absI, x_intI, x_gcdI, x_maxI, x_minI, x_lenL, x_lenT, x_ixL, x_ixT, x_at0, x_at1, x_sz0, x_sz1, x_sz2, x_sz3, x_gN, x_forN, x_for0, x_fB_nx, x_fB_ct, x_fB_bk, x_fB_rt, x_fB_er, x_iTT, x_iTL, x_iTI, x_iLT, x_iLL, x_iII, x_iBI, x_iSS, x_iBB, x_truB, x_itT, x_itL, x_try, RO.bind_ok, RO.bind_er, RO.pure_ok, List.set_cons_zero, List.set_cons_succ, List.cons_append, List.nil_append, if_true, if_false, ite_true, ite_false, reduceIte, Bool.false_eq_true, Bool.true_eq_false, Bool.not_true, Bool.not_false, x_len1, and_self, decide_eq_true_eq, decide_true, decide_false, eq_self, Bool.not_eq_true', decide_eq_false_iff_not, not_true_eq_false, not_false_eq_true, ne_eq, nb, common_ok sa sb (by omega), x_div dg, e1, e2]
/-- a ratio of that size -/
def Rt (n : Nat) (p q : Int) : Prop := 0 < q ∧ Int.gcd p q = 1 ∧ Sm n p ∧ Sm n q
theorem Lw.rt {n : Nat} {a b p q : Int} (h : Lw a b p q) (sa : Sm n a) (sb : Sm n b) : Rt n p q := ⟨h.1, h.2.1, sa.le h.2.2.2.1, sb.le h.2.2.2.2⟩
theorem isRatio_ok {p q : Int} {n : Nat} (h : Rt n p q) (l : n < 400000 := by decide) : F__law_is_ratio [rat p q] = .ok (.bool true) := by
  obtain ⟨h1, h2, h3, h4⟩ := h
  unfold F__law_is_ratio B__law_is_ratio rat
  have e2 : ([PyData.int p, PyData.int q].length : Int) = 2 := rfl
  have e3 : ((1 : Nat) : Int) = 1 := rfl
  simp only [x_run, x_out_nx, x_out_rt, x_out_er, x_seq, x_seq_nx, x_seq_rt, x_seq_er, x_seq_ct, x_seq_bk, x_ofR_ok, x_ofR_er, x_nx, x_bk, x_ct, x_set, x_setL, x_ret, x_drop, x_retN, x_if, x_raise, x_var, x_gv0, x_gvS, x_gvo0, x_gvoS, x_gb, x_gb0, x_gbO, x_gbS, x_c, x_op, x_cm, x_un, x_bf, x_isi, x_ix, x_ixO, x_ofO_some, x_anil, x_acons, x_tup, x_lst, x_eL, x_tb, x_nt, x_an, x_or, x_ent, x_ean, x_eor, x_eif, x_tT, x_tV, x_tY, x_call, x_callD, x_callK, x_cd1, x_cd2, x_cd3, x_cd4, x_st0, x_stS, x_stN, x_wh, x_for, x_iseq, x_ir1, x_ir2, x_add, x_sub, x_neg, x_dcmp, x_eqI, x_neI, x_absI, x_intI, x_gcdI, x_maxI, x_minI, x_lenL, x_lenT, x_ixL, x_ixT, x_at0, x_at1, x_sz0, x_sz1, x_sz2, x_sz3, x_gN, x_forN, x_for0, x_fB_nx, x_fB_ct, x_fB_bk, x_fB_rt, x_fB_er, x_iTT, x_iTL, x_iTI, x_iLT, x_iLL, x_iII, x_iBI, x_iSS, x_iBB, x_truB, x_itT, x_itL, x_try, RO.bind_ok, RO.bind_er, RO.pure_ok, List.set_cons_zero, List.set_cons_succ, List.cons_append, List.nil_append, if_true, if_false, ite_true, ite_false, reduceIte, Bool.false_eq_true, Bool.true_eq_false, Bool.not_true, Bool.not_false, x_len1, and_self, decide_eq_true_eq, decide_true, decide_false, eq_self, Bool.not_eq_true', decide_eq_false_iff_not, not_true_eq_false, not_false_eq_true, ne_eq, e2, common_ok h3 h4 l, h2, h1, e3]
theorem is_ok {p q a b : Int} {n : Nat} (h : Rt n p q) (sa : Sm n a) (sb : Sm n b) (e : p * b = a * q) (l : n < 400000 := by decide) : F__law_is [rat p q, .int a, .int b] = .ok (.bool true) := by
  unfold F__law_is B__law_is
  simp only [x_run, x_out_nx, x_out_rt, x_out_er, x_seq, x_seq_nx, x_seq_rt, x_seq_er, x_seq_ct, x_seq_bk, x_ofR_ok, x_ofR_er, x_nx, x_bk, x_ct, x_set, x_setL, x_ret, x_drop, x_retN, x_if, x_raise, x_var, x_gv0, x_gvS, x_gvo0, x_gvoS, x_gb, x_gb0, x_gbO, x_gbS, x_c, x_op, x_cm, x_un, x_bf, x_isi, x_ix, x_ixO, x_ofO_some, x_anil, x_acons, x_tup, x_lst, x_eL, x_tb, x_nt, x_an, x_or, x_ent, x_ean, x_eor, x_eif, x_tT, x_tV, x_tY, x_call, x_callD, x_callK, x_cd1, x_cd2, x_cd3, x_cd4, x_st0, x_stS, x_stN, x_wh, x_for, x_iseq, x_ir1, x_ir2, x_add, x_sub, x_neg, x_dcmp, x_eqI, x_neI, x_absI, x_intI, x_gcdI, x_maxI, x_minI, x_lenL, x_lenT, x_ixL, x_ixT, x_at0, x_at1, x_sz0, x_sz1, x_sz2, x_sz3, x_gN, x_forN, x_for0, x_fB_nx, x_fB_ct, x_fB_bk, x_fB_rt, x_fB_er, x_iTT, x_iTL, x_iTI, x_iLT, x_iLL, x_iII, x_iBI, x_iSS, x_iBB, x_truB, x_itT, x_itL, x_try, RO.bind_ok, RO.bind_er, RO.pure_ok, List.set_cons_zero, List.set_cons_succ, List.cons_append, List.nil_append, if_true, if_false, ite_true, ite_false, reduceIte, Bool.false_eq_true, Bool.true_eq_false, Bool.not_true, Bool.not_false, x_len1, and_self, decide_eq_true_eq, decide_true, decide_false, eq_self, Bool.not_eq_true', decide_eq_false_iff_not, not_true_eq_false, not_false_eq_true, ne_eq, isRatio_ok h l]
  unfold rat
  simp only [x_run, x_out_nx, x_out_rt, x_out_er, x_seq, x_seq_nx, x_seq_rt, x_seq_er, x_seq_ct, x_seq_bk, x_ofR_ok, x_ofR_er, x_nx, x_bk, x_ct, x_set, x_setL, x_ret, x_drop, x_retN, x_if, x_raise, x_var, x_gv0, x_gvS, x_gvo0, x_gvoS, x_gb, x_gb0, x_gbO, x_gbS, x_c, x_op, x_cm, x_un, x_bf, x_isi, x_ix, x_ixO, x_ofO_some, x_anil, x_acons, x_tup, x_lst, x_eL, x_tb, x_nt, x_an, x_or, x_ent, x_ean, x_eor, x_eif, x_tT, x_tV, x_tY, x_call, x_callD, x_callK, x_cd1, x_cd2, x_cd3, x_cd4, x_st0, x_stS, x_stN, x_wh, x_for, x_iseq, x_ir1, x_ir2, x_add, x_sub, x_neg, x_dcmp, x_eqI, x_neI, x_absI, x_intI, x_gcdI, x_maxI, x_minI, x_lenL, x_lenT, x_ixL, x_ixT, x_at0, x_at1, x_sz0, x_sz1, x_sz2, x_sz3, x_gN, x_forN, x_for0, x_fB_nx, x_fB_ct, x_fB_bk, x_fB_rt, x_fB_er, x_iTT, x_iTL, x_iTI, x_iLT, x_iLL, x_iII, x_iBI, x_iSS, x_iBB, x_truB, x_itT, x_itL, x_try, RO.bind_ok, RO.bind_er, RO.pure_ok, List.set_cons_zero, List.set_cons_succ, List.cons_append, List.nil_append, if_true, if_false, ite_true, ite_false, reduceIte, Bool.false_eq_true, Bool.true_eq_false, Bool.not_true, Bool.not_false, x_len1, and_self, decide_eq_true_eq, decide_true, decide_false, eq_self, Bool.not_eq_true', decide_eq_false_iff_not, not_true_eq_false, not_false_eq_true, ne_eq, x_mul (mulOk_sm h.2.2.1 sb (by omega)), x_mul (mulOk_sm sa h.2.2.2 (by omega)), e]
theorem sm_small {i : Int} {n : Nat} (h : i.natAbs < 64) (l : 6 ≤ n) : Sm n i := Nat.lt_of_lt_of_le h (Nat.pow_le_pow_right (by decide) l : 2 ^ 6 ≤ 2 ^ n)
theorem drawn_ok {a b c : Int} (sa : Sm 213 a) (sb : Sm 213 b) : ∃ p q, F__law_drawn [.int a, .int b, .int c] = .ok (rat p q) ∧ Rt 214 p q := by
  have s1 : Sm 214 1 := sm_small (by decide) (by decide)
  by_cases c0 : c = 0
  · refine ⟨0, 1, ?_, ⟨by decide, by decide, sm_small (by decide) (by decide), s1⟩⟩
    unfold F__law_drawn B__law_drawn rat
    simp only [x_run, x_out_nx, x_out_rt, x_out_er, x_seq, x_seq_nx, x_seq_rt, x_seq_er, x_seq_ct, x_seq_bk, x_ofR_ok, x_ofR_er, x_nx, x_bk, x_ct, x_set, x_setL, x_ret, x_drop, x_retN, x_if, x_raise, x_var, x_gv0, x_gvS, x_gvo0, x_gvoS, x_gb, x_gb0, x_gbO, x_gbS, x_c, x_op, x_cm, x_un, x_bf, x_isi, x_ix, x_ixO, x_ofO_some, x_anil, x_acons, x_tup, x_lst, x_eL, x_tb, x_nt, x_an, x_or, x_ent, x_ean, x_eor, x_eif, x_tT, x_tV, x_tY, x_call, x_callD, x_callK, x_cd1, x_cd2, x_cd3, x_cd4, x_st0, x_stS, x_stN, x_wh, x_for, x_iseq, x_ir1, x_ir2, x_add, x_sub, x_neg, x_dcmp, x_eqI, x_neI, x_absI, x_intI, x_gcdI, x_maxI, x_minI, x_lenL, x_lenT, x_ixL, x_ixT, x_at0, x_at1, x_sz0, x_sz1, x_sz2, x_sz3, x_gN, x_forN, x_for0, x_fB_nx, x_fB_ct, x_fB_bk, x_fB_rt, x_fB_er, x_iTT, x_iTL, x_iTI, x_iLT, x_iLL, x_iII, x_iBI, x_iSS, x_iBB, x_truB, x_itT, x_itL, x_try, RO.bind_ok, RO.bind_er, RO.pure_ok, List.set_cons_zero, List.set_cons_succ, List.cons_append, List.nil_append, if_true, if_false, ite_true, ite_false, reduceIte, Bool.false_eq_true, Bool.true_eq_false, Bool.not_true, Bool.not_false, x_len1, and_self, decide_eq_true_eq, decide_true, decide_false, eq_self, Bool.not_eq_true', decide_eq_false_iff_not, not_true_eq_false, not_false_eq_true, ne_eq, c0]
  by_cases c1 : c = 1
  · refine ⟨a, 1, ?_, ⟨by decide, Int.gcd_one_right .., sa.mono (by decide), s1⟩⟩
    unfold F__law_drawn B__law_drawn rat
    simp only [x_run, x_out_nx, x_out_rt, x_out_er, x_seq, x_seq_nx, x_seq_rt, x_seq_er, x_seq_ct, x_seq_bk, x_ofR_ok, x_ofR_er, x_nx, x_bk, x_ct, x_set, x_setL, x_ret, x_drop, x_retN, x_if, x_raise, x_var, x_gv0, x_gvS, x_gvo0, x_gvoS, x_gb, x_gb0, x_gbO, x_gbS, x_c, x_op, x_cm, x_un, x_bf, x_isi, x_ix, x_ixO, x_ofO_some, x_anil, x_acons, x_tup, x_lst, x_eL, x_tb, x_nt, x_an, x_or, x_ent, x_ean, x_eor, x_eif, x_tT, x_tV, x_tY, x_call, x_callD, x_callK, x_cd1, x_cd2, x_cd3, x_cd4, x_st0, x_stS, x_stN, x_wh, x_for, x_iseq, x_ir1, x_ir2, x_add, x_sub, x_neg, x_dcmp, x_eqI, x_neI, x_absI, x_intI, x_gcdI, x_maxI, x_minI, x_lenL, x_lenT, x_ixL, x_ixT, x_at0, x_at1, x_sz0, x_sz1, x_sz2, x_sz3, x_gN, x_forN, x_for0, x_fB_nx, x_fB_ct, x_fB_bk, x_fB_rt, x_fB_er, x_iTT, x_iTL, x_iTI, x_iLT, x_iLL, x_iII, x_iBI, x_iSS, x_iBB, x_truB, x_itT, x_itL, x_try, RO.bind_ok, RO.bind_er, RO.pure_ok, List.set_cons_zero, List.set_cons_succ, List.cons_append, List.nil_append, if_true, if_false, ite_true, ite_false, reduceIte, Bool.false_eq_true, Bool.true_eq_false, Bool.not_true, Bool.not_false, x_len1, and_self, decide_eq_true_eq, decide_true, decide_false, eq_self, Bool.not_eq_true', decide_eq_false_iff_not, not_true_eq_false, not_false_eq_true, ne_eq, c0, c1]
    simp only [x_run, x_out_nx, x_out_rt, x_out_er, x_seq, x_seq_nx, x_seq_rt, x_seq_er, x_seq_ct, x_seq_bk, x_ofR_ok, x_ofR_er, x_nx, x_bk, x_ct, x_set, x_setL, x_ret, x_drop, x_retN, x_if, x_raise, x_var, x_gv0, x_gvS, x_gvo0, x_gvoS, x_gb, x_gb0, x_gbO, x_gbS, x_c, x_op, x_cm, x_un, x_bf, x_isi, x_ix, x_ixO, x_ofO_some, x_anil, x_acons, x_tup, x_lst, x_eL, x_tb, x_nt, x_an, x_or, x_ent, x_ean, x_eor, x_eif, x_tT, x_tV, x_tY, x_call, x_callD, x_callK, x_cd1, x_cd2, x_cd3, x_cd4, x_st0, x_stS, x_stN, x_wh, x_for, x_iseq, x_ir1, x_ir2, x_add, x_sub, x_neg, x_dcmp, x_eqI, x_neI, x_absI, x_intI, x_gcdI, x_maxI, x_minI, x_lenL, x_lenT, x_ixL, x_ixT, x_at0, x_at1, x_sz0, x_sz1, x_sz2, x_sz3, x_gN, x_forN, x_for0, x_fB_nx, x_fB_ct, x_fB_bk, x_fB_rt, x_fB_er, x_iTT, x_iTL, x_iTI, x_iLT, x_iLL, x_iII, x_iBI, x_iSS, x_iBB, x_truB, x_itT, x_itL, x_try, RO.bind_ok, RO.bind_er, RO.pure_ok, List.set_cons_zero, List.set_cons_succ, List.cons_append, List.nil_append, if_true, if_false, ite_true, ite_false, reduceIte, Bool.false_eq_true, Bool.true_eq_false, Bool.not_true, Bool.not_false, x_len1, and_self, decide_eq_true_eq, decide_true, decide_false, eq_self, Bool.not_eq_true', decide_eq_false_iff_not, not_true_eq_false, not_false_eq_true, ne_eq, (by decide : ¬ (1 : Int) = 0)]
  by_cases c2 : c = 2
  · have t1 : Sm 214 (a % 41 - 20) := sm_small (by omega) (by decide)
    have t2 : Sm 214 (1 + b % 12) := sm_small (by omega) (by decide)
    obtain ⟨p, q, e, h⟩ := lowest_ok (a := a % 41 - 20) (b := 1 + b % 12) (by omega) t1 t2
    refine ⟨p, q, ?_, h.rt t1 t2⟩
    unfold F__law_drawn B__law_drawn
    subst c2
    simp only [x_run, x_out_nx, x_out_rt, x_out_er, x_seq, x_seq_nx, x_seq_rt, x_seq_er, x_seq_ct, x_seq_bk, x_ofR_ok, x_ofR_er, x_nx, x_bk, x_ct, x_set, x_setL, x_ret, x_drop, x_retN, x_if, x_raise, x_var, x_gv0, x_gvS, x_gvo0, x_gvoS, x_gb, x_gb0, x_gbO, x_gbS, x_c, x_op, x_cm, x_un, x_bf, x_isi, x_ix, x_ixO, x_ofO_some, x_anil, x_acons, x_tup, x_lst, x_eL, x_tb, x_nt, x_an, x_or, x_ent, x_ean, x_eor, x_eif, x_tT, x_tV, x_tY, x_call, x_callD, x_callK, x_cd1, x_cd2, x_cd3, x_cd4, x_st0, x_stS, x_stN, x_wh, x_for, x_iseq, x_ir1, x_ir2, x_add, x_sub, x_neg, x_dcmp, x_eqI, x_neI, x_absI, x_intI, x_gcdI, x_maxI, x_minI, x_lenL, x_lenT, x_ixL, x_ixT, x_at0, x_at1, x_sz0, x_sz1, x_sz2, x_sz3, x_gN, x_forN, x_for0, x_fB_nx, x_fB_ct, x_fB_bk, x_fB_rt, x_fB_er, x_iTT, x_iTL, x_iTI, x_iLT, x_iLL, x_iII, x_iBI, x_iSS, x_iBB, x_truB, x_itT, x_itL, x_try, RO.bind_ok, RO.bind_er, RO.pure_ok, List.set_cons_zero, List.set_cons_succ, List.cons_append, List.nil_append, if_true, if_false, ite_true, ite_false, reduceIte, Bool.false_eq_true, Bool.true_eq_false, Bool.not_true, Bool.not_false, x_len1, and_self, decide_eq_true_eq, decide_true, decide_false, eq_self, Bool.not_eq_true', decide_eq_false_iff_not, not_true_eq_false, not_false_eq_true, ne_eq, (by decide : ¬ (2 : Int) = 0), (by decide : ¬ (2 : Int) = 1), x_mod (by decide : (0 : Int) < 41), x_mod (by decide : (0 : Int) < 12), e]
  · have t2 : Sm 214 (1 + (if b < 0 then -b else b)) := Sm.add (n := 213) (sm_small (by decide) (by decide)) sb.abs
    obtain ⟨p, q, e, h⟩ := lowest_ok (a := a) (b := 1 + (if b < 0 then -b else b)) (by split <;> omega) (sa.mono (by decide)) t2
    refine ⟨p, q, ?_, h.rt (sa.mono (by decide)) t2⟩
    unfold F__law_drawn B__law_drawn
    simp only [x_run, x_out_nx, x_out_rt, x_out_er, x_seq, x_seq_nx, x_seq_rt, x_seq_er, x_seq_ct, x_seq_bk, x_ofR_ok, x_ofR_er, x_nx, x_bk, x_ct, x_set, x_setL, x_ret, x_drop, x_retN, x_if, x_raise, x_var, x_gv0, x_gvS, x_gvo0, x_gvoS, x_gb, x_gb0, x_gbO, x_gbS, x_c, x_op, x_cm, x_un, x_bf, x_isi, x_ix, x_ixO, x_ofO_some, x_anil, x_acons, x_tup, x_lst, x_eL, x_tb, x_nt, x_an, x_or, x_ent, x_ean, x_eor, x_eif, x_tT, x_tV, x_tY, x_call, x_callD, x_callK, x_cd1, x_cd2, x_cd3, x_cd4, x_st0, x_stS, x_stN, x_wh, x_for, x_iseq, x_ir1, x_ir2, x_add, x_sub, x_neg, x_dcmp, x_eqI, x_neI, x_absI, x_intI, x_gcdI, x_maxI, x_minI, x_lenL, x_lenT, x_ixL, x_ixT, x_at0, x_at1, x_sz0, x_sz1, x_sz2, x_sz3, x_gN, x_forN, x_for0, x_fB_nx, x_fB_ct, x_fB_bk, x_fB_rt, x_fB_er, x_iTT, x_iTL, x_iTI, x_iLT, x_iLL, x_iII, x_iBI, x_iSS, x_iBB, x_truB, x_itT, x_itL, x_try, RO.bind_ok, RO.bind_er, RO.pure_ok, List.set_cons_zero, List.set_cons_succ, List.cons_append, List.nil_append, if_true, if_false, ite_true, ite_false, reduceIte, Bool.false_eq_true, Bool.true_eq_false, Bool.not_true, Bool.not_false, x_len1, and_self, decide_eq_true_eq, decide_true, decide_false, eq_self, Bool.not_eq_true', decide_eq_false_iff_not, not_true_eq_false, not_false_eq_true, ne_eq, c0, c1, c2, e]
theorem add_eq {a b c d : Int} {n : Nat} (h1 : Rt n a b) (h2 : Rt n c d) (l : n < 1000) : F_add [rat a b, rat c d] = F_make [.int (a * d + c * b), .int (b * d)] := by
  unfold F_add B_add rat
  simp only [x_run, x_out_nx, x_out_rt, x_out_er, x_seq, x_seq_nx, x_seq_rt, x_seq_er, x_seq_ct, x_seq_bk, x_ofR_ok, x_ofR_er, x_nx, x_bk, x_ct, x_set, x_setL, x_ret, x_drop, x_retN, x_if, x_raise, x_var, x_gv0, x_gvS, x_gvo0, x_gvoS, x_gb, x_gb0, x_gbO, x_gbS, x_c, x_op, x_cm, x_un, x_bf, x_isi, x_ix, x_ixO, x_ofO_some, x_anil, x_acons, x_tup, x_lst, x_eL, x_tb, x_nt, x_an, x_or, x_ent, x_ean, x_eor, x_eif, x_tT, x_tV, x_tY, x_call, x_callD, x_callK, x_cd1, x_cd2, x_cd3, x_cd4, x_st0, x_stS, x_stN, x_wh, x_for, x_iseq, x_ir1, x_ir2, x_add, x_sub, x_neg, x_dcmp, x_eqI, x_neI, x_absI, x_intI, x_gcdI, x_maxI, x_minI, x_lenL, x_lenT, x_ixL, x_ixT, x_at0, x_at1, x_sz0, x_sz1, x_sz2, x_sz3, x_gN, x_forN, x_for0, x_fB_nx, x_fB_ct, x_fB_bk, x_fB_rt, x_fB_er, x_iTT, x_iTL, x_iTI, x_iLT, x_iLL, x_iII, x_iBI, x_iSS, x_iBB, x_truB, x_itT, x_itL, x_try, RO.bind_ok, RO.bind_er, RO.pure_ok, List.set_cons_zero, List.set_cons_succ, List.cons_append, List.nil_append, if_true, if_false, ite_true, ite_false, reduceIte, Bool.false_eq_true, Bool.true_eq_false, Bool.not_true, Bool.not_false, x_len1, and_self, decide_eq_true_eq, decide_true, decide_false, eq_self, Bool.not_eq_true', decide_eq_false_iff_not, not_true_eq_false, not_false_eq_true, ne_eq, x_mul (mulOk_sm h1.2.2.1 h2.2.2.2 (by omega)), x_mul (mulOk_sm h2.2.2.1 h1.2.2.2 (by omega)), x_mul (mulOk_sm h1.2.2.2 h2.2.2.2 (by omega))]
  cases F_make [.int (a * d + c * b), .int (b * d)] <;> rfl
theorem sub_eq {a b c d : Int} {n : Nat} (h1 : Rt n a b) (h2 : Rt n c d) (l : n < 1000) : F_subtract [rat a b, rat c d] = F_make [.int (a * d - c * b), .int (b * d)] := by
  unfold F_subtract B_subtract rat
  simp only [x_run, x_out_nx, x_out_rt, x_out_er, x_seq, x_seq_nx, x_seq_rt, x_seq_er, x_seq_ct, x_seq_bk, x_ofR_ok, x_ofR_er, x_nx, x_bk, x_ct, x_set, x_setL, x_ret, x_drop, x_retN, x_if, x_raise, x_var, x_gv0, x_gvS, x_gvo0, x_gvoS, x_gb, x_gb0, x_gbO, x_gbS, x_c, x_op, x_cm, x_un, x_bf, x_isi, x_ix, x_ixO, x_ofO_some, x_anil, x_acons, x_tup, x_lst, x_eL, x_tb, x_nt, x_an, x_or, x_ent, x_ean, x_eor, x_eif, x_tT, x_tV, x_tY, x_call, x_callD, x_callK, x_cd1, x_cd2, x_cd3, x_cd4, x_st0, x_stS, x_stN, x_wh, x_for, x_iseq, x_ir1, x_ir2, x_add, x_sub, x_neg, x_dcmp, x_eqI, x_neI, x_absI, x_intI, x_gcdI, x_maxI, x_minI, x_lenL, x_lenT, x_ixL, x_ixT, x_at0, x_at1, x_sz0, x_sz1, x_sz2, x_sz3, x_gN, x_forN, x_for0, x_fB_nx, x_fB_ct, x_fB_bk, x_fB_rt, x_fB_er, x_iTT, x_iTL, x_iTI, x_iLT, x_iLL, x_iII, x_iBI, x_iSS, x_iBB, x_truB, x_itT, x_itL, x_try, RO.bind_ok, RO.bind_er, RO.pure_ok, List.set_cons_zero, List.set_cons_succ, List.cons_append, List.nil_append, if_true, if_false, ite_true, ite_false, reduceIte, Bool.false_eq_true, Bool.true_eq_false, Bool.not_true, Bool.not_false, x_len1, and_self, decide_eq_true_eq, decide_true, decide_false, eq_self, Bool.not_eq_true', decide_eq_false_iff_not, not_true_eq_false, not_false_eq_true, ne_eq, x_mul (mulOk_sm h1.2.2.1 h2.2.2.2 (by omega)), x_mul (mulOk_sm h2.2.2.1 h1.2.2.2 (by omega)), x_mul (mulOk_sm h1.2.2.2 h2.2.2.2 (by omega))]
  cases F_make [.int (a * d - c * b), .int (b * d)] <;> rfl
theorem mul_eq {a b c d : Int} {n : Nat} (h1 : Rt n a b) (h2 : Rt n c d) (l : n < 1000) : F_multiply [rat a b, rat c d] = F_make [.int (a * c), .int (b * d)] := by
  unfold F_multiply B_multiply rat
  simp only [x_run, x_out_nx, x_out_rt, x_out_er, x_seq, x_seq_nx, x_seq_rt, x_seq_er, x_seq_ct, x_seq_bk, x_ofR_ok, x_ofR_er, x_nx, x_bk, x_ct, x_set, x_setL, x_ret, x_drop, x_retN, x_if, x_raise, x_var, x_gv0, x_gvS, x_gvo0, x_gvoS, x_gb, x_gb0, x_gbO, x_gbS, x_c, x_op, x_cm, x_un, x_bf, x_isi, x_ix, x_ixO, x_ofO_some, x_anil, x_acons, x_tup, x_lst, x_eL, x_tb, x_nt, x_an, x_or, x_ent, x_ean, x_eor, x_eif, x_tT, x_tV, x_tY, x_call, x_callD, x_callK, x_cd1, x_cd2, x_cd3, x_cd4, x_st0, x_stS, x_stN, x_wh, x_for, x_iseq, x_ir1, x_ir2, x_add, x_sub, x_neg, x_dcmp, x_eqI, x_neI, x_absI, x_intI, x_gcdI, x_maxI, x_minI, x_lenL, x_lenT, x_ixL, x_ixT, x_at0, x_at1, x_sz0, x_sz1, x_sz2, x_sz3, x_gN, x_forN, x_for0, x_fB_nx, x_fB_ct, x_fB_bk, x_fB_rt, x_fB_er, x_iTT, x_iTL, x_iTI, x_iLT, x_iLL, x_iII, x_iBI, x_iSS, x_iBB, x_truB, x_itT, x_itL, x_try, RO.bind_ok, RO.bind_er, RO.pure_ok, List.set_cons_zero, List.set_cons_succ, List.cons_append, List.nil_append, if_true, if_false, ite_true, ite_false, reduceIte, Bool.false_eq_true, Bool.true_eq_false, Bool.not_true, Bool.not_false, x_len1, and_self, decide_eq_true_eq, decide_true, decide_false, eq_self, Bool.not_eq_true', decide_eq_false_iff_not, not_true_eq_false, not_false_eq_true, ne_eq, x_mul (mulOk_sm h1.2.2.1 h2.2.2.1 (by omega)), x_mul (mulOk_sm h1.2.2.2 h2.2.2.2 (by omega))]
  cases F_make [.int (a * c), .int (b * d)] <;> rfl
theorem div_eq {a b c d : Int} {n : Nat} (h1 : Rt n a b) (s3 : Sm n c) (s4 : Sm n d) (l : n < 1000) : F_divide [rat a b, rat c d] = F_make [.int (a * d), .int (b * c)] := by
  unfold F_divide B_divide rat
  simp only [x_run, x_out_nx, x_out_rt, x_out_er, x_seq, x_seq_nx, x_seq_rt, x_seq_er, x_seq_ct, x_seq_bk, x_ofR_ok, x_ofR_er, x_nx, x_bk, x_ct, x_set, x_setL, x_ret, x_drop, x_retN, x_if, x_raise, x_var, x_gv0, x_gvS, x_gvo0, x_gvoS, x_gb, x_gb0, x_gbO, x_gbS, x_c, x_op, x_cm, x_un, x_bf, x_isi, x_ix, x_ixO, x_ofO_some, x_anil, x_acons, x_tup, x_lst, x_eL, x_tb, x_nt, x_an, x_or, x_ent, x_ean, x_eor, x_eif, x_tT, x_tV, x_tY, x_call, x_callD, x_callK, x_cd1, x_cd2, x_cd3, x_cd4, x_st0, x_stS, x_stN, x_wh, x_for, x_iseq, x_ir1, x_ir2, x_add, x_sub, x_neg, x_dcmp, x_eqI, x_neI, x_absI, x_intI, x_gcdI, x_maxI, x_minI, x_lenL, x_lenT, x_ixL, x_ixT, x_at0, x_at1, x_sz0, x_sz1, x_sz2, x_sz3, x_gN, x_forN, x_for0, x_fB_nx, x_fB_ct, x_fB_bk, x_fB_rt, x_fB_er, x_iTT, x_iTL, x_iTI, x_iLT, x_iLL, x_iII, x_iBI, x_iSS, x_iBB, x_truB, x_itT, x_itL, x_try, RO.bind_ok, RO.bind_er, RO.pure_ok, List.set_cons_zero, List.set_cons_succ, List.cons_append, List.nil_append, if_true, if_false, ite_true, ite_false, reduceIte, Bool.false_eq_true, Bool.true_eq_false, Bool.not_true, Bool.not_false, x_len1, and_self, decide_eq_true_eq, decide_true, decide_false, eq_self, Bool.not_eq_true', decide_eq_false_iff_not, not_true_eq_false, not_false_eq_true, ne_eq, x_mul (mulOk_sm h1.2.2.1 s4 (by omega)), x_mul (mulOk_sm h1.2.2.2 s3 (by omega))]
  cases F_make [.int (a * d), .int (b * c)] <;> rfl
theorem neg_eq {a b : Int} : F_negative [rat a b] = .ok (rat (-a) b) := by
  unfold F_negative B_negative rat
  simp only [x_run, x_out_nx, x_out_rt, x_out_er, x_seq, x_seq_nx, x_seq_rt, x_seq_er, x_seq_ct, x_seq_bk, x_ofR_ok, x_ofR_er, x_nx, x_bk, x_ct, x_set, x_setL, x_ret, x_drop, x_retN, x_if, x_raise, x_var, x_gv0, x_gvS, x_gvo0, x_gvoS, x_gb, x_gb0, x_gbO, x_gbS, x_c, x_op, x_cm, x_un, x_bf, x_isi, x_ix, x_ixO, x_ofO_some, x_anil, x_acons, x_tup, x_lst, x_eL, x_tb, x_nt, x_an, x_or, x_ent, x_ean, x_eor, x_eif, x_tT, x_tV, x_tY, x_call, x_callD, x_callK, x_cd1, x_cd2, x_cd3, x_cd4, x_st0, x_stS, x_stN, x_wh, x_for, x_iseq, x_ir1, x_ir2, x_add, x_sub, x_neg, x_dcmp, x_eqI, x_neI, x_absI, x_intI, x_gcdI, x_maxI, x_minI, x_lenL, x_lenT, x_ixL, x_ixT, x_at0, x_at1, x_sz0, x_sz1, x_sz2, x_sz3, x_gN, x_forN, x_for0, x_fB_nx, x_fB_ct, x_fB_bk, x_fB_rt, x_fB_er, x_iTT, x_iTL, x_iTI, x_iLT, x_iLL, x_iII, x_iBI, x_iSS, x_iBB, x_truB, x_itT, x_itL, x_try, RO.bind_ok, RO.bind_er, RO.pure_ok, List.set_cons_zero, List.set_cons_succ, List.cons_append, List.nil_append, if_true, if_false, ite_true, ite_false, reduceIte, Bool.false_eq_true, Bool.true_eq_false, Bool.not_true, Bool.not_false, x_len1, and_self, decide_eq_true_eq, decide_true, decide_false, eq_self, Bool.not_eq_true', decide_eq_false_iff_not, not_true_eq_false, not_false_eq_true, ne_eq]
theorem abs_eq2 {a b : Int} : F_absolute [rat a b] = .ok (rat (if a < 0 then -a else a) b) := by
  unfold F_absolute B_absolute rat
  simp only [x_run, x_out_nx, x_out_rt, x_out_er, x_seq, x_seq_nx, x_seq_rt, x_seq_er, x_seq_ct, x_seq_bk, x_ofR_ok, x_ofR_er, x_nx, x_bk, x_ct, x_set, x_setL, x_ret, x_drop, x_retN, x_if, x_raise, x_var, x_gv0, x_gvS, x_gvo0, x_gvoS, x_gb, x_gb0, x_gbO, x_gbS, x_c, x_op, x_cm, x_un, x_bf, x_isi, x_ix, x_ixO, x_ofO_some, x_anil, x_acons, x_tup, x_lst, x_eL, x_tb, x_nt, x_an, x_or, x_ent, x_ean, x_eor, x_eif, x_tT, x_tV, x_tY, x_call, x_callD, x_callK, x_cd1, x_cd2, x_cd3, x_cd4, x_st0, x_stS, x_stN, x_wh, x_for, x_iseq, x_ir1, x_ir2, x_add, x_sub, x_neg, x_dcmp, x_eqI, x_neI, x_absI, x_intI, x_gcdI, x_maxI, x_minI, x_lenL, x_lenT, x_ixL, x_ixT, x_at0, x_at1, x_sz0, x_sz1, x_sz2, x_sz3, x_gN, x_forN, x_for0, x_fB_nx, x_fB_ct, x_fB_bk, x_fB_rt, x_fB_er, x_iTT, x_iTL, x_iTI, x_iLT, x_iLL, x_iII, x_iBI, x_iSS, x_iBB, x_truB, x_itT, x_itL, x_try, RO.bind_ok, RO.bind_er, RO.pure_ok, List.set_cons_zero, List.set_cons_succ, List.cons_append, List.nil_append, if_true, if_false, ite_true, ite_false, reduceIte, Bool.false_eq_true, Bool.true_eq_false, Bool.not_true, Bool.not_false, x_len1, and_self, decide_eq_true_eq, decide_true, decide_false, eq_self, Bool.not_eq_true', decide_eq_false_iff_not, not_true_eq_false, not_false_eq_true, ne_eq]
theorem pair_ok {a b c d : Int} (h1 : Rt 214 a b) (h2 : Rt 214 c d) : F__law_pair_right [rat a b, rat c d] = .ok (.bool true) := by
  have m1 : Sm 429 (a * d) := (h1.2.2.1.mul h2.2.2.2).mono (by decide)
  have m2 : Sm 429 (c * b) := (h2.2.2.1.mul h1.2.2.2).mono (by decide)
  have m3 : Sm 429 (b * d) := (h1.2.2.2.mul h2.2.2.2).mono (by decide)
  have m4 : Sm 429 (a * c) := (h1.2.2.1.mul h2.2.2.1).mono (by decide)
  have m5 : Sm 429 (b * c) := (h1.2.2.2.mul h2.2.2.1).mono (by decide)
  have m6 : Sm 430 (a * d + c * b) := m1.add m2
  have m7 : Sm 430 (a * d - c * b) := m1.sub m2
  have n3 : b * d ≠ 0 := Int.ne_of_gt (Int.mul_pos h1.1 h2.1)
  obtain ⟨p1, q1, e1, l1⟩ := make_ok (a := a * d + c * b) n3 m3
  obtain ⟨p2, q2, e2, l2⟩ := make_ok (a := a * d - c * b) n3 m3
  obtain ⟨p3, q3, e3, l3⟩ := make_ok (a := a * c) n3 m3
  have i1 : F__law_is [rat p1 q1, .int (a * d + c * b), .int (b * d)] = .ok (.bool true) := is_ok (l1.rt m6 (m3.mono (by decide))) m6 (m3.mono (by decide)) l1.2.2.1
  have i2 : F__law_is [rat p2 q2, .int (a * d - c * b), .int (b * d)] = .ok (.bool true) := is_ok (l2.rt m7 (m3.mono (by decide))) m7 (m3.mono (by decide)) l2.2.2.1
  have i3 : F__law_is [rat p3 q3, .int (a * c), .int (b * d)] = .ok (.bool true) := is_ok (l3.rt m4 m3) m4 m3 l3.2.2.1
  have i4 : F__law_is [rat (-a) b, .int (-a), .int b] = .ok (.bool true) := is_ok (n := 214) ⟨h1.1, by rw [Int.neg_gcd]; exact h1.2.1, h1.2.2.1.neg, h1.2.2.2⟩ h1.2.2.1.neg h1.2.2.2 rfl
  have i5 : F__law_is [rat (if a < 0 then -a else a) b, .int (if a < 0 then -a else a), .int b] = .ok (.bool true) := is_ok (n := 214) ⟨h1.1, by
    split
    · rw [Int.neg_gcd]
      exact h1.2.1
    · exact h1.2.1, h1.2.2.1.abs, h1.2.2.2⟩ h1.2.2.1.abs h1.2.2.2 rfl
  have u1 := add_eq h1 h2 (by decide)
  have u2 := sub_eq h1 h2 (by decide)
  have u3 := mul_eq h1 h2 (by decide)
  have u4 := div_eq h1 h2.2.2.1 h2.2.2.2 (by decide)
  rw [e1] at u1
  rw [e2] at u2
  rw [e3] at u3
  have v1 : dIx (rat a b) (.int 0) = some (.int a) := x_at0
  have v2 : dIx (rat a b) (.int 1) = some (.int b) := x_at1
  have v3 : dIx (rat c d) (.int 0) = some (.int c) := x_at0
  have v4 : dIx (rat c d) (.int 1) = some (.int d) := x_at1
  have w1 := x_mul (mulOk_sm h1.2.2.1 h2.2.2.2)
  have w2 := x_mul (mulOk_sm h2.2.2.1 h1.2.2.2)
  have w3 := x_mul (mulOk_sm h1.2.2.2 h2.2.2.2)
  have w4 := x_mul (mulOk_sm h1.2.2.1 h2.2.2.1)
  have w5 := x_mul (mulOk_sm h1.2.2.2 h2.2.2.1)
  unfold F__law_pair_right B__law_pair_right
  by_cases z : c = 0
  · simp only [x_run, x_out_nx, x_out_rt, x_out_er, x_seq, x_seq_nx, x_seq_rt, x_seq_er, x_seq_ct, x_seq_bk, x_ofR_ok, x_ofR_er, x_nx, x_bk, x_ct, x_set, x_setL, x_ret, x_drop, x_retN, x_if, x_raise, x_var, x_gv0, x_gvS, x_gvo0, x_gvoS, x_gb, x_gb0, x_gbO, x_gbS, x_c, x_op, x_cm, x_un, x_bf, x_isi, x_ix, x_ixO, x_ofO_some, x_anil, x_acons, x_tup, x_lst, x_eL, x_tb, x_nt, x_an, x_or, x_ent, x_ean, x_eor, x_eif, x_tT, x_tV, x_tY, x_call, x_callD, x_callK, x_cd1, x_cd2, x_cd3, x_cd4, x_st0, x_stS, x_stN, x_wh, x_for, x_iseq, x_ir1, x_ir2, x_add, x_sub, x_neg, x_dcmp, x_eqI, x_neI, x_absI, x_intI, x_gcdI, x_maxI, x_minI, x_lenL, x_lenT, x_ixL, x_ixT, x_at0, x_at1, x_sz0, x_sz1, x_sz2, x_sz3, x_gN, x_forN, x_for0, x_fB_nx, x_fB_ct, x_fB_bk, x_fB_rt, x_fB_er, x_iTT, x_iTL, x_iTI, x_iLT, x_iLL, x_iII, x_iBI, x_iSS, x_iBB, x_truB, x_itT, x_itL, x_try, RO.bind_ok, RO.bind_er, RO.pure_ok, List.set_cons_zero, List.set_cons_succ, List.cons_append, List.nil_append, if_true, if_false, ite_true, ite_false, reduceIte, Bool.false_eq_true, Bool.true_eq_false, Bool.not_true, Bool.not_false, x_len1, and_self, decide_eq_true_eq, decide_true, decide_false, eq_self, Bool.not_eq_true', decide_eq_false_iff_not, not_true_eq_false, not_false_eq_true, ne_eq, v1, v2, v3, v4, w1, w2, w3, w4, w5, u1, u2, u3, i1, i2, i3, neg_eq, abs_eq2, i4, i5, eq_true z]
  · have n5 : b * c ≠ 0 := by
      intro k
      rcases Int.mul_eq_zero.mp k with h | h
      · have := h1.1
        omega
      · exact z h
    obtain ⟨p4, q4, e4, l4⟩ := make_ok (a := a * d) n5 m5
    have i6 : F__law_is [rat p4 q4, .int (a * d), .int (b * c)] = .ok (.bool true) := is_ok (l4.rt m1 m5) m1 m5 l4.2.2.1
    rw [e4] at u4
    simp only [x_run, x_out_nx, x_out_rt, x_out_er, x_seq, x_seq_nx, x_seq_rt, x_seq_er, x_seq_ct, x_seq_bk, x_ofR_ok, x_ofR_er, x_nx, x_bk, x_ct, x_set, x_setL, x_ret, x_drop, x_retN, x_if, x_raise, x_var, x_gv0, x_gvS, x_gvo0, x_gvoS, x_gb, x_gb0, x_gbO, x_gbS, x_c, x_op, x_cm, x_un, x_bf, x_isi, x_ix, x_ixO, x_ofO_some, x_anil, x_acons, x_tup, x_lst, x_eL, x_tb, x_nt, x_an, x_or, x_ent, x_ean, x_eor, x_eif, x_tT, x_tV, x_tY, x_call, x_callD, x_callK, x_cd1, x_cd2, x_cd3, x_cd4, x_st0, x_stS, x_stN, x_wh, x_for, x_iseq, x_ir1, x_ir2, x_add, x_sub, x_neg, x_dcmp, x_eqI, x_neI, x_absI, x_intI, x_gcdI, x_maxI, x_minI, x_lenL, x_lenT, x_ixL, x_ixT, x_at0, x_at1, x_sz0, x_sz1, x_sz2, x_sz3, x_gN, x_forN, x_for0, x_fB_nx, x_fB_ct, x_fB_bk, x_fB_rt, x_fB_er, x_iTT, x_iTL, x_iTI, x_iLT, x_iLL, x_iII, x_iBI, x_iSS, x_iBB, x_truB, x_itT, x_itL, x_try, RO.bind_ok, RO.bind_er, RO.pure_ok, List.set_cons_zero, List.set_cons_succ, List.cons_append, List.nil_append, if_true, if_false, ite_true, ite_false, reduceIte, Bool.false_eq_true, Bool.true_eq_false, Bool.not_true, Bool.not_false, x_len1, and_self, decide_eq_true_eq, decide_true, decide_false, eq_self, Bool.not_eq_true', decide_eq_false_iff_not, not_true_eq_false, not_false_eq_true, ne_eq, v1, v2, v3, v4, w1, w2, w3, w4, w5, u1, u2, u3, u4, i1, i2, i3, i6, neg_eq, abs_eq2, i4, i5, z]
theorem mtc_byZero : mtc__law_refused "ByZero" = some true := rfl
theorem refused_ok {a c : Int} (sa : Sm 213 a) : F__law_refused [.int a, .int c] = .ok (.bool true) := by
  have hx : ∀ env : PD.Env, (eAn (fun _ => if ("ByZero" : Str) = "ByZero" ∧ ([] : Flds) = [] then RO.ok (.bool true) else .no) (eNt (fun _ => if ("ByZero" : Str) = "ByZero" ∧ ([] : Flds) = [] then RO.ok (.bool false) else .no))) env = .ok (.bool true) := fun env => by
    simp only [x_run, x_out_nx, x_out_rt, x_out_er, x_seq, x_seq_nx, x_seq_rt, x_seq_er, x_seq_ct, x_seq_bk, x_ofR_ok, x_ofR_er, x_nx, x_bk, x_ct, x_set, x_setL, x_ret, x_drop, x_retN, x_if, x_raise, x_var, x_gv0, x_gvS, x_gvo0, x_gvoS, x_gb, x_gb0, x_gbO, x_gbS, x_c, x_op, x_cm, x_un, x_bf, x_isi, x_ix, x_ixO, x_ofO_some, x_anil, x_acons, x_tup, x_lst, x_eL, x_tb, x_nt, x_an, x_or, x_ent, x_ean, x_eor, x_eif, x_tT, x_tV, x_tY, x_call, x_callD, x_callK, x_cd1, x_cd2, x_cd3, x_cd4, x_st0, x_stS, x_stN, x_wh, x_for, x_iseq, x_ir1, x_ir2, x_add, x_sub, x_neg, x_dcmp, x_eqI, x_neI, x_absI, x_intI, x_gcdI, x_maxI, x_minI, x_lenL, x_lenT, x_ixL, x_ixT, x_at0, x_at1, x_sz0, x_sz1, x_sz2, x_sz3, x_gN, x_forN, x_for0, x_fB_nx, x_fB_ct, x_fB_bk, x_fB_rt, x_fB_er, x_iTT, x_iTL, x_iTI, x_iLT, x_iLL, x_iII, x_iBI, x_iSS, x_iBB, x_truB, x_itT, x_itL, x_try, RO.bind_ok, RO.bind_er, RO.pure_ok, List.set_cons_zero, List.set_cons_succ, List.cons_append, List.nil_append, if_true, if_false, ite_true, ite_false, reduceIte, Bool.false_eq_true, Bool.true_eq_false, Bool.not_true, Bool.not_false, x_len1, and_self, decide_eq_true_eq, decide_true, decide_false, eq_self, Bool.not_eq_true', decide_eq_false_iff_not, not_true_eq_false, not_false_eq_true, ne_eq, and_self]
  unfold F__law_refused B__law_refused
  by_cases z : c = 0
  · subst z
    simp only [x_run, x_out_nx, x_out_rt, x_out_er, x_seq, x_seq_nx, x_seq_rt, x_seq_er, x_seq_ct, x_seq_bk, x_ofR_ok, x_ofR_er, x_nx, x_bk, x_ct, x_set, x_setL, x_ret, x_drop, x_retN, x_if, x_raise, x_var, x_gv0, x_gvS, x_gvo0, x_gvoS, x_gb, x_gb0, x_gbO, x_gbS, x_c, x_op, x_cm, x_un, x_bf, x_isi, x_ix, x_ixO, x_ofO_some, x_anil, x_acons, x_tup, x_lst, x_eL, x_tb, x_nt, x_an, x_or, x_ent, x_ean, x_eor, x_eif, x_tT, x_tV, x_tY, x_call, x_callD, x_callK, x_cd1, x_cd2, x_cd3, x_cd4, x_st0, x_stS, x_stN, x_wh, x_for, x_iseq, x_ir1, x_ir2, x_add, x_sub, x_neg, x_dcmp, x_eqI, x_neI, x_absI, x_intI, x_gcdI, x_maxI, x_minI, x_lenL, x_lenT, x_ixL, x_ixT, x_at0, x_at1, x_sz0, x_sz1, x_sz2, x_sz3, x_gN, x_forN, x_for0, x_fB_nx, x_fB_ct, x_fB_bk, x_fB_rt, x_fB_er, x_iTT, x_iTL, x_iTI, x_iLT, x_iLL, x_iII, x_iBI, x_iSS, x_iBB, x_truB, x_itT, x_itL, x_try, RO.bind_ok, RO.bind_er, RO.pure_ok, List.set_cons_zero, List.set_cons_succ, List.cons_append, List.nil_append, if_true, if_false, ite_true, ite_false, reduceIte, Bool.false_eq_true, Bool.true_eq_false, Bool.not_true, Bool.not_false, x_len1, and_self, decide_eq_true_eq, decide_true, decide_false, eq_self, Bool.not_eq_true', decide_eq_false_iff_not, not_true_eq_false, not_false_eq_true, ne_eq, make_zero]
    rw [x_try_er (v := .bool true) mtc_byZero (by simp) (hx _)]
    simp only [x_run, x_out_nx, x_out_rt, x_out_er, x_seq, x_seq_nx, x_seq_rt, x_seq_er, x_seq_ct, x_seq_bk, x_ofR_ok, x_ofR_er, x_nx, x_bk, x_ct, x_set, x_setL, x_ret, x_drop, x_retN, x_if, x_raise, x_var, x_gv0, x_gvS, x_gvo0, x_gvoS, x_gb, x_gb0, x_gbO, x_gbS, x_c, x_op, x_cm, x_un, x_bf, x_isi, x_ix, x_ixO, x_ofO_some, x_anil, x_acons, x_tup, x_lst, x_eL, x_tb, x_nt, x_an, x_or, x_ent, x_ean, x_eor, x_eif, x_tT, x_tV, x_tY, x_call, x_callD, x_callK, x_cd1, x_cd2, x_cd3, x_cd4, x_st0, x_stS, x_stN, x_wh, x_for, x_iseq, x_ir1, x_ir2, x_add, x_sub, x_neg, x_dcmp, x_eqI, x_neI, x_absI, x_intI, x_gcdI, x_maxI, x_minI, x_lenL, x_lenT, x_ixL, x_ixT, x_at0, x_at1, x_sz0, x_sz1, x_sz2, x_sz3, x_gN, x_forN, x_for0, x_fB_nx, x_fB_ct, x_fB_bk, x_fB_rt, x_fB_er, x_iTT, x_iTL, x_iTI, x_iLT, x_iLL, x_iII, x_iBI, x_iSS, x_iBB, x_truB, x_itT, x_itL, x_try, RO.bind_ok, RO.bind_er, RO.pure_ok, List.set_cons_zero, List.set_cons_succ, List.cons_append, List.nil_append, if_true, if_false, ite_true, ite_false, reduceIte, Bool.false_eq_true, Bool.true_eq_false, Bool.not_true, Bool.not_false, x_len1, and_self, decide_eq_true_eq, decide_true, decide_false, eq_self, Bool.not_eq_true', decide_eq_false_iff_not, not_true_eq_false, not_false_eq_true, ne_eq]
  · have s7 : Sm 213 7 := sm_small (by decide) (by decide)
    obtain ⟨p, q, e, l⟩ := lowest_ok (by decide : (0 : Int) < 7) sa s7
    have r := l.rt sa s7
    have u := div_eq (c := 0) (d := 1) r (sm_small (by decide) (by decide)) (sm_small (by decide) (by decide)) (by decide)
    rw [Int.mul_zero, make_zero] at u
    have u' : F_divide [rat p q, .tuple [.int 0, .int 1]] = _ := u
    simp only [x_run, x_out_nx, x_out_rt, x_out_er, x_seq, x_seq_nx, x_seq_rt, x_seq_er, x_seq_ct, x_seq_bk, x_ofR_ok, x_ofR_er, x_nx, x_bk, x_ct, x_set, x_setL, x_ret, x_drop, x_retN, x_if, x_raise, x_var, x_gv0, x_gvS, x_gvo0, x_gvoS, x_gb, x_gb0, x_gbO, x_gbS, x_c, x_op, x_cm, x_un, x_bf, x_isi, x_ix, x_ixO, x_ofO_some, x_anil, x_acons, x_tup, x_lst, x_eL, x_tb, x_nt, x_an, x_or, x_ent, x_ean, x_eor, x_eif, x_tT, x_tV, x_tY, x_call, x_callD, x_callK, x_cd1, x_cd2, x_cd3, x_cd4, x_st0, x_stS, x_stN, x_wh, x_for, x_iseq, x_ir1, x_ir2, x_add, x_sub, x_neg, x_dcmp, x_eqI, x_neI, x_absI, x_intI, x_gcdI, x_maxI, x_minI, x_lenL, x_lenT, x_ixL, x_ixT, x_at0, x_at1, x_sz0, x_sz1, x_sz2, x_sz3, x_gN, x_forN, x_for0, x_fB_nx, x_fB_ct, x_fB_bk, x_fB_rt, x_fB_er, x_iTT, x_iTL, x_iTI, x_iLT, x_iLL, x_iII, x_iBI, x_iSS, x_iBB, x_truB, x_itT, x_itL, x_try, RO.bind_ok, RO.bind_er, RO.pure_ok, List.set_cons_zero, List.set_cons_succ, List.cons_append, List.nil_append, if_true, if_false, ite_true, ite_false, reduceIte, Bool.false_eq_true, Bool.true_eq_false, Bool.not_true, Bool.not_false, x_len1, and_self, decide_eq_true_eq, decide_true, decide_false, eq_self, Bool.not_eq_true', decide_eq_false_iff_not, not_true_eq_false, not_false_eq_true, ne_eq, z, e, u']
    rw [x_try_er (v := .bool true) mtc_byZero (by simp) (hx _)]
    simp only [x_run, x_out_nx, x_out_rt, x_out_er, x_seq, x_seq_nx, x_seq_rt, x_seq_er, x_seq_ct, x_seq_bk, x_ofR_ok, x_ofR_er, x_nx, x_bk, x_ct, x_set, x_setL, x_ret, x_drop, x_retN, x_if, x_raise, x_var, x_gv0, x_gvS, x_gvo0, x_gvoS, x_gb, x_gb0, x_gbO, x_gbS, x_c, x_op, x_cm, x_un, x_bf, x_isi, x_ix, x_ixO, x_ofO_some, x_anil, x_acons, x_tup, x_lst, x_eL, x_tb, x_nt, x_an, x_or, x_ent, x_ean, x_eor, x_eif, x_tT, x_tV, x_tY, x_call, x_callD, x_callK, x_cd1, x_cd2, x_cd3, x_cd4, x_st0, x_stS, x_stN, x_wh, x_for, x_iseq, x_ir1, x_ir2, x_add, x_sub, x_neg, x_dcmp, x_eqI, x_neI, x_absI, x_intI, x_gcdI, x_maxI, x_minI, x_lenL, x_lenT, x_ixL, x_ixT, x_at0, x_at1, x_sz0, x_sz1, x_sz2, x_sz3, x_gN, x_forN, x_for0, x_fB_nx, x_fB_ct, x_fB_bk, x_fB_rt, x_fB_er, x_iTT, x_iTL, x_iTI, x_iLT, x_iLL, x_iII, x_iBI, x_iSS, x_iBB, x_truB, x_itT, x_itL, x_try, RO.bind_ok, RO.bind_er, RO.pure_ok, List.set_cons_zero, List.set_cons_succ, List.cons_append, List.nil_append, if_true, if_false, ite_true, ite_false, reduceIte, Bool.false_eq_true, Bool.true_eq_false, Bool.not_true, Bool.not_false, x_len1, and_self, decide_eq_true_eq, decide_true, decide_false, eq_self, Bool.not_eq_true', decide_eq_false_iff_not, not_true_eq_false, not_false_eq_true, ne_eq]
theorem pow64 : ∃ T : Int, dPow (.int 10) (.int 64) = some (.int T) ∧ 0 < T ∧ T < 2 ^ 213 := by
  refine ⟨10 ^ 64, ?_, by decide, by decide⟩
  have h : powOk 10 64 = true := by decide +kernel
  show (if powOk 10 64 = true then some (PyData.int (10 ^ (64 : Int).toNat)) else none) = _
  rw [if_pos h]
  rfl
theorem cell_ok (ns : List Int) (k : Nat) : ∃ c, F__law_cell [.list (ns.map .int), .int k] = .ok (.int c) ∧ Sm 213 c := by
  obtain ⟨T, t1, t2, t3⟩ := pow64
  unfold F__law_cell B__law_cell
  by_cases hk : k < ns.length
  · have e : atI (ns.map PyData.int) (k : Int) = some (.int ns[k]) := atI_nat (by rw [List.getElem?_map, List.getElem?_eq_getElem hk]; rfl)
    generalize ns[k] = c at e
    by_cases z : (if c < 0 then -c else c) < T
    · refine ⟨c, ?_, ?_⟩
      · simp only [x_run, x_out_nx, x_out_rt, x_out_er, x_seq, x_seq_nx, x_seq_rt, x_seq_er, x_seq_ct, x_seq_bk, x_ofR_ok, x_ofR_er, x_nx, x_bk, x_ct, x_set, x_setL, x_ret, x_drop, x_retN, x_if, x_raise, x_var, x_gv0, x_gvS, x_gvo0, x_gvoS, x_gb, x_gb0, x_gbO, x_gbS, x_c, x_op, x_cm, x_un, x_bf, x_isi, x_ix, x_ixO, x_ofO_some, x_anil, x_acons, x_tup, x_lst, x_eL, x_tb, x_nt, x_an, x_or, x_ent, x_ean, x_eor, x_eif, x_tT, x_tV, x_tY, x_call, x_callD, x_callK, x_cd1, x_cd2, x_cd3, x_cd4, x_st0, x_stS, x_stN, x_wh, x_for, x_iseq, x_ir1, x_ir2, x_add, x_sub, x_neg, x_dcmp, x_eqI, x_neI, x_absI, x_intI, x_gcdI, x_maxI, x_minI, x_lenL, x_lenT, x_ixL, x_ixT, x_at0, x_at1, x_sz0, x_sz1, x_sz2, x_sz3, x_gN, x_forN, x_for0, x_fB_nx, x_fB_ct, x_fB_bk, x_fB_rt, x_fB_er, x_iTT, x_iTL, x_iTI, x_iLT, x_iLL, x_iII, x_iBI, x_iSS, x_iBB, x_truB, x_itT, x_itL, x_try, RO.bind_ok, RO.bind_er, RO.pure_ok, List.set_cons_zero, List.set_cons_succ, List.cons_append, List.nil_append, if_true, if_false, ite_true, ite_false, reduceIte, Bool.false_eq_true, Bool.true_eq_false, Bool.not_true, Bool.not_false, x_len1, and_self, decide_eq_true_eq, decide_true, decide_false, eq_self, Bool.not_eq_true', decide_eq_false_iff_not, not_true_eq_false, not_false_eq_true, ne_eq, List.length_map, Int.ofNat_lt, hk, e, t1, x_mod t2, eq_true z]
      · unfold Sm
        rw [abs_eq] at z
        have : ((2 : Int) ^ 213) = ((2 ^ 213 : Nat) : Int) := rfl
        omega
    · refine ⟨c % T, ?_, ?_⟩
      · simp only [x_run, x_out_nx, x_out_rt, x_out_er, x_seq, x_seq_nx, x_seq_rt, x_seq_er, x_seq_ct, x_seq_bk, x_ofR_ok, x_ofR_er, x_nx, x_bk, x_ct, x_set, x_setL, x_ret, x_drop, x_retN, x_if, x_raise, x_var, x_gv0, x_gvS, x_gvo0, x_gvoS, x_gb, x_gb0, x_gbO, x_gbS, x_c, x_op, x_cm, x_un, x_bf, x_isi, x_ix, x_ixO, x_ofO_some, x_anil, x_acons, x_tup, x_lst, x_eL, x_tb, x_nt, x_an, x_or, x_ent, x_ean, x_eor, x_eif, x_tT, x_tV, x_tY, x_call, x_callD, x_callK, x_cd1, x_cd2, x_cd3, x_cd4, x_st0, x_stS, x_stN, x_wh, x_for, x_iseq, x_ir1, x_ir2, x_add, x_sub, x_neg, x_dcmp, x_eqI, x_neI, x_absI, x_intI, x_gcdI, x_maxI, x_minI, x_lenL, x_lenT, x_ixL, x_ixT, x_at0, x_at1, x_sz0, x_sz1, x_sz2, x_sz3, x_gN, x_forN, x_for0, x_fB_nx, x_fB_ct, x_fB_bk, x_fB_rt, x_fB_er, x_iTT, x_iTL, x_iTI, x_iLT, x_iLL, x_iII, x_iBI, x_iSS, x_iBB, x_truB, x_itT, x_itL, x_try, RO.bind_ok, RO.bind_er, RO.pure_ok, List.set_cons_zero, List.set_cons_succ, List.cons_append, List.nil_append, if_true, if_false, ite_true, ite_false, reduceIte, Bool.false_eq_true, Bool.true_eq_false, Bool.not_true, Bool.not_false, x_len1, and_self, decide_eq_true_eq, decide_true, decide_false, eq_self, Bool.not_eq_true', decide_eq_false_iff_not, not_true_eq_false, not_false_eq_true, ne_eq, List.length_map, Int.ofNat_lt, hk, e, t1, x_mod t2, eq_false z]
      · have h1 := Int.emod_nonneg c (show T ≠ 0 by omega)
        have h2 := Int.emod_lt_of_pos c t2
        unfold Sm
        have : ((2 : Int) ^ 213) = ((2 ^ 213 : Nat) : Int) := rfl
        omega
  · refine ⟨0, ?_, sm_small (by decide) (by decide)⟩
    simp only [x_run, x_out_nx, x_out_rt, x_out_er, x_seq, x_seq_nx, x_seq_rt, x_seq_er, x_seq_ct, x_seq_bk, x_ofR_ok, x_ofR_er, x_nx, x_bk, x_ct, x_set, x_setL, x_ret, x_drop, x_retN, x_if, x_raise, x_var, x_gv0, x_gvS, x_gvo0, x_gvoS, x_gb, x_gb0, x_gbO, x_gbS, x_c, x_op, x_cm, x_un, x_bf, x_isi, x_ix, x_ixO, x_ofO_some, x_anil, x_acons, x_tup, x_lst, x_eL, x_tb, x_nt, x_an, x_or, x_ent, x_ean, x_eor, x_eif, x_tT, x_tV, x_tY, x_call, x_callD, x_callK, x_cd1, x_cd2, x_cd3, x_cd4, x_st0, x_stS, x_stN, x_wh, x_for, x_iseq, x_ir1, x_ir2, x_add, x_sub, x_neg, x_dcmp, x_eqI, x_neI, x_absI, x_intI, x_gcdI, x_maxI, x_minI, x_lenL, x_lenT, x_ixL, x_ixT, x_at0, x_at1, x_sz0, x_sz1, x_sz2, x_sz3, x_gN, x_forN, x_for0, x_fB_nx, x_fB_ct, x_fB_bk, x_fB_rt, x_fB_er, x_iTT, x_iTL, x_iTI, x_iLT, x_iLL, x_iII, x_iBI, x_iSS, x_iBB, x_truB, x_itT, x_itL, x_try, RO.bind_ok, RO.bind_er, RO.pure_ok, List.set_cons_zero, List.set_cons_succ, List.cons_append, List.nil_append, if_true, if_false, ite_true, ite_false, reduceIte, Bool.false_eq_true, Bool.true_eq_false, Bool.not_true, Bool.not_false, x_len1, and_self, decide_eq_true_eq, decide_true, decide_false, eq_self, Bool.not_eq_true', decide_eq_false_iff_not, not_true_eq_false, not_false_eq_true, ne_eq, List.length_map, Int.ofNat_lt, hk, t1, x_mod t2, Int.lt_irrefl, t2]
theorem of_eq {c : Int} : F_of [.int c] = .ok (rat c 1) := by
  unfold F_of B_of rat
  simp only [x_run, x_out_nx, x_out_rt, x_out_er, x_seq, x_seq_nx, x_seq_rt, x_seq_er, x_seq_ct, x_seq_bk, x_ofR_ok, x_ofR_er, x_nx, x_bk, x_ct, x_set, x_setL, x_ret, x_drop, x_retN, x_if, x_raise, x_var, x_gv0, x_gvS, x_gvo0, x_gvoS, x_gb, x_gb0, x_gbO, x_gbS, x_c, x_op, x_cm, x_un, x_bf, x_isi, x_ix, x_ixO, x_ofO_some, x_anil, x_acons, x_tup, x_lst, x_eL, x_tb, x_nt, x_an, x_or, x_ent, x_ean, x_eor, x_eif, x_tT, x_tV, x_tY, x_call, x_callD, x_callK, x_cd1, x_cd2, x_cd3, x_cd4, x_st0, x_stS, x_stN, x_wh, x_for, x_iseq, x_ir1, x_ir2, x_add, x_sub, x_neg, x_dcmp, x_eqI, x_neI, x_absI, x_intI, x_gcdI, x_maxI, x_minI, x_lenL, x_lenT, x_ixL, x_ixT, x_at0, x_at1, x_sz0, x_sz1, x_sz2, x_sz3, x_gN, x_forN, x_for0, x_fB_nx, x_fB_ct, x_fB_bk, x_fB_rt, x_fB_er, x_iTT, x_iTL, x_iTI, x_iLT, x_iLL, x_iII, x_iBI, x_iSS, x_iBB, x_truB, x_itT, x_itL, x_try, RO.bind_ok, RO.bind_er, RO.pure_ok, List.set_cons_zero, List.set_cons_succ, List.cons_append, List.nil_append, if_true, if_false, ite_true, ite_false, reduceIte, Bool.false_eq_true, Bool.true_eq_false, Bool.not_true, Bool.not_false, x_len1, and_self, decide_eq_true_eq, decide_true, decide_false, eq_self, Bool.not_eq_true', decide_eq_false_iff_not, not_true_eq_false, not_false_eq_true, ne_eq]
theorem rng1_okI {j : Int} (h : 0 ≤ j) (l : j ≤ 1000) : rng1 (.int j) = .ok (rngItems 0 j.toNat) := by
  obtain ⟨n, rfl⟩ := Int.eq_ofNat_of_zero_le h
  exact rng1_ok (by omega)
theorem rng_mem {n : Nat} {d : PyData} (h : d ∈ rngItems 0 n) : ∃ k : Nat, d = .int k := by
  unfold rngItems at h
  obtain ⟨k, _, rfl⟩ := List.mem_map.mp h
  exact ⟨k, by rw [Int.zero_add]⟩
def lawB : S := (sSeq (sSet 2 (eCall 2 F__law_cell (aCons (eVar 0) (aCons (eVar 1) aNil)))) (sSeq (sSet 3 (eCall 2 F__law_cell (aCons (eVar 0) (aCons (eOp dAdd (eVar 1) (eC (.int 1))) aNil)))) (sSeq (sSet 4 (eCall 3 F__law_drawn (aCons (eOp dDiv (eVar 2) (eC (.int 16))) (aCons (eVar 3) (aCons (eOp dMod (eBf cInt (aCons (eVar 2) aNil)) (eC (.int 4))) aNil))))) (sSeq (sSet 5 (eCall 3 F__law_drawn (aCons (eVar 3) (aCons (eVar 2) (aCons (eOp dMod (eOp dDiv (eBf cInt (aCons (eVar 2) aNil)) (eC (.int 4))) (eC (.int 4))) aNil))))) (sSeq (sIf (tOr (tNt (tT (eCall 2 F__law_pair_right (aCons (eVar 4) (aCons (eVar 5) aNil))))) (tOr (tNt (tT (eCall 2 F__law_pair_right (aCons (eVar 5) (aCons (eVar 4) aNil))))) (tNt (tT (eCall 2 F__law_pair_right (aCons (eVar 4) (aCons (eVar 4) aNil))))))) (sRet (eC (.bool false))) sNx) (sSeq (sIf (tAn (tCm dNe (eVar 3) (eC (.int 0))) (tNt (tT (eCall 3 F__law_is (aCons (eCall 2 F_make (aCons (eVar 2) (aCons (eVar 3) aNil))) (aCons (eVar 2) (aCons (eVar 3) aNil))))))) (sRet (eC (.bool false))) sNx) (sSeq (sIf (tOr (tNt (tT (eCall 3 F__law_is (aCons (eCallD 2 F_make [.int 1] (aCons (eVar 2) aNil)) (aCons (eVar 2) (aCons (eC (.int 1)) aNil)))))) (tNt (tT (eCall 3 F__law_is (aCons (eCallK F_make (aCons (eVar 2) aNil) (aCons (eUn dNeg (eC (.int 3))) aNil)) (aCons (eUn dNeg (eVar 2)) (aCons (eC (.int 3)) aNil))))))) (sRet (eC (.bool false))) sNx) (sIf (tOr (tNt (tT (eCall 3 F__law_is (aCons (eCall 1 F_of (aCons (eVar 2) aNil)) (aCons (eVar 2) (aCons (eC (.int 1)) aNil)))))) (tNt (tT (eCall 2 F__law_refused (aCons (eVar 2) (aCons (eOp dMod (eBf cInt (aCons (eVar 3) aNil)) (eC (.int 2))) aNil)))))) (sRet (eC (.bool false))) sNx))))))))
theorem fdiv_le {c : Int} {k : Int} (h : 0 < k) : (c.fdiv k).natAbs ≤ c.natAbs := by
  rw [Int.fdiv_eq_ediv_of_nonneg c (Int.le_of_lt h)]
  exact Int.natAbs_ediv_le_natAbs c k
theorem step (ns : List Int) : ∀ (d : PyData) (env : PD.Env), (∃ k : Nat, d = .int k) → (∃ x1 x2 x3 x4 x5, env = [some (.fz (.list (ns.map .int))), x1, x2, x3, x4, x5]) →
    ∃ e1, gN 1 d env = .ok e1 ∧ Keeps (fun env => ∃ x1 x2 x3 x4 x5, env = [some (.fz (.list (ns.map .int))), x1, x2, x3, x4, x5]) (lawB e1) := by
    intro d env hd he
    obtain ⟨k, rfl⟩ := hd
    obtain ⟨x1, x2, x3, x4, x5, rfl⟩ := he
    refine ⟨_, rfl, ?_⟩
    obtain ⟨c, ec, sc⟩ := cell_ok ns k
    obtain ⟨n, en, sn⟩ := cell_ok ns (k + 1)
    have en' : F__law_cell [.list (ns.map .int), .int ((k : Int) + 1)] = .ok (.int n) := en
    have sd : Sm 213 (c.fdiv 16) := sc.le (fdiv_le (by decide))
    obtain ⟨p, q, e1, h1⟩ := drawn_ok (c := c % 4) sd sn
    obtain ⟨p2, q2, e2, h2⟩ := drawn_ok (c := (c.fdiv 4) % 4) sn sc
    have d16 : divOk 16 = true := by decide +kernel
    have d4 : divOk 4 = true := by decide +kernel
    have k1 := pair_ok h1 h2
    have k2 := pair_ok h2 h1
    have k3 := pair_ok h1 h1
    have s1 : Sm 213 1 := sm_small (by decide) (by decide)
    have s3 : Sm 213 (-3) := sm_small (by decide) (by decide)
    have s33 : Sm 213 3 := sm_small (by decide) (by decide)
    obtain ⟨p3, q3, e3, l3⟩ := make_ok (a := c) (by decide : (1 : Int) ≠ 0) s1
    have i3 : F__law_is [rat p3 q3, .int c, .int 1] = .ok (.bool true) := is_ok (l3.rt sc s1) sc s1 l3.2.2.1
    obtain ⟨p4, q4, e4, l4⟩ := make_ok (a := c) (by decide : (-3 : Int) ≠ 0) s3
    have i4 : F__law_is [rat p4 q4, .int (-c), .int 3] = .ok (.bool true) := is_ok (l4.rt sc s3) sc.neg s33 (by have := l4.2.2.1; rw [Int.neg_mul]; omega)
    have i5 : F__law_is [rat c 1, .int c, .int 1] = .ok (.bool true) := is_ok (n := 213) ⟨by decide, Int.gcd_one_right .., sc, s1⟩ sc s1 rfl
    have i6 := refused_ok (c := n % 2) sc
    by_cases z : n = 0
    · subst z
      unfold lawB
      simp only [x_run, x_out_nx, x_out_rt, x_out_er, x_seq, x_seq_nx, x_seq_rt, x_seq_er, x_seq_ct, x_seq_bk, x_ofR_ok, x_ofR_er, x_nx, x_bk, x_ct, x_set, x_setL, x_ret, x_drop, x_retN, x_if, x_raise, x_var, x_gv0, x_gvS, x_gvo0, x_gvoS, x_gb, x_gb0, x_gbO, x_gbS, x_c, x_op, x_cm, x_un, x_bf, x_isi, x_ix, x_ixO, x_ofO_some, x_anil, x_acons, x_tup, x_lst, x_eL, x_tb, x_nt, x_an, x_or, x_ent, x_ean, x_eor, x_eif, x_tT, x_tV, x_tY, x_call, x_callD, x_callK, x_cd1, x_cd2, x_cd3, x_cd4, x_st0, x_stS, x_stN, x_wh, x_for, x_iseq, x_ir1, x_ir2, x_add, x_sub, x_neg, x_dcmp, x_eqI, x_neI, x_absI, x_intI, x_gcdI, x_maxI, x_minI, x_lenL, x_lenT, x_ixL, x_ixT, x_at0, x_at1, x_sz0, x_sz1, x_sz2, x_sz3, x_gN, x_forN, x_for0, x_fB_nx, x_fB_ct, x_fB_bk, x_fB_rt, x_fB_er, x_iTT, x_iTL, x_iTI, x_iLT, x_iLL, x_iII, x_iBI, x_iSS, x_iBB, x_truB, x_itT, x_itL, x_try, RO.bind_ok, RO.bind_er, RO.pure_ok, List.set_cons_zero, List.set_cons_succ, List.cons_append, List.nil_append, if_true, if_false, ite_true, ite_false, reduceIte, Bool.false_eq_true, Bool.true_eq_false, Bool.not_true, Bool.not_false, x_len1, and_self, decide_eq_true_eq, decide_true, decide_false, eq_self, Bool.not_eq_true', decide_eq_false_iff_not, not_true_eq_false, not_false_eq_true, ne_eq, ec, en', e1, e2, x_div d16, x_div d4, x_mod (by decide : (0 : Int) < 4), x_mod (by decide : (0 : Int) < 2), k1, k2, k3, e3, i3, e4, i4, of_eq, i5, i6]
      exact ⟨_, _, _, _, _, rfl⟩
    · obtain ⟨p7, q7, e7, l7⟩ := make_ok (a := c) z sn
      have i7 : F__law_is [rat p7 q7, .int c, .int n] = .ok (.bool true) := is_ok (l7.rt sc sn) sc sn l7.2.2.1
      unfold lawB
      simp only [x_run, x_out_nx, x_out_rt, x_out_er, x_seq, x_seq_nx, x_seq_rt, x_seq_er, x_seq_ct, x_seq_bk, x_ofR_ok, x_ofR_er, x_nx, x_bk, x_ct, x_set, x_setL, x_ret, x_drop, x_retN, x_if, x_raise, x_var, x_gv0, x_gvS, x_gvo0, x_gvoS, x_gb, x_gb0, x_gbO, x_gbS, x_c, x_op, x_cm, x_un, x_bf, x_isi, x_ix, x_ixO, x_ofO_some, x_anil, x_acons, x_tup, x_lst, x_eL, x_tb, x_nt, x_an, x_or, x_ent, x_ean, x_eor, x_eif, x_tT, x_tV, x_tY, x_call, x_callD, x_callK, x_cd1, x_cd2, x_cd3, x_cd4, x_st0, x_stS, x_stN, x_wh, x_for, x_iseq, x_ir1, x_ir2, x_add, x_sub, x_neg, x_dcmp, x_eqI, x_neI, x_absI, x_intI, x_gcdI, x_maxI, x_minI, x_lenL, x_lenT, x_ixL, x_ixT, x_at0, x_at1, x_sz0, x_sz1, x_sz2, x_sz3, x_gN, x_forN, x_for0, x_fB_nx, x_fB_ct, x_fB_bk, x_fB_rt, x_fB_er, x_iTT, x_iTL, x_iTI, x_iLT, x_iLL, x_iII, x_iBI, x_iSS, x_iBB, x_truB, x_itT, x_itL, x_try, RO.bind_ok, RO.bind_er, RO.pure_ok, List.set_cons_zero, List.set_cons_succ, List.cons_append, List.nil_append, if_true, if_false, ite_true, ite_false, reduceIte, Bool.false_eq_true, Bool.true_eq_false, Bool.not_true, Bool.not_false, x_len1, and_self, decide_eq_true_eq, decide_true, decide_false, eq_self, Bool.not_eq_true', decide_eq_false_iff_not, not_true_eq_false, not_false_eq_true, ne_eq, ec, en', e1, e2, x_div d16, x_div d4, x_mod (by decide : (0 : Int) < 4), x_mod (by decide : (0 : Int) < 2), k1, k2, k3, e3, i3, e4, i4, of_eq, i5, i6, z, e7, i7]
      exact ⟨_, _, _, _, _, rfl⟩
theorem law_true (ns : List Int) (hl : ns.length ≤ 63) (_hb : ∀ z ∈ ns, Builtin.Int.intBits z ≤ 1048576) : F_law [.list (ns.map .int)] = .ok (.bool true) := by
  unfold F_law B_law
  have r1 := refused_ok (a := 0) (c := 0) (sm_small (by decide) (by decide))
  have r2 := refused_ok (a := 0) (c := 1) (sm_small (by decide) (by decide))
  simp only [x_run, x_out_nx, x_out_rt, x_out_er, x_seq, x_seq_nx, x_seq_rt, x_seq_er, x_seq_ct, x_seq_bk, x_ofR_ok, x_ofR_er, x_nx, x_bk, x_ct, x_set, x_setL, x_ret, x_drop, x_retN, x_if, x_raise, x_var, x_gv0, x_gvS, x_gvo0, x_gvoS, x_gb, x_gb0, x_gbO, x_gbS, x_c, x_op, x_cm, x_un, x_bf, x_isi, x_ix, x_ixO, x_ofO_some, x_anil, x_acons, x_tup, x_lst, x_eL, x_tb, x_nt, x_an, x_or, x_ent, x_ean, x_eor, x_eif, x_tT, x_tV, x_tY, x_call, x_callD, x_callK, x_cd1, x_cd2, x_cd3, x_cd4, x_st0, x_stS, x_stN, x_wh, x_for, x_iseq, x_ir1, x_ir2, x_add, x_sub, x_neg, x_dcmp, x_eqI, x_neI, x_absI, x_intI, x_gcdI, x_maxI, x_minI, x_lenL, x_lenT, x_ixL, x_ixT, x_at0, x_at1, x_sz0, x_sz1, x_sz2, x_sz3, x_gN, x_forN, x_for0, x_fB_nx, x_fB_ct, x_fB_bk, x_fB_rt, x_fB_er, x_iTT, x_iTL, x_iTI, x_iLT, x_iLL, x_iII, x_iBI, x_iSS, x_iBB, x_truB, x_itT, x_itL, x_try, RO.bind_ok, RO.bind_er, RO.pure_ok, List.set_cons_zero, List.set_cons_succ, List.cons_append, List.nil_append, if_true, if_false, ite_true, ite_false, reduceIte, Bool.false_eq_true, Bool.true_eq_false, Bool.not_true, Bool.not_false, x_len1, and_self, decide_eq_true_eq, decide_true, decide_false, eq_self, Bool.not_eq_true', decide_eq_false_iff_not, not_true_eq_false, not_false_eq_true, ne_eq, List.length_map]
  rw [rng1_okI (by split <;> omega) (by split <;> omega)]
  generalize (if ((ns.length : Int) > 1) then (ns.length : Int) else 1).toNat = m
  simp only [x_run, x_out_nx, x_out_rt, x_out_er, x_seq, x_seq_nx, x_seq_rt, x_seq_er, x_seq_ct, x_seq_bk, x_ofR_ok, x_ofR_er, x_nx, x_bk, x_ct, x_set, x_setL, x_ret, x_drop, x_retN, x_if, x_raise, x_var, x_gv0, x_gvS, x_gvo0, x_gvoS, x_gb, x_gb0, x_gbO, x_gbS, x_c, x_op, x_cm, x_un, x_bf, x_isi, x_ix, x_ixO, x_ofO_some, x_anil, x_acons, x_tup, x_lst, x_eL, x_tb, x_nt, x_an, x_or, x_ent, x_ean, x_eor, x_eif, x_tT, x_tV, x_tY, x_call, x_callD, x_callK, x_cd1, x_cd2, x_cd3, x_cd4, x_st0, x_stS, x_stN, x_wh, x_for, x_iseq, x_ir1, x_ir2, x_add, x_sub, x_neg, x_dcmp, x_eqI, x_neI, x_absI, x_intI, x_gcdI, x_maxI, x_minI, x_lenL, x_lenT, x_ixL, x_ixT, x_at0, x_at1, x_sz0, x_sz1, x_sz2, x_sz3, x_gN, x_forN, x_for0, x_fB_nx, x_fB_ct, x_fB_bk, x_fB_rt, x_fB_er, x_iTT, x_iTL, x_iTI, x_iLT, x_iLL, x_iII, x_iBI, x_iSS, x_iBB, x_truB, x_itT, x_itL, x_try, RO.bind_ok, RO.bind_er, RO.pure_ok, List.set_cons_zero, List.set_cons_succ, List.cons_append, List.nil_append, if_true, if_false, ite_true, ite_false, reduceIte, Bool.false_eq_true, Bool.true_eq_false, Bool.not_true, Bool.not_false, x_len1, and_self, decide_eq_true_eq, decide_true, decide_false, eq_self, Bool.not_eq_true', decide_eq_false_iff_not, not_true_eq_false, not_false_eq_true, ne_eq]
  obtain ⟨env', e1, x1, x2, x3, x4, x5, rfl⟩ := forGo_keep (gg := gN 1) (fun d => ∃ k : Nat, d = .int k) (fun env => ∃ x1 x2 x3 x4 x5, env = [some (.fz (.list (ns.map .int))), x1, x2, x3, x4, x5]) (step ns) (rngItems 0 m) [some (.fz (.list (ns.map .int))), none, none, none, none, none] (fun d h => rng_mem h) ⟨_, _, _, _, _, rfl⟩
  unfold lawB at e1
  simp only [x_run, x_out_nx, x_out_rt, x_out_er, x_seq, x_seq_nx, x_seq_rt, x_seq_er, x_seq_ct, x_seq_bk, x_ofR_ok, x_ofR_er, x_nx, x_bk, x_ct, x_set, x_setL, x_ret, x_drop, x_retN, x_if, x_raise, x_var, x_gv0, x_gvS, x_gvo0, x_gvoS, x_gb, x_gb0, x_gbO, x_gbS, x_c, x_op, x_cm, x_un, x_bf, x_isi, x_ix, x_ixO, x_ofO_some, x_anil, x_acons, x_tup, x_lst, x_eL, x_tb, x_nt, x_an, x_or, x_ent, x_ean, x_eor, x_eif, x_tT, x_tV, x_tY, x_call, x_callD, x_callK, x_cd1, x_cd2, x_cd3, x_cd4, x_st0, x_stS, x_stN, x_wh, x_for, x_iseq, x_ir1, x_ir2, x_add, x_sub, x_neg, x_dcmp, x_eqI, x_neI, x_absI, x_intI, x_gcdI, x_maxI, x_minI, x_lenL, x_lenT, x_ixL, x_ixT, x_at0, x_at1, x_sz0, x_sz1, x_sz2, x_sz3, x_gN, x_forN, x_for0, x_fB_nx, x_fB_ct, x_fB_bk, x_fB_rt, x_fB_er, x_iTT, x_iTL, x_iTI, x_iLT, x_iLL, x_iII, x_iBI, x_iSS, x_iBB, x_truB, x_itT, x_itL, x_try, RO.bind_ok, RO.bind_er, RO.pure_ok, List.set_cons_zero, List.set_cons_succ, List.cons_append, List.nil_append, if_true, if_false, ite_true, ite_false, reduceIte, Bool.false_eq_true, Bool.true_eq_false, Bool.not_true, Bool.not_false, x_len1, and_self, decide_eq_true_eq, decide_true, decide_false, eq_self, Bool.not_eq_true', decide_eq_false_iff_not, not_true_eq_false, not_false_eq_true, ne_eq, e1, r1, r2]
end KM
set_option Elab.async false
set_option linter.all false
set_option maxRecDepth 100000
set_option maxHeartbeats 4000000
namespace KM
open PySem PySem.Spec PyProof.Rows L2 PD
def topS (i : Nat) : Stmt := PySem.Challenge.pw_kinkmeasure_k01_arithmetic_is_exact.main.body.getD i (.Pass ⟨0, 0, 0, 0⟩)
abbrev s_make : Stmt := topS 6
theorem sc_make : FnScope ["above", "below", "shared"] ["above", "below"] (defScope s_make) := ⟨rfl, rfl, rfl, by decide +kernel, rfl, by decide +kernel, by decide +kernel⟩
abbrev s_of : Stmt := topS 7
theorem sc_of : FnScope ["integer"] ["integer"] (defScope s_of) := ⟨rfl, rfl, rfl, by decide +kernel, rfl, by decide +kernel, by decide +kernel⟩
abbrev s_add : Stmt := topS 8
theorem sc_add : FnScope ["one", "other"] ["one", "other"] (defScope s_add) := ⟨rfl, rfl, rfl, by decide +kernel, rfl, by decide +kernel, by decide +kernel⟩
abbrev s_subtract : Stmt := topS 9
theorem sc_subtract : FnScope ["one", "other"] ["one", "other"] (defScope s_subtract) := ⟨rfl, rfl, rfl, by decide +kernel, rfl, by decide +kernel, by decide +kernel⟩
abbrev s_multiply : Stmt := topS 10
theorem sc_multiply : FnScope ["one", "other"] ["one", "other"] (defScope s_multiply) := ⟨rfl, rfl, rfl, by decide +kernel, rfl, by decide +kernel, by decide +kernel⟩
abbrev s_divide : Stmt := topS 11
theorem sc_divide : FnScope ["one", "other"] ["one", "other"] (defScope s_divide) := ⟨rfl, rfl, rfl, by decide +kernel, rfl, by decide +kernel, by decide +kernel⟩
abbrev s_negative : Stmt := topS 12
theorem sc_negative : FnScope ["ratio"] ["ratio"] (defScope s_negative) := ⟨rfl, rfl, rfl, by decide +kernel, rfl, by decide +kernel, by decide +kernel⟩
abbrev s_absolute : Stmt := topS 13
theorem sc_absolute : FnScope ["ratio"] ["ratio"] (defScope s_absolute) := ⟨rfl, rfl, rfl, by decide +kernel, rfl, by decide +kernel, by decide +kernel⟩
abbrev s__law_cell : Stmt := topS 15
theorem sc__law_cell : FnScope ["script", "k", "cell"] ["script", "k"] (defScope s__law_cell) := ⟨rfl, rfl, rfl, by decide +kernel, rfl, by decide +kernel, by decide +kernel⟩
abbrev s__law_common : Stmt := topS 16
theorem sc__law_common : FnScope ["one", "other", "rest"] ["one", "other"] (defScope s__law_common) := ⟨rfl, rfl, rfl, by decide +kernel, rfl, by decide +kernel, by decide +kernel⟩
abbrev s__law_lowest : Stmt := topS 17
theorem sc__law_lowest : FnScope ["above", "below", "common"] ["above", "below"] (defScope s__law_lowest) := ⟨rfl, rfl, rfl, by decide +kernel, rfl, by decide +kernel, by decide +kernel⟩
abbrev s__law_is_ratio : Stmt := topS 18
theorem sc__law_is_ratio : FnScope ["value", "part"] ["value"] (defScope s__law_is_ratio) := ⟨rfl, rfl, rfl, by decide +kernel, rfl, by decide +kernel, by decide +kernel⟩
abbrev s__law_drawn : Stmt := topS 19
theorem sc__law_drawn : FnScope ["one", "other", "choice"] ["one", "other", "choice"] (defScope s__law_drawn) := ⟨rfl, rfl, rfl, by decide +kernel, rfl, by decide +kernel, by decide +kernel⟩
abbrev s__law_is : Stmt := topS 20
theorem sc__law_is : FnScope ["actual", "above", "below"] ["actual", "above", "below"] (defScope s__law_is) := ⟨rfl, rfl, rfl, by decide +kernel, rfl, by decide +kernel, by decide +kernel⟩
abbrev s__law_refused : Stmt := topS 21
theorem sc__law_refused : FnScope ["one", "choice", "e"] ["one", "choice"] (defScope s__law_refused) := ⟨rfl, rfl, rfl, by decide +kernel, rfl, by decide +kernel, by decide +kernel⟩
abbrev s__law_pair_right : Stmt := topS 22
theorem sc__law_pair_right : FnScope ["one", "other"] ["one", "other"] (defScope s__law_pair_right) := ⟨rfl, rfl, rfl, by decide +kernel, rfl, by decide +kernel, by decide +kernel⟩
abbrev s_law : Stmt := topS 23
theorem sc_law : FnScope ["script", "k", "cell", "near", "one", "other"] ["script"] (defScope s_law) := ⟨rfl, rfl, rfl, by decide +kernel, rfl, by decide +kernel, by decide +kernel⟩
section
variable {P : Program} {w : World} {K : PySem.W.Frag} {mg : Str → Option Value} {base : Heap}
theorem ok_make {a_ByZero : Addr} {f : Addr} {fd : FuncData} (Fn : FunD K "make" "make" (defArgs s_make) (defBody s_make) (defScope s_make) [.int 1] [] f fd) (hm : mg "make" = some (.ref f)) (m_gcd : mg "gcd" = some (.builtin "math.gcd")) (x_ByZero : XC K mg "ByZero" a_ByZero) : Dfn1 P w K mg base "make" 1 "below" 1 F_make :=
  dfn1_of (B := B_make) Fn sc_make hm (fun _ _ _ _ _ _ _ _ _ => ⟨_, rfl, fun _ => rfl⟩) (fun _ _ _ _ _ _ _ _ => ⟨_, rfl, fun _ => rfl⟩) (fun _ _ _ _ _ _ _ _ _ => ⟨_, rfl, fun _ => rfl⟩) fun cdv A outer s H E hr => (css_cons (cs_if (ct_cmp (bin_eq hr.units) (CE.cb (ce_var 1)) (CE.cb ce_int)) (css_one (cs_raise0 rfl tk0 PySem.F.excBase_ValueError x_ByZero.xx x_ByZero.gg x_ByZero.kk (raises_own x_ByZero.bb x_ByZero.tt) (by rfl))) css_nil) (css_cons (cs_set (i := 2) sc_make.nd rfl (by first | exact .inl rfl | exact .inr rfl) (c_gcd (by rfl) m_gcd (ca_cons (ce_var 0) (ca_cons (ce_var 1) ca_nil)))) (css_cons (cs_if (ct_cmp bin_lt (CE.cb (ce_var 1)) (CE.cb ce_int)) (css_one (cs_set (i := 2) sc_make.nd rfl (by first | exact .inl rfl | exact .inr rfl) (ce_un un_negD (ce_var 2)))) css_nil) (css_one (cs_ret (ce_tup (ca_cons (ce_op bin_div (ce_var 0) (ce_var 2)) (ca_cons (ce_op bin_div (ce_var 1) (ce_var 2)) ca_nil))))))))
theorem ok_of {f : Addr} {fd : FuncData} (Fn : Fun K "of" "of" s_of f fd) (hb : Binds K fd ["integer"] []) (hm : mg "of" = some (.ref f))  : Dfn P w K mg base "of" 1 1 F_of :=
  dfn_of (B := B_of) Fn sc_of hb hm fun cdv A outer s H E hr => (css_one (cs_ret (ce_tup (ca_cons (ce_var 0) (ca_cons ce_int ca_nil)))))
theorem ok_add {f : Addr} {fd : FuncData} (Fn : Fun K "add" "add" s_add f fd) (hb : Binds K fd ["one", "other"] []) (hm : mg "add" = some (.ref f)) (D_make : Dfn1 P w K mg base "make" 1 "below" 1 F_make) : Dfn P w K mg base "add" 2 2 F_add :=
  dfn_of (B := B_add) Fn sc_add hb hm fun cdv A outer s H E hr => (css_one (cs_ret (c_call D_make.full hr (by first | decide | omega) tk0 (by rfl) (ca_cons (ce_op bin_add (ce_op bin_mul (ce_ix (ce_var 0) ce_int) (ce_ix (ce_var 1) ce_int)) (ce_op bin_mul (ce_ix (ce_var 1) ce_int) (ce_ix (ce_var 0) ce_int))) (ca_cons (ce_op bin_mul (ce_ix (ce_var 0) ce_int) (ce_ix (ce_var 1) ce_int)) ca_nil)))))
theorem ok_subtract {f : Addr} {fd : FuncData} (Fn : Fun K "subtract" "subtract" s_subtract f fd) (hb : Binds K fd ["one", "other"] []) (hm : mg "subtract" = some (.ref f)) (D_make : Dfn1 P w K mg base "make" 1 "below" 1 F_make) : Dfn P w K mg base "subtract" 2 2 F_subtract :=
  dfn_of (B := B_subtract) Fn sc_subtract hb hm fun cdv A outer s H E hr => (css_one (cs_ret (c_call D_make.full hr (by first | decide | omega) tk0 (by rfl) (ca_cons (ce_op bin_sub (ce_op bin_mul (ce_ix (ce_var 0) ce_int) (ce_ix (ce_var 1) ce_int)) (ce_op bin_mul (ce_ix (ce_var 1) ce_int) (ce_ix (ce_var 0) ce_int))) (ca_cons (ce_op bin_mul (ce_ix (ce_var 0) ce_int) (ce_ix (ce_var 1) ce_int)) ca_nil)))))
theorem ok_multiply {f : Addr} {fd : FuncData} (Fn : Fun K "multiply" "multiply" s_multiply f fd) (hb : Binds K fd ["one", "other"] []) (hm : mg "multiply" = some (.ref f)) (D_make : Dfn1 P w K mg base "make" 1 "below" 1 F_make) : Dfn P w K mg base "multiply" 2 2 F_multiply :=
  dfn_of (B := B_multiply) Fn sc_multiply hb hm fun cdv A outer s H E hr => (css_one (cs_ret (c_call D_make.full hr (by first | decide | omega) tk0 (by rfl) (ca_cons (ce_op bin_mul (ce_ix (ce_var 0) ce_int) (ce_ix (ce_var 1) ce_int)) (ca_cons (ce_op bin_mul (ce_ix (ce_var 0) ce_int) (ce_ix (ce_var 1) ce_int)) ca_nil)))))
theorem ok_divide {f : Addr} {fd : FuncData} (Fn : Fun K "divide" "divide" s_divide f fd) (hb : Binds K fd ["one", "other"] []) (hm : mg "divide" = some (.ref f)) (D_make : Dfn1 P w K mg base "make" 1 "below" 1 F_make) : Dfn P w K mg base "divide" 2 2 F_divide :=
  dfn_of (B := B_divide) Fn sc_divide hb hm fun cdv A outer s H E hr => (css_one (cs_ret (c_call D_make.full hr (by first | decide | omega) tk0 (by rfl) (ca_cons (ce_op bin_mul (ce_ix (ce_var 0) ce_int) (ce_ix (ce_var 1) ce_int)) (ca_cons (ce_op bin_mul (ce_ix (ce_var 0) ce_int) (ce_ix (ce_var 1) ce_int)) ca_nil)))))
theorem ok_negative {f : Addr} {fd : FuncData} (Fn : Fun K "negative" "negative" s_negative f fd) (hb : Binds K fd ["ratio"] []) (hm : mg "negative" = some (.ref f))  : Dfn P w K mg base "negative" 1 1 F_negative :=
  dfn_of (B := B_negative) Fn sc_negative hb hm fun cdv A outer s H E hr => (css_one (cs_ret (ce_tup (ca_cons (ce_un un_negD (ce_ix (ce_var 0) ce_int)) (ca_cons (ce_ix (ce_var 0) ce_int) ca_nil)))))
theorem ok_absolute {f : Addr} {fd : FuncData} (Fn : Fun K "absolute" "absolute" s_absolute f fd) (hb : Binds K fd ["ratio"] []) (hm : mg "absolute" = some (.ref f)) (m_abs : mg "abs" = none) : Dfn P w K mg base "absolute" 1 1 F_absolute :=
  dfn_of (B := B_absolute) Fn sc_absolute hb hm fun cdv A outer s H E hr => (css_one (cs_ret (ce_tup (ca_cons (c_abs (by rfl) m_abs (ca_cons (ce_ix (ce_var 0) ce_int) ca_nil)) (ca_cons (ce_ix (ce_var 0) ce_int) ca_nil)))))
theorem ok__law_cell {f : Addr} {fd : FuncData} (Fn : Fun K "_law_cell" "_law_cell" s__law_cell f fd) (hb : Binds K fd ["script", "k"] []) (hm : mg "_law_cell" = some (.ref f)) (m_abs : mg "abs" = none) (m_int : mg "int" = none) (m_len : mg "len" = none) : Dfn P w K mg base "_law_cell" 1 2 F__law_cell :=
  dfn_of (B := B__law_cell) Fn sc__law_cell hb hm fun cdv A outer s H E hr => (css_cons (cs_set (i := 2) sc__law_cell.nd rfl (by first | exact .inl rfl | exact .inr rfl) (ce_if (ct_cmp bin_lt (CE.cb (ce_var 1)) (CE.cb (c_len (by rfl) m_len (ca_cons (ce_var 0) ca_nil)))) (c_int (by rfl) m_int (ca_cons (ce_ix (ce_var 0) (ce_var 1)) ca_nil)) ce_int)) (css_one (cs_ret (ce_if (ct_cmp bin_lt (CE.cb (c_abs (by rfl) m_abs (ca_cons (ce_var 2) ca_nil))) (CE.cb (ce_op bin_pow ce_int ce_int))) (ce_var 2) (ce_op bin_mod (c_int (by rfl) m_int (ca_cons (ce_var 2) ca_nil)) (ce_op bin_pow ce_int ce_int))))))
theorem ok__law_common {f : Addr} {fd : FuncData} (Fn : Fun K "_law_common" "_law_common" s__law_common f fd) (hb : Binds K fd ["one", "other"] []) (hm : mg "_law_common" = some (.ref f)) (m_abs : mg "abs" = none) (m_int : mg "int" = none) : Dfn P w K mg base "_law_common" 1 2 F__law_common :=
  dfn_of (B := B__law_common) Fn sc__law_common hb hm fun cdv A outer s H E hr => (css_cons (cs_set (i := 0) sc__law_common.nd rfl (by first | exact .inl rfl | exact .inr rfl) (c_abs (by rfl) m_abs (ca_cons (ce_var 0) ca_nil))) (css_cons (cs_set (i := 1) sc__law_common.nd rfl (by first | exact .inl rfl | exact .inr rfl) (c_abs (by rfl) m_abs (ca_cons (ce_var 1) ca_nil))) (css_cons (cs_while WH ps0 (ct_cmp bin_gt (CE.cb (ce_var 1)) (CE.cb ce_int)) (css_cons (cs_set (i := 2) sc__law_common.nd rfl (by first | exact .inl rfl | exact .inr rfl) (ce_op bin_mod (c_int (by rfl) m_int (ca_cons (ce_var 0) ca_nil)) (ce_var 1))) (css_cons (cs_set (i := 0) sc__law_common.nd rfl (by first | exact .inl rfl | exact .inr rfl) (ce_var 1)) (css_one (cs_set (i := 1) sc__law_common.nd rfl (by first | exact .inl rfl | exact .inr rfl) (ce_var 2)))))) (css_one (cs_ret (ce_var 0))))))
theorem ok__law_lowest {f : Addr} {fd : FuncData} (Fn : Fun K "_law_lowest" "_law_lowest" s__law_lowest f fd) (hb : Binds K fd ["above", "below"] []) (hm : mg "_law_lowest" = some (.ref f)) (D__law_common : Dfn P w K mg base "_law_common" 1 2 F__law_common) : Dfn P w K mg base "_law_lowest" 2 2 F__law_lowest :=
  dfn_of (B := B__law_lowest) Fn sc__law_lowest hb hm fun cdv A outer s H E hr => (css_cons (cs_if (ct_cmp bin_lt (CE.cb (ce_var 1)) (CE.cb ce_int)) (css_cons (cs_set (i := 0) sc__law_lowest.nd rfl (by first | exact .inl rfl | exact .inr rfl) (ce_un un_negD (ce_var 0))) (css_one (cs_set (i := 1) sc__law_lowest.nd rfl (by first | exact .inl rfl | exact .inr rfl) (ce_un un_negD (ce_var 1))))) css_nil) (css_cons (cs_set (i := 2) sc__law_lowest.nd rfl (by first | exact .inl rfl | exact .inr rfl) (c_call D__law_common hr (by first | decide | omega) tk0 (by rfl) (ca_cons (ce_var 0) (ca_cons (ce_var 1) ca_nil)))) (css_one (cs_ret (ce_tup (ca_cons (ce_op bin_div (ce_var 0) (ce_var 2)) (ca_cons (ce_op bin_div (ce_var 1) (ce_var 2)) ca_nil)))))))
theorem ok__law_is_ratio {f : Addr} {fd : FuncData} (Fn : Fun K "_law_is_ratio" "_law_is_ratio" s__law_is_ratio f fd) (hb : Binds K fd ["value"] []) (hm : mg "_law_is_ratio" = some (.ref f)) (D__law_common : Dfn P w K mg base "_law_common" 1 2 F__law_common) (m_bool : mg "bool" = none) (m_int : mg "int" = none) (m_isinstance : mg "isinstance" = none) (m_len : mg "len" = none) (m_tuple : mg "tuple" = none) : Dfn P w K mg base "_law_is_ratio" 2 1 F__law_is_ratio :=
  dfn_of (B := B__law_is_ratio) Fn sc__law_is_ratio hb hm fun cdv A outer s H E hr => (css_cons (cs_if (CW.ct (cw_or (ct_not (ct_tru (CE.cb (c_isi_tuple (by rfl) m_isinstance (by rfl) m_tuple (CE.cb (ce_var 0)))))) (cw_or1 (ct_cmp (bin_ne hr.units) (CE.cb (c_len (by rfl) m_len (ca_cons (ce_var 0) ca_nil))) (CE.cb ce_int))))) (css_one (cs_ret ce_bl)) css_nil) (css_cons (cs_for ps0 rfl (ci_seq (ce_var 0)) (cg_name 1 sc__law_is_ratio.nd rfl (by first | exact .inl rfl | exact .inr rfl)) (css_one (cs_if (CW.ct (cw_or (ct_not (ct_tru (CE.cb (c_isi_int (by rfl) m_isinstance (by rfl) m_int (CE.cb (ce_var 1)))))) (cw_or1 (ct_tru (CE.cb (c_isi_bool (by rfl) m_isinstance (by rfl) m_bool (CE.cb (ce_var 1)))))))) (css_one (cs_ret ce_bl)) css_nil))) (css_one (cs_ret (ce_and (ce_cmp bin_gt (CE.cb (ce_ix (ce_var 0) ce_int)) (CE.cb ce_int)) (ce_one (ce_cmp (bin_eq hr.units) (CE.cb (c_call D__law_common hr (by first | decide | omega) tk0 (by rfl) (ca_cons (ce_ix (ce_var 0) ce_int) (ca_cons (ce_ix (ce_var 0) ce_int) ca_nil)))) (CE.cb ce_int))))))))
theorem ok__law_drawn {f : Addr} {fd : FuncData} (Fn : Fun K "_law_drawn" "_law_drawn" s__law_drawn f fd) (hb : Binds K fd ["one", "other", "choice"] []) (hm : mg "_law_drawn" = some (.ref f)) (D__law_lowest : Dfn P w K mg base "_law_lowest" 2 2 F__law_lowest) (m_abs : mg "abs" = none) (m_int : mg "int" = none) : Dfn P w K mg base "_law_drawn" 3 3 F__law_drawn :=
  dfn_of (B := B__law_drawn) Fn sc__law_drawn hb hm fun cdv A outer s H E hr => (css_cons (cs_if (ct_cmp (bin_eq hr.units) (CE.cb (ce_var 2)) (CE.cb ce_int)) (css_one (cs_ret (ce_tup (ca_cons ce_int (ca_cons ce_int ca_nil))))) css_nil) (css_cons (cs_if (ct_cmp (bin_eq hr.units) (CE.cb (ce_var 2)) (CE.cb ce_int)) (css_one (cs_ret (ce_tup (ca_cons (ce_var 0) (ca_cons ce_int ca_nil))))) css_nil) (css_cons (cs_if (ct_cmp (bin_eq hr.units) (CE.cb (ce_var 2)) (CE.cb ce_int)) (css_one (cs_ret (c_call D__law_lowest hr (by first | decide | omega) tk0 (by rfl) (ca_cons (ce_op bin_sub (ce_op bin_mod (c_int (by rfl) m_int (ca_cons (ce_var 0) ca_nil)) ce_int) ce_int) (ca_cons (ce_op bin_add ce_int (ce_op bin_mod (c_int (by rfl) m_int (ca_cons (ce_var 1) ca_nil)) ce_int)) ca_nil))))) css_nil) (css_one (cs_ret (c_call D__law_lowest hr (by first | decide | omega) tk0 (by rfl) (ca_cons (ce_var 0) (ca_cons (ce_op bin_add ce_int (c_abs (by rfl) m_abs (ca_cons (ce_var 1) ca_nil))) ca_nil))))))))
theorem ok__law_is {f : Addr} {fd : FuncData} (Fn : Fun K "_law_is" "_law_is" s__law_is f fd) (hb : Binds K fd ["actual", "above", "below"] []) (hm : mg "_law_is" = some (.ref f)) (D__law_is_ratio : Dfn P w K mg base "_law_is_ratio" 2 1 F__law_is_ratio) : Dfn P w K mg base "_law_is" 3 3 F__law_is :=
  dfn_of (B := B__law_is) Fn sc__law_is hb hm fun cdv A outer s H E hr => (css_cons (cs_if (ct_not (ct_tru (CE.cb (c_call D__law_is_ratio hr (by first | decide | omega) tk0 (by rfl) (ca_cons (ce_var 0) ca_nil))))) (css_one (cs_ret ce_bl)) css_nil) (css_one (cs_ret (ce_cmp (bin_eq hr.units) (CE.cb (ce_op bin_mul (ce_ix (ce_var 0) ce_int) (ce_var 2))) (CE.cb (ce_op bin_mul (ce_var 1) (ce_ix (ce_var 0) ce_int)))))))
theorem mt__law_refused {a_ByZero : Addr} (x_ByZero : XC K mg "ByZero" a_ByZero) (q_ByZero_ByZero : PySem.W.exmOne K (.ref a_ByZero) (.ref a_ByZero) = some true) : ∀ c b, mtc__law_refused c = some b → ∀ C, mg c = some C → PySem.W.exmOne K C (.ref a_ByZero) = some b := by
  intro c b h C hC
  unfold mtc__law_refused at h
  by_cases e_ByZero : c = "ByZero"
  · rw [if_pos e_ByZero] at h
    subst e_ByZero
    cases h
    cases x_ByZero.gg.symm.trans hC
    exact q_ByZero_ByZero
  rw [if_neg e_ByZero] at h
  cases h
theorem ok__law_refused {a_BadRatio a_ByZero a_KinkError : Addr} {f : Addr} {fd : FuncData} (Fn : Fun K "_law_refused" "_law_refused" s__law_refused f fd) (hb : Binds K fd ["one", "choice"] []) (hm : mg "_law_refused" = some (.ref f)) (D__law_lowest : Dfn P w K mg base "_law_lowest" 2 2 F__law_lowest) (D_divide : Dfn P w K mg base "divide" 2 2 F_divide) (D_make : Dfn1 P w K mg base "make" 1 "below" 1 F_make) (m_isinstance : mg "isinstance" = none) (x_BadRatio : XC K mg "BadRatio" a_BadRatio) (x_ByZero : XC K mg "ByZero" a_ByZero) (x_KinkError : XC K mg "KinkError" a_KinkError) (q_ByZero_ByZero : PySem.W.exmOne K (.ref a_ByZero) (.ref a_ByZero) = some true) (e_ByZero : ExcC K a_ByZero) (i_ByZero_KinkError : PySem.W.kitOne K (.ref a_ByZero) (.ref a_KinkError) = some true) (i_ByZero_BadRatio : PySem.W.kitOne K (.ref a_ByZero) (.ref a_BadRatio) = some false) : Dfn P w K mg base "_law_refused" 3 2 F__law_refused :=
  dfn_of (B := B__law_refused) Fn sc__law_refused hb hm fun cdv A outer s H E hr => (css_cons (cs_try_as (i := 2) rfl rfl sc__law_refused.nd rfl rfl ⟨by rfl, by decide, .inl x_ByZero.gg⟩ tk0 (fun _ _ _ htk hps => (css_one (cs_if (ct_cmp (bin_eq hr.units) (CE.cb (ce_var 1)) (CE.cb ce_int)) (css_one (cs_expr (c_call D_make.full hr (by first | decide | omega) htk (by rfl) (ca_cons (ce_var 0) (ca_cons ce_int ca_nil))))) (css_one (cs_expr (c_call D_divide hr (by first | decide | omega) htk (by rfl) (ca_cons (c_call D__law_lowest hr (by first | decide | omega) htk (by rfl) (ca_cons (ce_var 0) (ca_cons ce_int ca_nil))) (ca_cons (ce_tup (ca_cons ce_int (ca_cons ce_int ca_nil))) ca_nil)))))))) (fun _ _ _ _ _ hz hf => (cx_and (cx_is0 e_ByZero x_ByZero.gg hz hf (by rfl) m_isinstance rfl (.inl rfl) (by rfl) x_KinkError.gg i_ByZero_KinkError) (cx_one (cx_not (cx_is0 e_ByZero x_ByZero.gg hz hf (by rfl) m_isinstance rfl (.inl rfl) (by rfl) x_BadRatio.gg i_ByZero_BadRatio))))) (mt__law_refused x_ByZero q_ByZero_ByZero)) (css_one (cs_ret ce_bl)))
theorem ok__law_pair_right {f : Addr} {fd : FuncData} (Fn : Fun K "_law_pair_right" "_law_pair_right" s__law_pair_right f fd) (hb : Binds K fd ["one", "other"] []) (hm : mg "_law_pair_right" = some (.ref f)) (D__law_is : Dfn P w K mg base "_law_is" 3 3 F__law_is) (D_absolute : Dfn P w K mg base "absolute" 1 1 F_absolute) (D_add : Dfn P w K mg base "add" 2 2 F_add) (D_divide : Dfn P w K mg base "divide" 2 2 F_divide) (D_multiply : Dfn P w K mg base "multiply" 2 2 F_multiply) (D_negative : Dfn P w K mg base "negative" 1 1 F_negative) (D_subtract : Dfn P w K mg base "subtract" 2 2 F_subtract) (m_abs : mg "abs" = none) : Dfn P w K mg base "_law_pair_right" 4 2 F__law_pair_right :=
  dfn_of (B := B__law_pair_right) Fn sc__law_pair_right hb hm fun cdv A outer s H E hr => (css_cons (cs_if (ct_not (ct_tru (CE.cb (c_call D__law_is hr (by first | decide | omega) tk0 (by rfl) (ca_cons (c_call D_add hr (by first | decide | omega) tk0 (by rfl) (ca_cons (ce_var 0) (ca_cons (ce_var 1) ca_nil))) (ca_cons (ce_op bin_add (ce_op bin_mul (ce_ix (ce_var 0) ce_int) (ce_ix (ce_var 1) ce_int)) (ce_op bin_mul (ce_ix (ce_var 1) ce_int) (ce_ix (ce_var 0) ce_int))) (ca_cons (ce_op bin_mul (ce_ix (ce_var 0) ce_int) (ce_ix (ce_var 1) ce_int)) ca_nil))))))) (css_one (cs_ret ce_bl)) css_nil) (css_cons (cs_if (ct_not (ct_tru (CE.cb (c_call D__law_is hr (by first | decide | omega) tk0 (by rfl) (ca_cons (c_call D_subtract hr (by first | decide | omega) tk0 (by rfl) (ca_cons (ce_var 0) (ca_cons (ce_var 1) ca_nil))) (ca_cons (ce_op bin_sub (ce_op bin_mul (ce_ix (ce_var 0) ce_int) (ce_ix (ce_var 1) ce_int)) (ce_op bin_mul (ce_ix (ce_var 1) ce_int) (ce_ix (ce_var 0) ce_int))) (ca_cons (ce_op bin_mul (ce_ix (ce_var 0) ce_int) (ce_ix (ce_var 1) ce_int)) ca_nil))))))) (css_one (cs_ret ce_bl)) css_nil) (css_cons (cs_if (ct_not (ct_tru (CE.cb (c_call D__law_is hr (by first | decide | omega) tk0 (by rfl) (ca_cons (c_call D_multiply hr (by first | decide | omega) tk0 (by rfl) (ca_cons (ce_var 0) (ca_cons (ce_var 1) ca_nil))) (ca_cons (ce_op bin_mul (ce_ix (ce_var 0) ce_int) (ce_ix (ce_var 1) ce_int)) (ca_cons (ce_op bin_mul (ce_ix (ce_var 0) ce_int) (ce_ix (ce_var 1) ce_int)) ca_nil))))))) (css_one (cs_ret ce_bl)) css_nil) (css_cons (cs_if (CW.ct (cw_and (ct_cmp (bin_ne hr.units) (CE.cb (ce_ix (ce_var 1) ce_int)) (CE.cb ce_int)) (cw_and1 (ct_not (ct_tru (CE.cb (c_call D__law_is hr (by first | decide | omega) tk0 (by rfl) (ca_cons (c_call D_divide hr (by first | decide | omega) tk0 (by rfl) (ca_cons (ce_var 0) (ca_cons (ce_var 1) ca_nil))) (ca_cons (ce_op bin_mul (ce_ix (ce_var 0) ce_int) (ce_ix (ce_var 1) ce_int)) (ca_cons (ce_op bin_mul (ce_ix (ce_var 0) ce_int) (ce_ix (ce_var 1) ce_int)) ca_nil)))))))))) (css_one (cs_ret ce_bl)) css_nil) (css_one (cs_ret (ce_and (c_call D__law_is hr (by first | decide | omega) tk0 (by rfl) (ca_cons (c_call D_negative hr (by first | decide | omega) tk0 (by rfl) (ca_cons (ce_var 0) ca_nil)) (ca_cons (ce_un un_negD (ce_ix (ce_var 0) ce_int)) (ca_cons (ce_ix (ce_var 0) ce_int) ca_nil)))) (ce_one (c_call D__law_is hr (by first | decide | omega) tk0 (by rfl) (ca_cons (c_call D_absolute hr (by first | decide | omega) tk0 (by rfl) (ca_cons (ce_var 0) ca_nil)) (ca_cons (c_abs (by rfl) m_abs (ca_cons (ce_ix (ce_var 0) ce_int) ca_nil)) (ca_cons (ce_ix (ce_var 0) ce_int) ca_nil))))))))))))
theorem ok_law {f : Addr} {fd : FuncData} (Fn : Fun K "law" "law" s_law f fd) (D__law_cell : Dfn P w K mg base "_law_cell" 1 2 F__law_cell) (D__law_drawn : Dfn P w K mg base "_law_drawn" 3 3 F__law_drawn) (D__law_is : Dfn P w K mg base "_law_is" 3 3 F__law_is) (D__law_pair_right : Dfn P w K mg base "_law_pair_right" 4 2 F__law_pair_right) (D__law_refused : Dfn P w K mg base "_law_refused" 3 2 F__law_refused) (D_make : Dfn1 P w K mg base "make" 1 "below" 1 F_make) (D_of : Dfn P w K mg base "of" 1 1 F_of) (m_int : mg "int" = none) (m_len : mg "len" = none) (m_max : mg "max" = none) (m_range : mg "range" = none) : FnOk P w K mg base (L2.CX P w) 5 f fd ["script"] (spD K mg 1 F_law) :=
  okD Fn sc_law B_law fun cdv A outer s H E hr => (css_cons (cs_for ps0 rfl (ci_range1 (c_max rfl (by rfl) m_max (ca_cons ce_int (ca_cons (c_len (by rfl) m_len (ca_cons (ce_var 0) ca_nil)) ca_nil))) (by rfl) m_range) (cg_name 1 sc_law.nd rfl (by first | exact .inl rfl | exact .inr rfl)) (css_cons (cs_set (i := 2) sc_law.nd rfl (by first | exact .inl rfl | exact .inr rfl) (c_call D__law_cell hr (by first | decide | omega) tk0 (by rfl) (ca_cons (ce_var 0) (ca_cons (ce_var 1) ca_nil)))) (css_cons (cs_set (i := 3) sc_law.nd rfl (by first | exact .inl rfl | exact .inr rfl) (c_call D__law_cell hr (by first | decide | omega) tk0 (by rfl) (ca_cons (ce_var 0) (ca_cons (ce_op bin_add (ce_var 1) ce_int) ca_nil)))) (css_cons (cs_set (i := 4) sc_law.nd rfl (by first | exact .inl rfl | exact .inr rfl) (c_call D__law_drawn hr (by first | decide | omega) tk0 (by rfl) (ca_cons (ce_op bin_div (ce_var 2) ce_int) (ca_cons (ce_var 3) (ca_cons (ce_op bin_mod (c_int (by rfl) m_int (ca_cons (ce_var 2) ca_nil)) ce_int) ca_nil))))) (css_cons (cs_set (i := 5) sc_law.nd rfl (by first | exact .inl rfl | exact .inr rfl) (c_call D__law_drawn hr (by first | decide | omega) tk0 (by rfl) (ca_cons (ce_var 3) (ca_cons (ce_var 2) (ca_cons (ce_op bin_mod (ce_op bin_div (c_int (by rfl) m_int (ca_cons (ce_var 2) ca_nil)) ce_int) ce_int) ca_nil))))) (css_cons (cs_if (CW.ct (cw_or (ct_not (ct_tru (CE.cb (c_call D__law_pair_right hr (by first | decide | omega) tk0 (by rfl) (ca_cons (ce_var 4) (ca_cons (ce_var 5) ca_nil)))))) (cw_or (ct_not (ct_tru (CE.cb (c_call D__law_pair_right hr (by first | decide | omega) tk0 (by rfl) (ca_cons (ce_var 5) (ca_cons (ce_var 4) ca_nil)))))) (cw_or1 (ct_not (ct_tru (CE.cb (c_call D__law_pair_right hr (by first | decide | omega) tk0 (by rfl) (ca_cons (ce_var 4) (ca_cons (ce_var 4) ca_nil)))))))))) (css_one (cs_ret ce_bl)) css_nil) (css_cons (cs_if (CW.ct (cw_and (ct_cmp (bin_ne hr.units) (CE.cb (ce_var 3)) (CE.cb ce_int)) (cw_and1 (ct_not (ct_tru (CE.cb (c_call D__law_is hr (by first | decide | omega) tk0 (by rfl) (ca_cons (c_call D_make.full hr (by first | decide | omega) tk0 (by rfl) (ca_cons (ce_var 2) (ca_cons (ce_var 3) ca_nil))) (ca_cons (ce_var 2) (ca_cons (ce_var 3) ca_nil)))))))))) (css_one (cs_ret ce_bl)) css_nil) (css_cons (cs_if (CW.ct (cw_or (ct_not (ct_tru (CE.cb (c_call D__law_is hr (by first | decide | omega) tk0 (by rfl) (ca_cons (c_call1 D_make hr (by first | decide | omega) tk0 (by rfl) (ca_cons (ce_var 2) ca_nil)) (ca_cons (ce_var 2) (ca_cons ce_int ca_nil))))))) (cw_or1 (ct_not (ct_tru (CE.cb (c_call D__law_is hr (by first | decide | omega) tk0 (by rfl) (ca_cons (c_callk D_make hr (by first | decide | omega) tk0 (by rfl) (ca_cons (ce_var 2) ca_nil) (ck_cons (ce_un un_negD ce_int) ck_nil)) (ca_cons (ce_un un_negD (ce_var 2)) (ca_cons ce_int ca_nil)))))))))) (css_one (cs_ret ce_bl)) css_nil) (css_one (cs_if (CW.ct (cw_or (ct_not (ct_tru (CE.cb (c_call D__law_is hr (by first | decide | omega) tk0 (by rfl) (ca_cons (c_call D_of hr (by first | decide | omega) tk0 (by rfl) (ca_cons (ce_var 2) ca_nil)) (ca_cons (ce_var 2) (ca_cons ce_int ca_nil))))))) (cw_or1 (ct_not (ct_tru (CE.cb (c_call D__law_refused hr (by first | decide | omega) tk0 (by rfl) (ca_cons (ce_var 2) (ca_cons (ce_op bin_mod (c_int (by rfl) m_int (ca_cons (ce_var 3) ca_nil)) ce_int) ca_nil))))))))) (css_one (cs_ret ce_bl)) css_nil)))))))))) (css_one (cs_ret (ce_and (c_call D__law_refused hr (by first | decide | omega) tk0 (by rfl) (ca_cons ce_int (ca_cons ce_int ca_nil))) (ce_one (c_call D__law_refused hr (by first | decide | omega) tk0 (by rfl) (ca_cons ce_int (ca_cons ce_int ca_nil))))))))
end
end KM
set_option Elab.async false
set_option linter.all false
set_option maxRecDepth 100000
set_option maxHeartbeats 4000000
namespace KM
open PySem PySem.Spec PyProof.Rows L2 PD
theorem all_mk {P : Program} {w : World} {K : PySem.W.Frag} {h : Heap} {mg : Str → Option Value} {fa : Addr} (X : K.In h) (G : h.Ns mainGlobals mg) (hfa : mg "law" = some (.ref fa))
    {f_make : Addr} {od_make an_make : Option Addr} {sl_make : Array (Option Value)} {oc_make kV_make dc_make pm_make cd_make ct_make : Value}
    {T_make : Addr} {oT_make : Value} {pT_make : Option Addr} {tT_make : Tok} {nT_make : Nat} {qT_make : Array (Option Value)}
    {f_of : Addr} {od_of an_of : Option Addr} {sl_of : Array (Option Value)} {oc_of kV_of dc_of pm_of cd_of ct_of : Value}
    {f_add : Addr} {od_add an_add : Option Addr} {sl_add : Array (Option Value)} {oc_add kV_add dc_add pm_add cd_add ct_add : Value}
    {f_subtract : Addr} {od_subtract an_subtract : Option Addr} {sl_subtract : Array (Option Value)} {oc_subtract kV_subtract dc_subtract pm_subtract cd_subtract ct_subtract : Value}
    {f_multiply : Addr} {od_multiply an_multiply : Option Addr} {sl_multiply : Array (Option Value)} {oc_multiply kV_multiply dc_multiply pm_multiply cd_multiply ct_multiply : Value}
    {f_divide : Addr} {od_divide an_divide : Option Addr} {sl_divide : Array (Option Value)} {oc_divide kV_divide dc_divide pm_divide cd_divide ct_divide : Value}
    {f_negative : Addr} {od_negative an_negative : Option Addr} {sl_negative : Array (Option Value)} {oc_negative kV_negative dc_negative pm_negative cd_negative ct_negative : Value}
    {f_absolute : Addr} {od_absolute an_absolute : Option Addr} {sl_absolute : Array (Option Value)} {oc_absolute kV_absolute dc_absolute pm_absolute cd_absolute ct_absolute : Value}
    {f__law_cell : Addr} {od__law_cell an__law_cell : Option Addr} {sl__law_cell : Array (Option Value)} {oc__law_cell kV__law_cell dc__law_cell pm__law_cell cd__law_cell ct__law_cell : Value}
    {f__law_common : Addr} {od__law_common an__law_common : Option Addr} {sl__law_common : Array (Option Value)} {oc__law_common kV__law_common dc__law_common pm__law_common cd__law_common ct__law_common : Value}
    {f__law_lowest : Addr} {od__law_lowest an__law_lowest : Option Addr} {sl__law_lowest : Array (Option Value)} {oc__law_lowest kV__law_lowest dc__law_lowest pm__law_lowest cd__law_lowest ct__law_lowest : Value}
    {f__law_is_ratio : Addr} {od__law_is_ratio an__law_is_ratio : Option Addr} {sl__law_is_ratio : Array (Option Value)} {oc__law_is_ratio kV__law_is_ratio dc__law_is_ratio pm__law_is_ratio cd__law_is_ratio ct__law_is_ratio : Value}
    {f__law_drawn : Addr} {od__law_drawn an__law_drawn : Option Addr} {sl__law_drawn : Array (Option Value)} {oc__law_drawn kV__law_drawn dc__law_drawn pm__law_drawn cd__law_drawn ct__law_drawn : Value}
    {f__law_is : Addr} {od__law_is an__law_is : Option Addr} {sl__law_is : Array (Option Value)} {oc__law_is kV__law_is dc__law_is pm__law_is cd__law_is ct__law_is : Value}
    {f__law_refused : Addr} {od__law_refused an__law_refused : Option Addr} {sl__law_refused : Array (Option Value)} {oc__law_refused kV__law_refused dc__law_refused pm__law_refused cd__law_refused ct__law_refused : Value}
    {f__law_pair_right : Addr} {od__law_pair_right an__law_pair_right : Option Addr} {sl__law_pair_right : Array (Option Value)} {oc__law_pair_right kV__law_pair_right dc__law_pair_right pm__law_pair_right cd__law_pair_right ct__law_pair_right : Value}
    {f_law : Addr} {od_law an_law : Option Addr} {sl_law : Array (Option Value)} {oc_law kV_law dc_law pm_law cd_law ct_law : Value}
    {a_BadRatio : Addr}
    {a_ByZero : Addr}
    {a_KinkError : Addr}
    (a_make : PySem.W.nsIn K mainGlobals "make" = some (some (.ref f_make)))
    (l_make : K.lookup f_make = some ⟨oc_make, od_make, .func (PySem.W.fnOf "make" "make" (defArgs s_make) (defBody s_make) (defScope s_make) (.ref T_make) kV_make dc_make pm_make an_make cd_make ct_make), sl_make⟩)
    (c_make : PySem.W.codeIn K cd_make "make" = true)
    (k_make : PySem.W.keepIn K (.ref f_make) = true)
    (t_make : K.lookup T_make = some ⟨oT_make, pT_make, .seq #[.int 1 tT_make] nT_make, qT_make⟩)
    (a_of : PySem.W.nsIn K mainGlobals "of" = some (some (.ref f_of)))
    (l_of : K.lookup f_of = some ⟨oc_of, od_of, .func (PySem.W.fnOf "of" "of" (defArgs s_of) (defBody s_of) (defScope s_of) .none kV_of dc_of pm_of an_of cd_of ct_of), sl_of⟩)
    (c_of : PySem.W.codeIn K cd_of "of" = true)
    (k_of : PySem.W.keepIn K (.ref f_of) = true)
    (a_add : PySem.W.nsIn K mainGlobals "add" = some (some (.ref f_add)))
    (l_add : K.lookup f_add = some ⟨oc_add, od_add, .func (PySem.W.fnOf "add" "add" (defArgs s_add) (defBody s_add) (defScope s_add) .none kV_add dc_add pm_add an_add cd_add ct_add), sl_add⟩)
    (c_add : PySem.W.codeIn K cd_add "add" = true)
    (k_add : PySem.W.keepIn K (.ref f_add) = true)
    (a_subtract : PySem.W.nsIn K mainGlobals "subtract" = some (some (.ref f_subtract)))
    (l_subtract : K.lookup f_subtract = some ⟨oc_subtract, od_subtract, .func (PySem.W.fnOf "subtract" "subtract" (defArgs s_subtract) (defBody s_subtract) (defScope s_subtract) .none kV_subtract dc_subtract pm_subtract an_subtract cd_subtract ct_subtract), sl_subtract⟩)
    (c_subtract : PySem.W.codeIn K cd_subtract "subtract" = true)
    (k_subtract : PySem.W.keepIn K (.ref f_subtract) = true)
    (a_multiply : PySem.W.nsIn K mainGlobals "multiply" = some (some (.ref f_multiply)))
    (l_multiply : K.lookup f_multiply = some ⟨oc_multiply, od_multiply, .func (PySem.W.fnOf "multiply" "multiply" (defArgs s_multiply) (defBody s_multiply) (defScope s_multiply) .none kV_multiply dc_multiply pm_multiply an_multiply cd_multiply ct_multiply), sl_multiply⟩)
    (c_multiply : PySem.W.codeIn K cd_multiply "multiply" = true)
    (k_multiply : PySem.W.keepIn K (.ref f_multiply) = true)
    (a_divide : PySem.W.nsIn K mainGlobals "divide" = some (some (.ref f_divide)))
    (l_divide : K.lookup f_divide = some ⟨oc_divide, od_divide, .func (PySem.W.fnOf "divide" "divide" (defArgs s_divide) (defBody s_divide) (defScope s_divide) .none kV_divide dc_divide pm_divide an_divide cd_divide ct_divide), sl_divide⟩)
    (c_divide : PySem.W.codeIn K cd_divide "divide" = true)
    (k_divide : PySem.W.keepIn K (.ref f_divide) = true)
    (a_negative : PySem.W.nsIn K mainGlobals "negative" = some (some (.ref f_negative)))
    (l_negative : K.lookup f_negative = some ⟨oc_negative, od_negative, .func (PySem.W.fnOf "negative" "negative" (defArgs s_negative) (defBody s_negative) (defScope s_negative) .none kV_negative dc_negative pm_negative an_negative cd_negative ct_negative), sl_negative⟩)
    (c_negative : PySem.W.codeIn K cd_negative "negative" = true)
    (k_negative : PySem.W.keepIn K (.ref f_negative) = true)
    (a_absolute : PySem.W.nsIn K mainGlobals "absolute" = some (some (.ref f_absolute)))
    (l_absolute : K.lookup f_absolute = some ⟨oc_absolute, od_absolute, .func (PySem.W.fnOf "absolute" "absolute" (defArgs s_absolute) (defBody s_absolute) (defScope s_absolute) .none kV_absolute dc_absolute pm_absolute an_absolute cd_absolute ct_absolute), sl_absolute⟩)
    (c_absolute : PySem.W.codeIn K cd_absolute "absolute" = true)
    (k_absolute : PySem.W.keepIn K (.ref f_absolute) = true)
    (a__law_cell : PySem.W.nsIn K mainGlobals "_law_cell" = some (some (.ref f__law_cell)))
    (l__law_cell : K.lookup f__law_cell = some ⟨oc__law_cell, od__law_cell, .func (PySem.W.fnOf "_law_cell" "_law_cell" (defArgs s__law_cell) (defBody s__law_cell) (defScope s__law_cell) .none kV__law_cell dc__law_cell pm__law_cell an__law_cell cd__law_cell ct__law_cell), sl__law_cell⟩)
    (c__law_cell : PySem.W.codeIn K cd__law_cell "_law_cell" = true)
    (k__law_cell : PySem.W.keepIn K (.ref f__law_cell) = true)
    (a__law_common : PySem.W.nsIn K mainGlobals "_law_common" = some (some (.ref f__law_common)))
    (l__law_common : K.lookup f__law_common = some ⟨oc__law_common, od__law_common, .func (PySem.W.fnOf "_law_common" "_law_common" (defArgs s__law_common) (defBody s__law_common) (defScope s__law_common) .none kV__law_common dc__law_common pm__law_common an__law_common cd__law_common ct__law_common), sl__law_common⟩)
    (c__law_common : PySem.W.codeIn K cd__law_common "_law_common" = true)
    (k__law_common : PySem.W.keepIn K (.ref f__law_common) = true)
    (a__law_lowest : PySem.W.nsIn K mainGlobals "_law_lowest" = some (some (.ref f__law_lowest)))
    (l__law_lowest : K.lookup f__law_lowest = some ⟨oc__law_lowest, od__law_lowest, .func (PySem.W.fnOf "_law_lowest" "_law_lowest" (defArgs s__law_lowest) (defBody s__law_lowest) (defScope s__law_lowest) .none kV__law_lowest dc__law_lowest pm__law_lowest an__law_lowest cd__law_lowest ct__law_lowest), sl__law_lowest⟩)
    (c__law_lowest : PySem.W.codeIn K cd__law_lowest "_law_lowest" = true)
    (k__law_lowest : PySem.W.keepIn K (.ref f__law_lowest) = true)
    (a__law_is_ratio : PySem.W.nsIn K mainGlobals "_law_is_ratio" = some (some (.ref f__law_is_ratio)))
    (l__law_is_ratio : K.lookup f__law_is_ratio = some ⟨oc__law_is_ratio, od__law_is_ratio, .func (PySem.W.fnOf "_law_is_ratio" "_law_is_ratio" (defArgs s__law_is_ratio) (defBody s__law_is_ratio) (defScope s__law_is_ratio) .none kV__law_is_ratio dc__law_is_ratio pm__law_is_ratio an__law_is_ratio cd__law_is_ratio ct__law_is_ratio), sl__law_is_ratio⟩)
    (c__law_is_ratio : PySem.W.codeIn K cd__law_is_ratio "_law_is_ratio" = true)
    (k__law_is_ratio : PySem.W.keepIn K (.ref f__law_is_ratio) = true)
    (a__law_drawn : PySem.W.nsIn K mainGlobals "_law_drawn" = some (some (.ref f__law_drawn)))
    (l__law_drawn : K.lookup f__law_drawn = some ⟨oc__law_drawn, od__law_drawn, .func (PySem.W.fnOf "_law_drawn" "_law_drawn" (defArgs s__law_drawn) (defBody s__law_drawn) (defScope s__law_drawn) .none kV__law_drawn dc__law_drawn pm__law_drawn an__law_drawn cd__law_drawn ct__law_drawn), sl__law_drawn⟩)
    (c__law_drawn : PySem.W.codeIn K cd__law_drawn "_law_drawn" = true)
    (k__law_drawn : PySem.W.keepIn K (.ref f__law_drawn) = true)
    (a__law_is : PySem.W.nsIn K mainGlobals "_law_is" = some (some (.ref f__law_is)))
    (l__law_is : K.lookup f__law_is = some ⟨oc__law_is, od__law_is, .func (PySem.W.fnOf "_law_is" "_law_is" (defArgs s__law_is) (defBody s__law_is) (defScope s__law_is) .none kV__law_is dc__law_is pm__law_is an__law_is cd__law_is ct__law_is), sl__law_is⟩)
    (c__law_is : PySem.W.codeIn K cd__law_is "_law_is" = true)
    (k__law_is : PySem.W.keepIn K (.ref f__law_is) = true)
    (a__law_refused : PySem.W.nsIn K mainGlobals "_law_refused" = some (some (.ref f__law_refused)))
    (l__law_refused : K.lookup f__law_refused = some ⟨oc__law_refused, od__law_refused, .func (PySem.W.fnOf "_law_refused" "_law_refused" (defArgs s__law_refused) (defBody s__law_refused) (defScope s__law_refused) .none kV__law_refused dc__law_refused pm__law_refused an__law_refused cd__law_refused ct__law_refused), sl__law_refused⟩)
    (c__law_refused : PySem.W.codeIn K cd__law_refused "_law_refused" = true)
    (k__law_refused : PySem.W.keepIn K (.ref f__law_refused) = true)
    (a__law_pair_right : PySem.W.nsIn K mainGlobals "_law_pair_right" = some (some (.ref f__law_pair_right)))
    (l__law_pair_right : K.lookup f__law_pair_right = some ⟨oc__law_pair_right, od__law_pair_right, .func (PySem.W.fnOf "_law_pair_right" "_law_pair_right" (defArgs s__law_pair_right) (defBody s__law_pair_right) (defScope s__law_pair_right) .none kV__law_pair_right dc__law_pair_right pm__law_pair_right an__law_pair_right cd__law_pair_right ct__law_pair_right), sl__law_pair_right⟩)
    (c__law_pair_right : PySem.W.codeIn K cd__law_pair_right "_law_pair_right" = true)
    (k__law_pair_right : PySem.W.keepIn K (.ref f__law_pair_right) = true)
    (a_law : PySem.W.nsIn K mainGlobals "law" = some (some (.ref f_law)))
    (l_law : K.lookup f_law = some ⟨oc_law, od_law, .func (PySem.W.fnOf "law" "law" (defArgs s_law) (defBody s_law) (defScope s_law) .none kV_law dc_law pm_law an_law cd_law ct_law), sl_law⟩)
    (c_law : PySem.W.codeIn K cd_law "law" = true)
    (k_law : PySem.W.keepIn K (.ref f_law) = true)
    (n_abs : PySem.W.nsIn K mainGlobals "abs" = some none)
    (n_bool : PySem.W.nsIn K mainGlobals "bool" = some none)
    (n_gcd : PySem.W.nsIn K mainGlobals "gcd" = some (some (.builtin "math.gcd")))
    (n_int : PySem.W.nsIn K mainGlobals "int" = some none)
    (n_isinstance : PySem.W.nsIn K mainGlobals "isinstance" = some none)
    (n_len : PySem.W.nsIn K mainGlobals "len" = some none)
    (n_max : PySem.W.nsIn K mainGlobals "max" = some none)
    (n_range : PySem.W.nsIn K mainGlobals "range" = some none)
    (n_tuple : PySem.W.nsIn K mainGlobals "tuple" = some none)
    (xg_BadRatio : PySem.W.nsIn K mainGlobals "BadRatio" = some (some (.ref a_BadRatio)))
    (xx_BadRatio : PySem.W.excIn K a_BadRatio [.type "ValueError", .type "Exception", .type "BaseException", .type "object"] "ValueError.__new__" = true)
    (xk_BadRatio : PySem.W.keepIn K (.ref a_BadRatio) = true)
    (xb_BadRatio : PySem.W.subIn K (.ref a_BadRatio) (.type "BaseException") = some true)
    (xt_BadRatio : PySem.W.typeIn K (.ref a_BadRatio) = some (.type "type"))
    (xg_ByZero : PySem.W.nsIn K mainGlobals "ByZero" = some (some (.ref a_ByZero)))
    (xx_ByZero : PySem.W.excIn K a_ByZero [.type "ValueError", .type "Exception", .type "BaseException", .type "object"] "ValueError.__new__" = true)
    (xk_ByZero : PySem.W.keepIn K (.ref a_ByZero) = true)
    (xb_ByZero : PySem.W.subIn K (.ref a_ByZero) (.type "BaseException") = some true)
    (xt_ByZero : PySem.W.typeIn K (.ref a_ByZero) = some (.type "type"))
    (xg_KinkError : PySem.W.nsIn K mainGlobals "KinkError" = some (some (.ref a_KinkError)))
    (xx_KinkError : PySem.W.excIn K a_KinkError [.type "ValueError", .type "Exception", .type "BaseException", .type "object"] "ValueError.__new__" = true)
    (xk_KinkError : PySem.W.keepIn K (.ref a_KinkError) = true)
    (xb_KinkError : PySem.W.subIn K (.ref a_KinkError) (.type "BaseException") = some true)
    (xt_KinkError : PySem.W.typeIn K (.ref a_KinkError) = some (.type "type"))
    (y_BadRatio : PySem.W.isClsIn K a_BadRatio = true)
    (y_ByZero : PySem.W.isClsIn K a_ByZero = true)
    (y_KinkError : PySem.W.isClsIn K a_KinkError = true)
    (z_ByZero_ByZero : PySem.W.subIn K (.ref a_ByZero) (.ref a_ByZero) = some true)
    (ehg_ByZero : PySem.W.findIn K (.ref a_ByZero) "__getattribute__" = some (some (.builtin "BaseException.__getattribute__")))
    (ehk_ByZero : PySem.W.findIn K (.ref a_ByZero) "__getattr__" = some none)
    (ehs_ByZero : PySem.W.subIn K (.ref a_ByZero) (.type "BaseException") = some true)
    (ehd_ByZero : PySem.W.hasDictIn K a_ByZero = true)
    (eha_ByZero : PySem.W.findIn K (.ref a_ByZero) "__class__" = some (some (.builtin "object.__class__")))
    (ehn_ByZero : PySem.W.specialIn K (.builtin "object.__class__") "__get__" = some (some (.builtin "getset_descriptor.__get__")))
    (eht_ByZero : PySem.W.takesIn K (.builtin "object.__class__") = some true)
    (ehm_ByZero : PySem.W.mroIn K a_ByZero (.type "object") = some true)
    (w_ByZero_BadRatio : PySem.W.subIn K (.ref a_ByZero) (.ref a_BadRatio) = some false)
    (v_ByZero_BadRatio : (Value.ref a_ByZero == Value.ref a_BadRatio) = false)
    (w_ByZero_KinkError : PySem.W.subIn K (.ref a_ByZero) (.ref a_KinkError) = some true)
    : ∃ fd : FuncData, (∀ (s : Shared) (u : Value), BindsTo s fd ⟨[u], []⟩ [("script", u)]) ∧ ∀ base : Heap, K.In base → base.Ns mainGlobals mg → FnOk P w K mg base (L2.CX P w) 5 fa fd ["script"] (spLaw K) := by
  have e := hfa.symm.trans (PySem.W.mg_of X G a_law)
  cases e
  have U_make : FunD K "make" "make" (defArgs s_make) (defBody s_make) (defScope s_make) [.int 1] [] f_make _ := ⟨⟨oc_make, od_make, _, kV_make, dc_make, pm_make, an_make, cd_make, ct_make, sl_make, rfl, l_make, c_make, .inr ⟨by simp, T_make, _, [.int 1 tT_make], nT_make, rfl, t_make, rfl, .cons ⟨_, rfl⟩ .nil⟩, .inl rfl⟩, k_make⟩
  have U_of := fun_mk (st := s_of) l_of c_of k_of
  have b_of := U_of.binds (ps := ["integer"]) fun _ _ _ _ _ _ us hl => match us, hl with | [_], _ => rfl
  have U_add := fun_mk (st := s_add) l_add c_add k_add
  have b_add := U_add.binds (ps := ["one", "other"]) fun _ _ _ _ _ _ us hl => match us, hl with | [_, _], _ => rfl
  have U_subtract := fun_mk (st := s_subtract) l_subtract c_subtract k_subtract
  have b_subtract := U_subtract.binds (ps := ["one", "other"]) fun _ _ _ _ _ _ us hl => match us, hl with | [_, _], _ => rfl
  have U_multiply := fun_mk (st := s_multiply) l_multiply c_multiply k_multiply
  have b_multiply := U_multiply.binds (ps := ["one", "other"]) fun _ _ _ _ _ _ us hl => match us, hl with | [_, _], _ => rfl
  have U_divide := fun_mk (st := s_divide) l_divide c_divide k_divide
  have b_divide := U_divide.binds (ps := ["one", "other"]) fun _ _ _ _ _ _ us hl => match us, hl with | [_, _], _ => rfl
  have U_negative := fun_mk (st := s_negative) l_negative c_negative k_negative
  have b_negative := U_negative.binds (ps := ["ratio"]) fun _ _ _ _ _ _ us hl => match us, hl with | [_], _ => rfl
  have U_absolute := fun_mk (st := s_absolute) l_absolute c_absolute k_absolute
  have b_absolute := U_absolute.binds (ps := ["ratio"]) fun _ _ _ _ _ _ us hl => match us, hl with | [_], _ => rfl
  have U__law_cell := fun_mk (st := s__law_cell) l__law_cell c__law_cell k__law_cell
  have b__law_cell := U__law_cell.binds (ps := ["script", "k"]) fun _ _ _ _ _ _ us hl => match us, hl with | [_, _], _ => rfl
  have U__law_common := fun_mk (st := s__law_common) l__law_common c__law_common k__law_common
  have b__law_common := U__law_common.binds (ps := ["one", "other"]) fun _ _ _ _ _ _ us hl => match us, hl with | [_, _], _ => rfl
  have U__law_lowest := fun_mk (st := s__law_lowest) l__law_lowest c__law_lowest k__law_lowest
  have b__law_lowest := U__law_lowest.binds (ps := ["above", "below"]) fun _ _ _ _ _ _ us hl => match us, hl with | [_, _], _ => rfl
  have U__law_is_ratio := fun_mk (st := s__law_is_ratio) l__law_is_ratio c__law_is_ratio k__law_is_ratio
  have b__law_is_ratio := U__law_is_ratio.binds (ps := ["value"]) fun _ _ _ _ _ _ us hl => match us, hl with | [_], _ => rfl
  have U__law_drawn := fun_mk (st := s__law_drawn) l__law_drawn c__law_drawn k__law_drawn
  have b__law_drawn := U__law_drawn.binds (ps := ["one", "other", "choice"]) fun _ _ _ _ _ _ us hl => match us, hl with | [_, _, _], _ => rfl
  have U__law_is := fun_mk (st := s__law_is) l__law_is c__law_is k__law_is
  have b__law_is := U__law_is.binds (ps := ["actual", "above", "below"]) fun _ _ _ _ _ _ us hl => match us, hl with | [_, _, _], _ => rfl
  have U__law_refused := fun_mk (st := s__law_refused) l__law_refused c__law_refused k__law_refused
  have b__law_refused := U__law_refused.binds (ps := ["one", "choice"]) fun _ _ _ _ _ _ us hl => match us, hl with | [_, _], _ => rfl
  have U__law_pair_right := fun_mk (st := s__law_pair_right) l__law_pair_right c__law_pair_right k__law_pair_right
  have b__law_pair_right := U__law_pair_right.binds (ps := ["one", "other"]) fun _ _ _ _ _ _ us hl => match us, hl with | [_, _], _ => rfl
  have U_law := fun_mk (st := s_law) l_law c_law k_law
  have m_abs := PySem.W.mg_none_of X G n_abs
  have m_bool := PySem.W.mg_none_of X G n_bool
  have m_gcd := PySem.W.mg_of X G n_gcd
  have m_int := PySem.W.mg_none_of X G n_int
  have m_isinstance := PySem.W.mg_none_of X G n_isinstance
  have m_len := PySem.W.mg_none_of X G n_len
  have m_max := PySem.W.mg_none_of X G n_max
  have m_range := PySem.W.mg_none_of X G n_range
  have m_tuple := PySem.W.mg_none_of X G n_tuple
  have x_BadRatio : XC K mg "BadRatio" a_BadRatio := ⟨PySem.W.mg_of X G xg_BadRatio, xx_BadRatio, xk_BadRatio, xb_BadRatio, xt_BadRatio⟩
  have x_ByZero : XC K mg "ByZero" a_ByZero := ⟨PySem.W.mg_of X G xg_ByZero, xx_ByZero, xk_ByZero, xb_ByZero, xt_ByZero⟩
  have x_KinkError : XC K mg "KinkError" a_KinkError := ⟨PySem.W.mg_of X G xg_KinkError, xx_KinkError, xk_KinkError, xb_KinkError, xt_KinkError⟩
  have e_ByZero : ExcC K a_ByZero := ⟨ehg_ByZero, ehk_ByZero, ehs_ByZero, ehd_ByZero, eha_ByZero, ehn_ByZero, eht_ByZero, ehm_ByZero⟩
  have q_ByZero_ByZero := exm_of xb_ByZero y_ByZero xt_ByZero z_ByZero_ByZero
  have i_ByZero_BadRatio := kit_ofF v_ByZero_BadRatio y_BadRatio xt_BadRatio w_ByZero_BadRatio
  have i_ByZero_KinkError := kit_ofT y_KinkError xt_KinkError w_ByZero_KinkError
  refine ⟨PySem.W.fnOf "law" "law" (defArgs s_law) (defBody s_law) (defScope s_law) .none kV_law dc_law pm_law an_law cd_law ct_law, fun s v => .of_eq rfl, fun base _ _ => ?_⟩
  have D_make := ok_make (P := P) (w := w) (base := base) U_make (PySem.W.mg_of X G a_make) m_gcd x_ByZero
  have D_of := ok_of (P := P) (w := w) (base := base) U_of b_of (PySem.W.mg_of X G a_of) 
  have D_add := ok_add (P := P) (w := w) (base := base) U_add b_add (PySem.W.mg_of X G a_add) D_make
  have D_subtract := ok_subtract (P := P) (w := w) (base := base) U_subtract b_subtract (PySem.W.mg_of X G a_subtract) D_make
  have D_multiply := ok_multiply (P := P) (w := w) (base := base) U_multiply b_multiply (PySem.W.mg_of X G a_multiply) D_make
  have D_divide := ok_divide (P := P) (w := w) (base := base) U_divide b_divide (PySem.W.mg_of X G a_divide) D_make
  have D_negative := ok_negative (P := P) (w := w) (base := base) U_negative b_negative (PySem.W.mg_of X G a_negative) 
  have D_absolute := ok_absolute (P := P) (w := w) (base := base) U_absolute b_absolute (PySem.W.mg_of X G a_absolute) m_abs
  have D__law_cell := ok__law_cell (P := P) (w := w) (base := base) U__law_cell b__law_cell (PySem.W.mg_of X G a__law_cell) m_abs m_int m_len
  have D__law_common := ok__law_common (P := P) (w := w) (base := base) U__law_common b__law_common (PySem.W.mg_of X G a__law_common) m_abs m_int
  have D__law_lowest := ok__law_lowest (P := P) (w := w) (base := base) U__law_lowest b__law_lowest (PySem.W.mg_of X G a__law_lowest) D__law_common
  have D__law_is_ratio := ok__law_is_ratio (P := P) (w := w) (base := base) U__law_is_ratio b__law_is_ratio (PySem.W.mg_of X G a__law_is_ratio) D__law_common m_bool m_int m_isinstance m_len m_tuple
  have D__law_drawn := ok__law_drawn (P := P) (w := w) (base := base) U__law_drawn b__law_drawn (PySem.W.mg_of X G a__law_drawn) D__law_lowest m_abs m_int
  have D__law_is := ok__law_is (P := P) (w := w) (base := base) U__law_is b__law_is (PySem.W.mg_of X G a__law_is) D__law_is_ratio
  have D__law_refused := ok__law_refused (P := P) (w := w) (base := base) U__law_refused b__law_refused (PySem.W.mg_of X G a__law_refused) D__law_lowest D_divide D_make m_isinstance x_BadRatio x_ByZero x_KinkError q_ByZero_ByZero e_ByZero i_ByZero_KinkError i_ByZero_BadRatio
  have D__law_pair_right := ok__law_pair_right (P := P) (w := w) (base := base) U__law_pair_right b__law_pair_right (PySem.W.mg_of X G a__law_pair_right) D__law_is D_absolute D_add D_divide D_multiply D_negative D_subtract m_abs
  exact law_of (ok_law U_law D__law_cell D__law_drawn D__law_is D__law_pair_right D__law_refused D_make D_of m_int m_len m_max m_range) law_true
end KM
open PySem PySem.W PyProof.Rows
set_option maxHeartbeats 0 in
theorem PySem.Challenge.cw_kinkmeasure_k01_arithmetic_is_exact_holds : PySem.Challenge.rw_kinkmeasure_k01_arithmetic_is_exact.Holds := by
  w_on; o_law; k_head; (case hw => w_witness2)
  k_fill
  refine L2.walk_ofB (l := PySem.Challenge.rw_kinkmeasure_k01_arithmetic_is_exact) (n := 63) (k := 5) (x := "script") (CX := fun w => L2.CX PySem.Challenge.rw_kinkmeasure_k01_arithmetic_is_exact.prog w) (sp := fun w => PD.spLaw _) rfl (by decide) rfl ⟨rfl, by decide, by decide⟩ (fun w h Y => PySem.W.kIn_of Y) ?F (fun w H a ns hl hb _ hS => ⟨a, ns, rfl, hS, hl, hb, fun _ => rfl⟩) (fun w H s e s' h => by obtain ⟨_, _, _, _, _, _, z⟩ := h; exact z.2.2.2.2.2.2)
  case F =>
    intro w mg fa h KX G hmg
    refine' KM.all_mk KX G hmg ?a_make ?l_make ?c_make ?k_make ?t_make ?a_of ?l_of ?c_of ?k_of ?a_add ?l_add ?c_add ?k_add ?a_subtract ?l_subtract ?c_subtract ?k_subtract ?a_multiply ?l_multiply ?c_multiply ?k_multiply ?a_divide ?l_divide ?c_divide ?k_divide ?a_negative ?l_negative ?c_negative ?k_negative ?a_absolute ?l_absolute ?c_absolute ?k_absolute ?a__law_cell ?l__law_cell ?c__law_cell ?k__law_cell ?a__law_common ?l__law_common ?c__law_common ?k__law_common ?a__law_lowest ?l__law_lowest ?c__law_lowest ?k__law_lowest ?a__law_is_ratio ?l__law_is_ratio ?c__law_is_ratio ?k__law_is_ratio ?a__law_drawn ?l__law_drawn ?c__law_drawn ?k__law_drawn ?a__law_is ?l__law_is ?c__law_is ?k__law_is ?a__law_refused ?l__law_refused ?c__law_refused ?k__law_refused ?a__law_pair_right ?l__law_pair_right ?c__law_pair_right ?k__law_pair_right ?a_law ?l_law ?c_law ?k_law ?n_abs ?n_bool ?n_gcd ?n_int ?n_isinstance ?n_len ?n_max ?n_range ?n_tuple ?xg_BadRatio ?xx_BadRatio ?xk_BadRatio ?xb_BadRatio ?xt_BadRatio ?xg_ByZero ?xx_ByZero ?xk_ByZero ?xb_ByZero ?xt_ByZero ?xg_KinkError ?xx_KinkError ?xk_KinkError ?xb_KinkError ?xt_KinkError ?y_BadRatio ?y_ByZero ?y_KinkError ?z_ByZero_ByZero ?ehg_ByZero ?ehk_ByZero ?ehs_ByZero ?ehd_ByZero ?eha_ByZero ?ehn_ByZero ?eht_ByZero ?ehm_ByZero ?w_ByZero_BadRatio ?v_ByZero_BadRatio ?w_ByZero_KinkError
    case a_make => k_is
    case l_make => k_is
    case c_make => k_is
    case k_make => k_is
    case t_make => k_is
    case a_of => k_is
    case l_of => k_is
    case c_of => k_is
    case k_of => k_is
    case a_add => k_is
    case l_add => k_is
    case c_add => k_is
    case k_add => k_is
    case a_subtract => k_is
    case l_subtract => k_is
    case c_subtract => k_is
    case k_subtract => k_is
    case a_multiply => k_is
    case l_multiply => k_is
    case c_multiply => k_is
    case k_multiply => k_is
    case a_divide => k_is
    case l_divide => k_is
    case c_divide => k_is
    case k_divide => k_is
    case a_negative => k_is
    case l_negative => k_is
    case c_negative => k_is
    case k_negative => k_is
    case a_absolute => k_is
    case l_absolute => k_is
    case c_absolute => k_is
    case k_absolute => k_is
    case a__law_cell => k_is
    case l__law_cell => k_is
    case c__law_cell => k_is
    case k__law_cell => k_is
    case a__law_common => k_is
    case l__law_common => k_is
    case c__law_common => k_is
    case k__law_common => k_is
    case a__law_lowest => k_is
    case l__law_lowest => k_is
    case c__law_lowest => k_is
    case k__law_lowest => k_is
    case a__law_is_ratio => k_is
    case l__law_is_ratio => k_is
    case c__law_is_ratio => k_is
    case k__law_is_ratio => k_is
    case a__law_drawn => k_is
    case l__law_drawn => k_is
    case c__law_drawn => k_is
    case k__law_drawn => k_is
    case a__law_is => k_is
    case l__law_is => k_is
    case c__law_is => k_is
    case k__law_is => k_is
    case a__law_refused => k_is
    case l__law_refused => k_is
    case c__law_refused => k_is
    case k__law_refused => k_is
    case a__law_pair_right => k_is
    case l__law_pair_right => k_is
    case c__law_pair_right => k_is
    case k__law_pair_right => k_is
    case a_law => k_is
    case l_law => k_is
    case c_law => k_is
    case k_law => k_is
    case n_abs => k_is
    case n_bool => k_is
    case n_gcd => k_is
    case n_int => k_is
    case n_isinstance => k_is
    case n_len => k_is
    case n_max => k_is
    case n_range => k_is
    case n_tuple => k_is
    case xg_BadRatio => k_is
    case xx_BadRatio => k_exc
    case xk_BadRatio => k_is
    case xb_BadRatio => k_is
    case xt_BadRatio => k_is
    case xg_ByZero => k_is
    case xx_ByZero => k_exc
    case xk_ByZero => k_is
    case xb_ByZero => k_is
    case xt_ByZero => k_is
    case xg_KinkError => k_is
    case xx_KinkError => k_exc
    case xk_KinkError => k_is
    case xb_KinkError => k_is
    case xt_KinkError => k_is
    case y_BadRatio => k_is
    case y_ByZero => k_is
    case y_KinkError => k_is
    case z_ByZero_ByZero => first | rfl | k_is
    case ehg_ByZero => k_is
    case ehk_ByZero => k_is
    case ehs_ByZero => k_is
    case ehd_ByZero => k_is
    case eha_ByZero => k_is
    case ehn_ByZero => k_is
    case eht_ByZero => k_is
    case ehm_ByZero => k_is
    case w_ByZero_BadRatio => first | rfl | k_is
    case v_ByZero_BadRatio => decide
    case w_ByZero_KinkError => first | rfl | k_is

